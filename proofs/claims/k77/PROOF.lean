import PyProof.Rows.All
import Wide.All
import OpenK.AllK
import Wide.FinOn
import KE.KStateDown
import Lean
import HandS.ForMost
import HandS.Wide
import HandS.WideBits
import HandS.IsInst
import HandS.Walk
import HandS.Evl
import HandS.Style
import HandS.NoneIn
import HandS.Defaults
import HandS.Head0
import HandS.Head1
import HandS.Head2
import HandS.HeadEnd
import HandS.HeadHook1
import HandS.HeadHook2
import HandS.AnyAll
import HandS.Comp
import HandS.Conv
import HandS.Deep
import HandS.Dict
import HandS.DictComp
import HandS.EndTab
import HandS.Exc
import HandS.ExcIs
import HandS.ExcOwn
import HandS.Flow
import HandS.GenBody
import HandS.GenList
import HandS.GenOver
import HandS.HeadHook3
import HandS.HeadHook4
import HandS.HeadWalk
import HandS.Iter
import HandS.Keys
import HandS.More
import HandS.Set
import HandS.SetBool
import HandS.SetFor
import HandS.Small
import HandS.SortInts
import HandS.SortKw
import HandS.SortRule
import HandS.Star
import HandS.Strs
import HandS.Style
import HandS.TryOnly
import HandS.TupAny
import HandS.TupLen
import HandS.TupMul
import HandS.Walk
import HandS.WordsDict
import HandS.WordsExc
import HandS.Zip
import KE.DataMinMax
import KE.GoesEnum
import KE.GoesMore
import KE.GoesSet
import KE.GoesZip
import KE.KDictWalk
import KE.KDictZip
import KE.KNest
import KE.KStar
import PyProof.ConsumeS
import PyProof.GenArm
import PyProof.GenComp
import PyProof.GenCompT
import PyProof.GenQ
import PyProof.ReprLen
import PyProof.ReprRoads
import PyProof.Rows.MatchSeqLen
import PyProof.RulesMatch
import PyProof.RulesMatchSeq
import PyProof.TupleOfGen
import PySem.Challenge.RW_shareones_k77_whole_kinds_apart
set_option Elab.async false
set_option pp.maxSteps 250
set_option linter.all false
set_option maxRecDepth 100000
set_option maxHeartbeats 4000000
namespace Fq
open PySem PySem.Spec PyProof.Rows L2
/-! a dict of the program's top, texts to numbers -/
def entI (e : DictEntry) : Option (Str × Int) := match e.key, e.val with
  | .str x _, .int i _ => some (x, i)
  | _, _ => none
def dicB (K : PySem.W.Frag) (a : Addr) (kvs : List (Str × Int)) : Bool := match K.lookup a with
  | some ⟨_, _, .dict es _, _⟩ => decide (es.toList.map entI = kvs.map some)
  | _ => false
def dl_SIDES : List (Str × Int) := [("less", 1), ("both", 2), ("either", 2), ("oneof", 2), ("pick", 3)]
def dl_ASKED : List (Str × Int) := [("make", 0), ("less", 1), ("both", 2), ("either", 2), ("oneof", 2), ("pick", 3), ("keep", 2), ("late", 1), ("keeper", 2)]
class DW (K : PySem.W.Frag) (w : World) : Prop where
  k_SIDES : ∃ es n, KDict K w (He.ga K "SIDES") es n
  v_SIDES : dicB K (He.ga K "SIDES") dl_SIDES = true
  k_ASKED : ∃ es n, KDict K w (He.ga K "ASKED") es n
  v_ASKED : dicB K (He.ga K "ASKED") dl_ASKED = true
section
variable {P : Program} {w : World} {K : PySem.W.Frag} {mg : Str → Option Value} {base : Heap} [DW K w]
def topS (i : Nat) : Stmt := PySem.Challenge.pw_shareones_k77_whole_kinds_apart.main.body.getD i (.Pass ⟨0, 0, 0, 0⟩)
abbrev FnP (K : PySem.W.Frag) (x : Str) (st : Stmt) (f : Addr) (fd : FuncData) : Prop := FunD K x x (defArgs st) (defBody st) (defScope st) [] [] f fd
abbrev s_is_number : Stmt := topS 1
abbrev N_is_number : List Str := ["thing"]
theorem sc_is_number : FnScope N_is_number ["thing"] (defScope s_is_number) := ⟨rfl, rfl, rfl, by decide +kernel, rfl, by decide +kernel, by decide +kernel⟩
abbrev s_is_within : Stmt := topS 2
abbrev N_is_within : List Str := ["thing", "least", "greatest"]
theorem sc_is_within : FnScope N_is_within ["thing", "least", "greatest"] (defScope s_is_within) := ⟨rfl, rfl, rfl, by decide +kernel, rfl, by decide +kernel, by decide +kernel⟩
abbrev s_common_divisor : Stmt := topS 3
abbrev N_common_divisor : List Str := ["one", "other"]
theorem sc_common_divisor : FnScope N_common_divisor ["one", "other"] (defScope s_common_divisor) := ⟨rfl, rfl, rfl, by decide +kernel, rfl, by decide +kernel, by decide +kernel⟩
abbrev s_is_fraction : Stmt := topS 4
abbrev N_is_fraction : List Str := ["thing", "top", "bottom"]
theorem sc_is_fraction : FnScope N_is_fraction ["thing"] (defScope s_is_fraction) := ⟨rfl, rfl, rfl, by decide +kernel, rfl, by decide +kernel, by decide +kernel⟩
abbrev s_is_share : Stmt := topS 5
abbrev N_is_share : List Str := ["thing"]
theorem sc_is_share : FnScope N_is_share ["thing"] (defScope s_is_share) := ⟨rfl, rfl, rfl, by decide +kernel, rfl, by decide +kernel, by decide +kernel⟩
abbrev s_is_bit : Stmt := topS 8
abbrev N_is_bit : List Str := ["thing"]
theorem sc_is_bit : FnScope N_is_bit ["thing"] (defScope s_is_bit) := ⟨rfl, rfl, rfl, by decide +kernel, rfl, by decide +kernel, by decide +kernel⟩
abbrev s_is_row : Stmt := topS 9
abbrev N_is_row : List Str := ["thing", "bit"]
theorem sc_is_row : FnScope N_is_row ["thing"] (defScope s_is_row) := ⟨rfl, rfl, rfl, by decide +kernel, rfl, by decide +kernel, by decide +kernel⟩
abbrev s_is_table : Stmt := topS 12
abbrev N_is_table : List Str := ["thing", "number"]
theorem sc_is_table : FnScope N_is_table ["thing"] (defScope s_is_table) := ⟨rfl, rfl, rfl, by decide +kernel, rfl, by decide +kernel, by decide +kernel⟩
abbrev s_is_plain : Stmt := topS 13
abbrev N_is_plain : List Str := ["thing", "size", "step", "start", "wide", "taps", "numbers"]
theorem sc_is_plain : FnScope N_is_plain ["thing"] (defScope s_is_plain) := ⟨rfl, rfl, rfl, by decide +kernel, rfl, by decide +kernel, by decide +kernel⟩
abbrev s_is_around : Stmt := topS 14
abbrev N_is_around : List Str := ["thing", "word", "many", "inner"]
theorem sc_is_around : FnScope N_is_around ["thing"] (defScope s_is_around) := ⟨rfl, rfl, rfl, by decide +kernel, rfl, by decide +kernel, by decide +kernel⟩
abbrev s_is_maker : Stmt := topS 15
abbrev N_is_maker : List Str := ["thing", "inner", "around"]
theorem sc_is_maker : FnScope N_is_maker ["thing"] (defScope s_is_maker) := ⟨rfl, rfl, rfl, by decide +kernel, rfl, by decide +kernel, by decide +kernel⟩
abbrev s_counter_round : Stmt := topS 16
abbrev N_counter_round : List Str := ["size", "step", "start", "t"]
theorem sc_counter_round : FnScope N_counter_round ["size", "step", "start"] (defScope s_counter_round) := ⟨rfl, rfl, rfl, by decide +kernel, rfl, by decide +kernel, by decide +kernel⟩
abbrev s_last_for_first : Stmt := topS 17
abbrev N_last_for_first : List Str := ["number", "wide", "told", "at"]
theorem sc_last_for_first : FnScope N_last_for_first ["number", "wide"] (defScope s_last_for_first) := ⟨rfl, rfl, rfl, by decide +kernel, rfl, by decide +kernel, by decide +kernel⟩
abbrev s_size_of : Stmt := topS 18
abbrev N_size_of : List Str := ["wide"]
theorem sc_size_of : FnScope N_size_of ["wide"] (defScope s_size_of) := ⟨rfl, rfl, rfl, by decide +kernel, rfl, by decide +kernel, by decide +kernel⟩
abbrev s_turned_round : Stmt := topS 19
abbrev N_turned_round : List Str := ["wide", "start", "size", "t"]
theorem sc_turned_round : FnScope N_turned_round ["wide", "start"] (defScope s_turned_round) := ⟨rfl, rfl, rfl, by decide +kernel, rfl, by decide +kernel, by decide +kernel⟩
abbrev s_odd_ones : Stmt := topS 20
abbrev N_odd_ones : List Str := ["number", "odd"]
theorem sc_odd_ones : FnScope N_odd_ones ["number"] (defScope s_odd_ones) := ⟨rfl, rfl, rfl, by decide +kernel, rfl, by decide +kernel, by decide +kernel⟩
abbrev s_held_round : Stmt := topS 21
abbrev N_held_round : List Str := ["wide", "taps", "start", "size", "told", "held"]
theorem sc_held_round : FnScope N_held_round ["wide", "taps", "start"] (defScope s_held_round) := ⟨rfl, rfl, rfl, by decide +kernel, rfl, by decide +kernel, by decide +kernel⟩
abbrev s_plain_round : Stmt := topS 22
abbrev N_plain_round : List Str := ["maker", "size", "step", "start", "wide", "taps", "numbers"]
theorem sc_plain_round : FnScope N_plain_round ["maker"] (defScope s_plain_round) := ⟨rfl, rfl, rfl, by decide +kernel, rfl, by decide +kernel, by decide +kernel⟩
abbrev s_round_of : Stmt := topS 23
abbrev N_round_of : List Str := ["maker", "many", "inner", "length", "by"]
theorem sc_round_of : FnScope N_round_of ["maker"] (defScope s_round_of) := ⟨rfl, rfl, rfl, by decide +kernel, rfl, by decide +kernel, by decide +kernel⟩
abbrev s_is_part : Stmt := topS 30
abbrev N_is_part : List Str := ["thing"]
theorem sc_is_part : FnScope N_is_part ["thing"] (defScope s_is_part) := ⟨rfl, rfl, rfl, by decide +kernel, rfl, by decide +kernel, by decide +kernel⟩
abbrev s_sides_of : Stmt := topS 31
abbrev N_sides_of : List Str := ["part"]
theorem sc_sides_of : FnScope N_sides_of ["part"] (defScope s_sides_of) := ⟨rfl, rfl, rfl, by decide +kernel, rfl, by decide +kernel, by decide +kernel⟩
abbrev s_is_formula : Stmt := topS 32
abbrev N_is_formula : List Str := ["thing", "waiting", "parts", "part", "depth", "side"]
theorem sc_is_formula : FnScope N_is_formula ["thing"] (defScope s_is_formula) := ⟨rfl, rfl, rfl, by decide +kernel, rfl, by decide +kernel, by decide +kernel⟩
abbrev s_asks_of : Stmt := topS 38
abbrev N_asks_of : List Str := ["piece"]
theorem sc_asks_of : FnScope N_asks_of ["piece"] (defScope s_asks_of) := ⟨rfl, rfl, rfl, by decide +kernel, rfl, by decide +kernel, by decide +kernel⟩
abbrev s_is_ahead : Stmt := topS 39
abbrev N_is_ahead : List Str := ["thing", "bit"]
theorem sc_is_ahead : FnScope N_is_ahead ["thing"] (defScope s_is_ahead) := ⟨rfl, rfl, rfl, by decide +kernel, rfl, by decide +kernel, by decide +kernel⟩
abbrev s_is_shaped : Stmt := topS 40
abbrev N_is_shaped : List Str := ["piece", "maker", "k", "a", "b", "first", "ahead", "most", "at"]
theorem sc_is_shaped : FnScope N_is_shaped ["piece"] (defScope s_is_shaped) := ⟨rfl, rfl, rfl, by decide +kernel, rfl, by decide +kernel, by decide +kernel⟩
abbrev s_is_piece : Stmt := topS 41
abbrev N_is_piece : List Str := ["thing", "number", "many", "greatest", "asked"]
theorem sc_is_piece : FnScope N_is_piece ["thing", "number", "many"] (defScope s_is_piece) := ⟨rfl, rfl, rfl, by decide +kernel, rfl, by decide +kernel, by decide +kernel⟩
abbrev s_is_machine : Stmt := topS 42
abbrev N_is_machine : List Str := ["thing", "number", "piece"]
theorem sc_is_machine : FnScope N_is_machine ["thing"] (defScope s_is_machine) := ⟨rfl, rfl, rfl, by decide +kernel, rfl, by decide +kernel, by decide +kernel⟩
abbrev s__law_box : Stmt := topS 44
abbrev N__law_box : List Str := ["_law_script", "_law_k", "_law_cell"]
theorem sc__law_box : FnScope N__law_box ["_law_script", "_law_k"] (defScope s__law_box) := ⟨rfl, rfl, rfl, by decide +kernel, rfl, by decide +kernel, by decide +kernel⟩
abbrev s__law_take : Stmt := topS 45
abbrev N__law_take : List Str := ["_law_box_here", "_law_many", "_law_found", "_law_once"]
theorem sc__law_take : FnScope N__law_take ["_law_box_here", "_law_many"] (defScope s__law_take) := ⟨rfl, rfl, rfl, by decide +kernel, rfl, by decide +kernel, by decide +kernel⟩
abbrev s__law_folded : Stmt := topS 46
abbrev N__law_folded : List Str := ["_law_script", "_law_many", "_law_cells", "_law_k", "_law_cell"]
theorem sc__law_folded : FnScope N__law_folded ["_law_script", "_law_many"] (defScope s__law_folded) := ⟨rfl, rfl, rfl, by decide +kernel, rfl, by decide +kernel, by decide +kernel⟩
abbrev s__law_row : Stmt := topS 47
abbrev N__law_row : List Str := ["_law_box_here", "_law_long_here", "_law_way", "_law_at", "_law_bit", "_law_every", "_law_first", "_law_place"]
theorem sc__law_row : FnScope N__law_row ["_law_box_here", "_law_long_here"] (defScope s__law_row) := ⟨rfl, rfl, rfl, by decide +kernel, rfl, by decide +kernel, by decide +kernel⟩
abbrev s__law_long : Stmt := topS 48
abbrev N__law_long : List Str := ["_law_box_here"]
theorem sc__law_long : FnScope N__law_long ["_law_box_here"] (defScope s__law_long) := ⟨rfl, rfl, rfl, by decide +kernel, rfl, by decide +kernel, by decide +kernel⟩
abbrev s__law_divisor : Stmt := topS 49
abbrev N__law_divisor : List Str := ["_law_one", "_law_other"]
theorem sc__law_divisor : FnScope N__law_divisor ["_law_one", "_law_other"] (defScope s__law_divisor) := ⟨rfl, rfl, rfl, by decide +kernel, rfl, by decide +kernel, by decide +kernel⟩
abbrev s__law_powers : Stmt := topS 50
abbrev N__law_powers : List Str := []
theorem sc__law_powers : FnScope N__law_powers [] (defScope s__law_powers) := ⟨rfl, rfl, rfl, by decide +kernel, rfl, by decide +kernel, by decide +kernel⟩
abbrev s__law_plain : Stmt := topS 51
abbrev N__law_plain : List Str := ["_law_box_here", "_law_way", "_law_great", "_law_many", "_law_steps", "_law_most", "_law_wide", "_law_step", "_law_place"]
theorem sc__law_plain : FnScope N__law_plain ["_law_box_here"] (defScope s__law_plain) := ⟨rfl, rfl, rfl, by decide +kernel, rfl, by decide +kernel, by decide +kernel⟩
abbrev s__law_base : Stmt := topS 52
abbrev N__law_base : List Str := ["_law_maker_here", "_law_found", "_law_many", "_law_t", "_law_bits", "_law_held", "_law_odd", "_law_power", "_law_bit"]
theorem sc__law_base : FnScope N__law_base ["_law_maker_here"] (defScope s__law_base) := ⟨rfl, rfl, rfl, by decide +kernel, rfl, by decide +kernel, by decide +kernel⟩
abbrev s__law_round : Stmt := topS 53
abbrev N__law_round : List Str := ["_law_maker_here", "_law_inner"]
theorem sc__law_round : FnScope N__law_round ["_law_maker_here"] (defScope s__law_round) := ⟨rfl, rfl, rfl, by decide +kernel, rfl, by decide +kernel, by decide +kernel⟩
abbrev s__law_maker : Stmt := topS 54
abbrev N__law_maker : List Str := ["_law_box_here", "_law_most", "_law_maker_here", "_law_turn", "_law_word", "_law_many", "_law_thing"]
theorem sc__law_maker : FnScope N__law_maker ["_law_box_here", "_law_most"] (defScope s__law_maker) := ⟨rfl, rfl, rfl, by decide +kernel, rfl, by decide +kernel, by decide +kernel⟩
abbrev s__law_formula : Stmt := topS 55
abbrev N__law_formula : List Str := ["_law_box_here", "_law_deep", "_law_many", "_law_wide", "_law_way", "_law_left", "_law_word", "_law_turn"]
theorem sc__law_formula : FnScope N__law_formula ["_law_box_here", "_law_deep", "_law_many", "_law_wide"] (defScope s__law_formula) := ⟨rfl, rfl, rfl, by decide +kernel, rfl, by decide +kernel, by decide +kernel⟩
abbrev s__law_any : Stmt := topS 56
abbrev N__law_any : List Str := ["_law_box_here", "_law_great", "_law_wide"]
theorem sc__law_any : FnScope N__law_any ["_law_box_here"] (defScope s__law_any) := ⟨rfl, rfl, rfl, by decide +kernel, rfl, by decide +kernel, by decide +kernel⟩
abbrev s__law_piece : Stmt := topS 57
abbrev N__law_piece : List Str := ["_law_box_here", "_law_ahead", "_law_maker_here", "_law_way", "_law_a", "_law_b", "_law_c", "_law_some", "_law_turn"]
theorem sc__law_piece : FnScope N__law_piece ["_law_box_here", "_law_ahead"] (defScope s__law_piece) := ⟨rfl, rfl, rfl, by decide +kernel, rfl, by decide +kernel, by decide +kernel⟩
abbrev s__law_told : Stmt := topS 58
abbrev N__law_told : List Str := ["_law_thing"]
theorem sc__law_told : FnScope N__law_told ["_law_thing"] (defScope s__law_told) := ⟨rfl, rfl, rfl, by decide +kernel, rfl, by decide +kernel, by decide +kernel⟩
abbrev s__law_is : Stmt := topS 59
abbrev N__law_is : List Str := ["_law_thing", "_law_due", "_law_elder", "_law_turn", "_law_found", "_law_one"]
theorem sc__law_is : FnScope N__law_is ["_law_thing", "_law_due"] (defScope s__law_is) := ⟨rfl, rfl, rfl, by decide +kernel, rfl, by decide +kernel, by decide +kernel⟩
abbrev s_law : Stmt := topS 60
abbrev N_law : List Str := ["_law_script", "_law_cells", "_law_k", "_law_box_here", "_law_bottom", "_law_top", "_law_by", "_law_share", "_law_row_here", "_law_both_kinds", "_law_machine", "_law_things", "_law_which", "_law_thing", "_law_due", "_law_ahead", "_law_one"]
theorem sc_law : FnScope N_law ["_law_script"] (defScope s_law) := ⟨rfl, rfl, rfl, by decide +kernel, rfl, by decide +kernel, by decide +kernel⟩
/-- the code object of the def at f is the one at c -/
def CodeAt (K : PySem.W.Frag) (f c : Addr) : Prop := ∀ (oc : Value) (od : Option Addr) (fd : FuncData) (osl : Array (Option Value)), K.lookup f = some ⟨oc, od, .func fd, osl⟩ → ∀ b, fd.code = .ref b → b = c
theorem okC {P : Program} {w : World} {K : PySem.W.Frag} {mg : Str → Option Value} {base : Heap} {x : Str} {st : Stmt} {f c : Addr} {fd : FuncData} {N ps : List Str} {k : Nat} {sp : Sp} (F : FnP K x st f fd) (hc : CodeAt K f c) (S : FnScope N ps (defScope st)) (len : ∀ vs H Q E, sp vs H Q E → vs.length = ps.length)
    (hb : ∀ (A : Around) (outer : List Env) (s : Shared) (H : Hp) (vs : List V) (Q : VK) (E : XK), Room k (A.deeper (envOfC x (defScope st) s.heap.objs.size f (.ref c))) → sp vs H Q E →
      ∃ t, PSs (cxOf CX0 P w K mg base N x (defScope st) f (.ref c) A outer s H E) (defBody st) t ∧ t { nx := fun _ H' => Q .non H', rt := Q } (L2.start N vs) H) : FnOk P w K mg base CX0 (k + 1) f fd ps sp := by
  obtain ⟨oc, od, dV, kV, doc, pm, an, cdv, ct, osl, rfl, lk, hcd, _, _⟩ := F.ex
  obtain ⟨b, rfl⟩ := He.codeIn_ref hcd
  have e := hc oc od _ osl lk b rfl
  subst e
  exact fn_of lk hcd S len hb
theorem pe_globI {X : Cx} {x : Str} {i : Int} {pos : Pos} (hg : Gl X x) (hm : ∃ t, X.mg x = some (.int i t)) (hd : (x == ("__debug__" : Str)) = false := by decide) : PE X (.Name x pos) (tC (.int i)) := by
  obtain ⟨t, h⟩ := hm
  exact pe_glob hg h ⟨_, rfl⟩ hd
structure Defs (K : PySem.W.Frag) (mg : Str → Option Value) where
  f_is_number : Addr
  fd_is_number : FuncData
  F_is_number : FnP K "is_number" s_is_number f_is_number fd_is_number
  g_is_number : mg "is_number" = some (.ref f_is_number)
  b_is_number : Binds K fd_is_number ["thing"] []
  f_is_within : Addr
  fd_is_within : FuncData
  F_is_within : FnP K "is_within" s_is_within f_is_within fd_is_within
  g_is_within : mg "is_within" = some (.ref f_is_within)
  b_is_within : Binds K fd_is_within ["thing", "least", "greatest"] []
  f_common_divisor : Addr
  fd_common_divisor : FuncData
  F_common_divisor : FnP K "common_divisor" s_common_divisor f_common_divisor fd_common_divisor
  g_common_divisor : mg "common_divisor" = some (.ref f_common_divisor)
  b_common_divisor : Binds K fd_common_divisor ["one", "other"] []
  f_is_fraction : Addr
  fd_is_fraction : FuncData
  F_is_fraction : FnP K "is_fraction" s_is_fraction f_is_fraction fd_is_fraction
  g_is_fraction : mg "is_fraction" = some (.ref f_is_fraction)
  b_is_fraction : Binds K fd_is_fraction ["thing"] []
  f_is_share : Addr
  fd_is_share : FuncData
  F_is_share : FnP K "is_share" s_is_share f_is_share fd_is_share
  g_is_share : mg "is_share" = some (.ref f_is_share)
  b_is_share : Binds K fd_is_share ["thing"] []
  f_is_bit : Addr
  fd_is_bit : FuncData
  F_is_bit : FnP K "is_bit" s_is_bit f_is_bit fd_is_bit
  g_is_bit : mg "is_bit" = some (.ref f_is_bit)
  b_is_bit : Binds K fd_is_bit ["thing"] []
  f_is_row : Addr
  fd_is_row : FuncData
  F_is_row : FnP K "is_row" s_is_row f_is_row fd_is_row
  g_is_row : mg "is_row" = some (.ref f_is_row)
  b_is_row : Binds K fd_is_row ["thing"] []
  f_is_table : Addr
  fd_is_table : FuncData
  F_is_table : FnP K "is_table" s_is_table f_is_table fd_is_table
  g_is_table : mg "is_table" = some (.ref f_is_table)
  b_is_table : Binds K fd_is_table ["thing"] []
  f_is_plain : Addr
  fd_is_plain : FuncData
  F_is_plain : FnP K "is_plain" s_is_plain f_is_plain fd_is_plain
  g_is_plain : mg "is_plain" = some (.ref f_is_plain)
  b_is_plain : Binds K fd_is_plain ["thing"] []
  f_is_around : Addr
  fd_is_around : FuncData
  F_is_around : FnP K "is_around" s_is_around f_is_around fd_is_around
  g_is_around : mg "is_around" = some (.ref f_is_around)
  b_is_around : Binds K fd_is_around ["thing"] []
  f_is_maker : Addr
  fd_is_maker : FuncData
  F_is_maker : FnP K "is_maker" s_is_maker f_is_maker fd_is_maker
  g_is_maker : mg "is_maker" = some (.ref f_is_maker)
  b_is_maker : Binds K fd_is_maker ["thing"] []
  f_counter_round : Addr
  fd_counter_round : FuncData
  F_counter_round : FnP K "counter_round" s_counter_round f_counter_round fd_counter_round
  g_counter_round : mg "counter_round" = some (.ref f_counter_round)
  b_counter_round : Binds K fd_counter_round ["size", "step", "start"] []
  f_last_for_first : Addr
  fd_last_for_first : FuncData
  F_last_for_first : FnP K "last_for_first" s_last_for_first f_last_for_first fd_last_for_first
  g_last_for_first : mg "last_for_first" = some (.ref f_last_for_first)
  b_last_for_first : Binds K fd_last_for_first ["number", "wide"] []
  f_size_of : Addr
  fd_size_of : FuncData
  F_size_of : FnP K "size_of" s_size_of f_size_of fd_size_of
  g_size_of : mg "size_of" = some (.ref f_size_of)
  b_size_of : Binds K fd_size_of ["wide"] []
  f_turned_round : Addr
  fd_turned_round : FuncData
  F_turned_round : FnP K "turned_round" s_turned_round f_turned_round fd_turned_round
  g_turned_round : mg "turned_round" = some (.ref f_turned_round)
  b_turned_round : Binds K fd_turned_round ["wide", "start"] []
  f_odd_ones : Addr
  fd_odd_ones : FuncData
  F_odd_ones : FnP K "odd_ones" s_odd_ones f_odd_ones fd_odd_ones
  g_odd_ones : mg "odd_ones" = some (.ref f_odd_ones)
  b_odd_ones : Binds K fd_odd_ones ["number"] []
  f_held_round : Addr
  fd_held_round : FuncData
  F_held_round : FnP K "held_round" s_held_round f_held_round fd_held_round
  g_held_round : mg "held_round" = some (.ref f_held_round)
  b_held_round : Binds K fd_held_round ["wide", "taps", "start"] []
  f_plain_round : Addr
  fd_plain_round : FuncData
  F_plain_round : FnP K "plain_round" s_plain_round f_plain_round fd_plain_round
  g_plain_round : mg "plain_round" = some (.ref f_plain_round)
  b_plain_round : Binds K fd_plain_round ["maker"] []
  f_round_of : Addr
  fd_round_of : FuncData
  F_round_of : FnP K "round_of" s_round_of f_round_of fd_round_of
  g_round_of : mg "round_of" = some (.ref f_round_of)
  b_round_of : Binds K fd_round_of ["maker"] []
  f_is_part : Addr
  fd_is_part : FuncData
  F_is_part : FnP K "is_part" s_is_part f_is_part fd_is_part
  g_is_part : mg "is_part" = some (.ref f_is_part)
  b_is_part : Binds K fd_is_part ["thing"] []
  f_sides_of : Addr
  fd_sides_of : FuncData
  F_sides_of : FnP K "sides_of" s_sides_of f_sides_of fd_sides_of
  g_sides_of : mg "sides_of" = some (.ref f_sides_of)
  b_sides_of : Binds K fd_sides_of ["part"] []
  f_is_formula : Addr
  fd_is_formula : FuncData
  F_is_formula : FnP K "is_formula" s_is_formula f_is_formula fd_is_formula
  g_is_formula : mg "is_formula" = some (.ref f_is_formula)
  b_is_formula : Binds K fd_is_formula ["thing"] []
  f_asks_of : Addr
  fd_asks_of : FuncData
  F_asks_of : FnP K "asks_of" s_asks_of f_asks_of fd_asks_of
  g_asks_of : mg "asks_of" = some (.ref f_asks_of)
  b_asks_of : Binds K fd_asks_of ["piece"] []
  f_is_ahead : Addr
  fd_is_ahead : FuncData
  F_is_ahead : FnP K "is_ahead" s_is_ahead f_is_ahead fd_is_ahead
  g_is_ahead : mg "is_ahead" = some (.ref f_is_ahead)
  b_is_ahead : Binds K fd_is_ahead ["thing"] []
  f_is_shaped : Addr
  fd_is_shaped : FuncData
  F_is_shaped : FnP K "is_shaped" s_is_shaped f_is_shaped fd_is_shaped
  g_is_shaped : mg "is_shaped" = some (.ref f_is_shaped)
  b_is_shaped : Binds K fd_is_shaped ["piece"] []
  f_is_piece : Addr
  fd_is_piece : FuncData
  F_is_piece : FnP K "is_piece" s_is_piece f_is_piece fd_is_piece
  g_is_piece : mg "is_piece" = some (.ref f_is_piece)
  b_is_piece : Binds K fd_is_piece ["thing", "number", "many"] []
  f_is_machine : Addr
  fd_is_machine : FuncData
  F_is_machine : FnP K "is_machine" s_is_machine f_is_machine fd_is_machine
  g_is_machine : mg "is_machine" = some (.ref f_is_machine)
  b_is_machine : Binds K fd_is_machine ["thing"] []
  f__law_box : Addr
  fd__law_box : FuncData
  F__law_box : FnP K "_law_box" s__law_box f__law_box fd__law_box
  g__law_box : mg "_law_box" = some (.ref f__law_box)
  b__law_box : Binds K fd__law_box ["_law_script", "_law_k"] []
  f__law_take : Addr
  fd__law_take : FuncData
  F__law_take : FnP K "_law_take" s__law_take f__law_take fd__law_take
  g__law_take : mg "_law_take" = some (.ref f__law_take)
  b__law_take : Binds K fd__law_take ["_law_box_here", "_law_many"] []
  f__law_folded : Addr
  fd__law_folded : FuncData
  F__law_folded : FnP K "_law_folded" s__law_folded f__law_folded fd__law_folded
  g__law_folded : mg "_law_folded" = some (.ref f__law_folded)
  b__law_folded : Binds K fd__law_folded ["_law_script", "_law_many"] []
  f__law_row : Addr
  fd__law_row : FuncData
  F__law_row : FnP K "_law_row" s__law_row f__law_row fd__law_row
  g__law_row : mg "_law_row" = some (.ref f__law_row)
  b__law_row : Binds K fd__law_row ["_law_box_here", "_law_long_here"] []
  f__law_long : Addr
  fd__law_long : FuncData
  F__law_long : FnP K "_law_long" s__law_long f__law_long fd__law_long
  g__law_long : mg "_law_long" = some (.ref f__law_long)
  b__law_long : Binds K fd__law_long ["_law_box_here"] []
  f__law_divisor : Addr
  fd__law_divisor : FuncData
  F__law_divisor : FnP K "_law_divisor" s__law_divisor f__law_divisor fd__law_divisor
  g__law_divisor : mg "_law_divisor" = some (.ref f__law_divisor)
  b__law_divisor : Binds K fd__law_divisor ["_law_one", "_law_other"] []
  f__law_powers : Addr
  fd__law_powers : FuncData
  F__law_powers : FnP K "_law_powers" s__law_powers f__law_powers fd__law_powers
  g__law_powers : mg "_law_powers" = some (.ref f__law_powers)
  b__law_powers : Binds K fd__law_powers [] []
  f__law_plain : Addr
  fd__law_plain : FuncData
  F__law_plain : FnP K "_law_plain" s__law_plain f__law_plain fd__law_plain
  g__law_plain : mg "_law_plain" = some (.ref f__law_plain)
  b__law_plain : Binds K fd__law_plain ["_law_box_here"] []
  f__law_base : Addr
  fd__law_base : FuncData
  F__law_base : FnP K "_law_base" s__law_base f__law_base fd__law_base
  g__law_base : mg "_law_base" = some (.ref f__law_base)
  b__law_base : Binds K fd__law_base ["_law_maker_here"] []
  f__law_round : Addr
  fd__law_round : FuncData
  F__law_round : FnP K "_law_round" s__law_round f__law_round fd__law_round
  g__law_round : mg "_law_round" = some (.ref f__law_round)
  b__law_round : Binds K fd__law_round ["_law_maker_here"] []
  f__law_maker : Addr
  fd__law_maker : FuncData
  F__law_maker : FnP K "_law_maker" s__law_maker f__law_maker fd__law_maker
  g__law_maker : mg "_law_maker" = some (.ref f__law_maker)
  b__law_maker : Binds K fd__law_maker ["_law_box_here", "_law_most"] []
  f__law_formula : Addr
  fd__law_formula : FuncData
  F__law_formula : FnP K "_law_formula" s__law_formula f__law_formula fd__law_formula
  g__law_formula : mg "_law_formula" = some (.ref f__law_formula)
  b__law_formula : Binds K fd__law_formula ["_law_box_here", "_law_deep", "_law_many", "_law_wide"] []
  f__law_any : Addr
  fd__law_any : FuncData
  F__law_any : FnP K "_law_any" s__law_any f__law_any fd__law_any
  g__law_any : mg "_law_any" = some (.ref f__law_any)
  b__law_any : Binds K fd__law_any ["_law_box_here"] []
  f__law_piece : Addr
  fd__law_piece : FuncData
  F__law_piece : FnP K "_law_piece" s__law_piece f__law_piece fd__law_piece
  g__law_piece : mg "_law_piece" = some (.ref f__law_piece)
  b__law_piece : Binds K fd__law_piece ["_law_box_here", "_law_ahead"] []
  f__law_told : Addr
  fd__law_told : FuncData
  F__law_told : FnP K "_law_told" s__law_told f__law_told fd__law_told
  g__law_told : mg "_law_told" = some (.ref f__law_told)
  b__law_told : Binds K fd__law_told ["_law_thing"] []
  f__law_is : Addr
  fd__law_is : FuncData
  F__law_is : FnP K "_law_is" s__law_is f__law_is fd__law_is
  g__law_is : mg "_law_is" = some (.ref f__law_is)
  b__law_is : Binds K fd__law_is ["_law_thing", "_law_due"] []
  f_law : Addr
  fd_law : FuncData
  F_law : FnP K "law" s_law f_law fd_law
  g_law : mg "law" = some (.ref f_law)
  b_law : Binds K fd_law ["_law_script"] []
  c_is_row : Addr
  P_is_row : Addr
  k_is_row : CodeAt K f_is_row c_is_row
  c_is_table : Addr
  P_is_table : Addr
  k_is_table : CodeAt K f_is_table c_is_table
  c_is_ahead : Addr
  P_is_ahead : Addr
  k_is_ahead : CodeAt K f_is_ahead c_is_ahead
  c_is_piece : Addr
  P_is_piece : Addr
  k_is_piece : CodeAt K f_is_piece c_is_piece
  c_is_machine : Addr
  P_is_machine : Addr
  k_is_machine : CodeAt K f_is_machine c_is_machine
  C_SIDES : Addr
  g_SIDES : mg "SIDES" = some (.ref C_SIDES)
  e_SIDES : C_SIDES = He.ga K "SIDES"
  C_ASKED : Addr
  g_ASKED : mg "ASKED" = some (.ref C_ASKED)
  e_ASKED : C_ASKED = He.ga K "ASKED"
  m_abs : mg "abs" = none
  m_all : mg "all" = none
  m_bool : mg "bool" = none
  m_divmod : mg "divmod" = none
  m_enumerate : mg "enumerate" = none
  m_int : mg "int" = none
  m_isinstance : mg "isinstance" = none
  m_len : mg "len" = none
  m_list : mg "list" = none
  m_max : mg "max" = none
  m_range : mg "range" = none
  m_str : mg "str" = none
  m_sum : mg "sum" = none
  m_tuple : mg "tuple" = none
  m_zip : mg "zip" = none
  i_LONGEST : ∃ t, mg "LONGEST" = some (.int 4096 t)
  i_MOST_AROUND : ∃ t, mg "MOST_AROUND" = some (.int 3 t)
  i_GREATEST_K : ∃ t, mg "GREATEST_K" = some (.int 64 t)
  i_GREATEST_INPUT : ∃ t, mg "GREATEST_INPUT" = some (.int 5 t)
  i_MOST_PARTS : ∃ t, mg "MOST_PARTS" = some (.int 24 t)
  i_DEEPEST : ∃ t, mg "DEEPEST" = some (.int 8 t)
  i_MOST_PIECES : ∃ t, mg "MOST_PIECES" = some (.int 24 t)
  i_MOST_AHEAD : ∃ t, mg "MOST_AHEAD" = some (.int 16 t)
  i_MOST_HELD : ∃ t, mg "MOST_HELD" = some (.int 64 t)
structure Tabs {K : PySem.W.Frag} {mg : Str → Option Value} (T : Defs K mg) (base : Heap) : Prop where
  t_is_row : GxR.TabB base mg T.c_is_row T.P_is_row
  t_is_table : GxR.TabB base mg T.c_is_table T.P_is_table
  t_is_ahead : GxR.TabB base mg T.c_is_ahead T.P_is_ahead
  t_is_piece : GxR.TabB base mg T.c_is_piece T.P_is_piece
  t_is_machine : GxR.TabB base mg T.c_is_machine T.P_is_machine
theorem bt_abs : bootBuiltins "abs" = some (.builtin "abs") := by decide +kernel
theorem bt_all : bootBuiltins "all" = some (.builtin "all") := by decide +kernel
theorem bt_bool : bootBuiltins "bool" = some (.type "bool") := by decide +kernel
theorem bt_divmod : bootBuiltins "divmod" = some (.builtin "divmod") := by decide +kernel
theorem bt_enumerate : bootBuiltins "enumerate" = some (.type "enumerate") := by decide +kernel
theorem bt_int : bootBuiltins "int" = some (.type "int") := by decide +kernel
theorem bt_isinstance : bootBuiltins "isinstance" = some (.builtin "isinstance") := by decide +kernel
theorem bt_len : bootBuiltins "len" = some (.builtin "len") := by decide +kernel
theorem bt_list : bootBuiltins "list" = some (.type "list") := by decide +kernel
theorem bt_max : bootBuiltins "max" = some (.builtin "max") := by decide +kernel
theorem bt_range : bootBuiltins "range" = some (.type "range") := by decide +kernel
theorem bt_str : bootBuiltins "str" = some (.type "str") := by decide +kernel
theorem bt_sum : bootBuiltins "sum" = some (.builtin "sum") := by decide +kernel
theorem bt_tuple : bootBuiltins "tuple" = some (.type "tuple") := by decide +kernel
theorem bt_zip : bootBuiltins "zip" = some (.type "zip") := by decide +kernel
def frT (t b : Int) : Int := (b.sign * t) / (Int.gcd t b : Int)
def frB (t b : Int) : Int := (b.natAbs : Int) / (Int.gcd t b : Int)
theorem fr_ex (t : Int) {b : Int} (hb : b ≠ 0) : ∃ (g : Nat) (x y : Int), 0 < g ∧ Int.gcd t b = g ∧ t = (g : Int) * x ∧ b = (g : Int) * y ∧ y ≠ 0 ∧ Int.gcd x y = 1 := by
  have hg : 0 < Int.gcd t b := Int.gcd_pos_of_ne_zero_right t hb
  obtain ⟨x, hx⟩ := Int.gcd_dvd_left t b
  obtain ⟨y, hy⟩ := Int.gcd_dvd_right t b
  refine ⟨Int.gcd t b, x, y, hg, rfl, hx, hy, fun e => hb (by rw [hy, e, Int.mul_zero]), ?_⟩
  generalize eg : Int.gcd t b = g at hg hx hy
  have e : g = g * Int.gcd x y := by
    rw [← eg]
    conv => lhs; rw [hx, hy, Int.gcd_mul_left]
    rw [Int.natAbs_natCast, eg]
  exact Nat.eq_of_mul_eq_mul_left hg (by rw [← e, Nat.mul_one])
theorem sgn {b : Int} {g : Nat} {y : Int} (hg : 0 < g) (hb : b = (g : Int) * y) : b.sign = y.sign := by
  rw [hb, Int.sign_mul, Int.sign_eq_one_of_pos (by omega), Int.one_mul]
theorem fr_vals {t b : Int} {g : Nat} {x y : Int} (hg : 0 < g) (eg : Int.gcd t b = g) (ht : t = (g : Int) * x) (hb : b = (g : Int) * y) : frT t b = y.sign * x ∧ frB t b = (y.natAbs : Int) := by
  have g0 : (g : Int) ≠ 0 := by omega
  constructor
  · unfold frT
    rw [eg, sgn hg hb, ht, show y.sign * ((g : Int) * x) = (g : Int) * (y.sign * x) by rw [Int.mul_left_comm]]
    exact Int.mul_ediv_cancel_left _ g0
  · unfold frB
    rw [eg, hb, Int.natAbs_mul, Int.natAbs_natCast, Int.natCast_mul]
    exact Int.mul_ediv_cancel_left _ g0
theorem sgn_abs {y : Int} (hy : y ≠ 0) : y.sign.natAbs = 1 := Int.natAbs_sign_of_ne_zero hy
theorem fr_pos (t : Int) {b : Int} (hb : b ≠ 0) : 0 < frB t b := by
  obtain ⟨g, x, y, hg, eg, ht, hy, hy0, h1⟩ := fr_ex t hb
  rw [(fr_vals hg eg ht hy).2]
  omega
theorem fr_gcd (t : Int) {b : Int} (hb : b ≠ 0) : Int.gcd (frT t b) (frB t b) = 1 := by
  obtain ⟨g, x, y, hg, eg, ht, hy, hy0, h1⟩ := fr_ex t hb
  rw [(fr_vals hg eg ht hy).1, (fr_vals hg eg ht hy).2]
  show Nat.gcd (y.sign * x).natAbs ((y.natAbs : Int)).natAbs = 1
  rw [Int.natAbs_mul, sgn_abs hy0, Nat.one_mul, Int.natAbs_natCast]
  exact h1
theorem fr_eq (t : Int) {b : Int} (hb : b ≠ 0) : frT t b * b = t * frB t b := by
  obtain ⟨g, x, y, hg, eg, ht, hy, hy0, h1⟩ := fr_ex t hb
  rw [(fr_vals hg eg ht hy).1, (fr_vals hg eg ht hy).2]
  rw [ht, hy]
  have e : y * y.sign = (y.natAbs : Int) := Int.mul_sign_self y
  rw [← e]
  simp only [Int.mul_comm, Int.mul_left_comm, Int.mul_assoc]
theorem fr_absT (t : Int) {b : Int} (hb : b ≠ 0) : (frT t b).natAbs ≤ t.natAbs := by
  obtain ⟨g, x, y, hg, eg, ht, hy, hy0, h1⟩ := fr_ex t hb
  rw [(fr_vals hg eg ht hy).1, ht, Int.natAbs_mul, sgn_abs hy0, Nat.one_mul, Int.natAbs_mul, Int.natAbs_natCast]
  exact Nat.le_mul_of_pos_left _ hg
theorem fr_absB (t : Int) {b : Int} (hb : b ≠ 0) : (frB t b).natAbs ≤ b.natAbs := by
  obtain ⟨g, x, y, hg, eg, ht, hy, hy0, h1⟩ := fr_ex t hb
  rw [(fr_vals hg eg ht hy).2, hy, Int.natAbs_mul, Int.natAbs_natCast, Int.natAbs_natCast]
  exact Nat.le_mul_of_pos_left _ hg
theorem fr_negT (t b : Int) : frT (-t) (-b) = frT t b := by
  unfold frT
  rw [Int.sign_neg, Int.neg_mul_neg, Int.gcd_neg, Int.neg_gcd]
theorem fr_negB (t b : Int) : frB (-t) (-b) = frB t b := by
  unfold frB
  rw [Int.natAbs_neg, Int.gcd_neg, Int.neg_gcd]
/-- what the program's two ways reckon -/
theorem fd_pos {g : Nat} {x : Int} (hg : 0 < g) : ((g : Int) * x).fdiv (g : Int) = x := by
  rw [Int.fdiv_eq_ediv_of_nonneg _ (by omega)]
  exact Int.mul_ediv_cancel_left _ (by omega)
theorem fd_neg {g : Nat} {x : Int} (hg : 0 < g) : ((g : Int) * x).fdiv (-(g : Int)) = -x := by
  rw [show (g : Int) * x = -(g : Int) * (-x) by rw [Int.neg_mul_neg]]
  exact Int.mul_fdiv_cancel_left _ (by omega)
theorem fr_lt (t : Int) {b : Int} (hb : b < 0) : t.fdiv (-(Int.gcd t b : Int)) = frT t b ∧ b.fdiv (-(Int.gcd t b : Int)) = frB t b := by
  obtain ⟨g, x, y, hg, eg, ht, hy, hy0, h1⟩ := fr_ex t (show b ≠ 0 by omega)
  rw [(fr_vals hg eg ht hy).1, (fr_vals hg eg ht hy).2, eg]
  have yn : y < 0 := by
    rw [hy] at hb
    exact Int.neg_of_mul_neg_right hb (by omega)
  constructor
  · conv => lhs; rw [ht]
    rw [fd_neg hg, Int.sign_eq_neg_one_of_neg yn]
    omega
  · conv => lhs; rw [hy]
    rw [fd_neg hg]
    omega
theorem fr_ge (t : Int) {b : Int} (hb : 0 < b) : t.fdiv (Int.gcd t b : Int) = frT t b ∧ b.fdiv (Int.gcd t b : Int) = frB t b := by
  obtain ⟨g, x, y, hg, eg, ht, hy, hy0, h1⟩ := fr_ex t (show b ≠ 0 by omega)
  rw [(fr_vals hg eg ht hy).1, (fr_vals hg eg ht hy).2, eg]
  have yn : 0 < y := by
    rw [hy] at hb
    exact Int.pos_of_mul_pos_right hb (by omega)
  constructor
  · conv => lhs; rw [ht]
    rw [fd_pos hg, Int.sign_eq_one_of_pos yn]
    omega
  · conv => lhs; rw [hy]
    rw [fd_pos hg]
    omega
/-! sizes -/
def S (n : Nat) (x : Int) : Prop := x.natAbs < 2 ^ n
theorem S.mono {n m : Nat} {x : Int} (h : S n x) (l : n ≤ m) : S m x := Nat.lt_of_lt_of_le h (Nat.pow_le_pow_right (by decide) l)
theorem S.mul {n m : Nat} {x y : Int} (h : S n x) (k : S m y) : S (n + m) (x * y) := by
  unfold S at *
  rw [Int.natAbs_mul, Nat.pow_add]
  exact Nat.mul_lt_mul'' h k
theorem S.add {n : Nat} {x y : Int} (h : S n x) (k : S n y) : S (n + 1) (x + y) := by
  unfold S at *
  rw [Nat.pow_succ]
  omega
theorem S.sub {n : Nat} {x y : Int} (h : S n x) (k : S n y) : S (n + 1) (x - y) := by
  unfold S at *
  rw [Nat.pow_succ]
  omega
theorem S.frT {n : Nat} {t b : Int} (h : S n t) (hb : b ≠ 0) : S n (frT t b) := Nat.lt_of_le_of_lt (fr_absT t hb) h
theorem S.frB {n : Nat} {t b : Int} (h : S n b) (hb : b ≠ 0) : S n (frB t b) := Nat.lt_of_le_of_lt (fr_absB t hb) h
theorem abs_eq (i : Int) : (if i < 0 then -i else i) = (i.natAbs : Int) := by
  split <;> omega
/-! the same rules with the written part by its name: for the inside of comprehensions -/
theorem pg_tupK {X : Cx} {K : PySem.W.Frag} {es : List Expr} {k n : Nat} {pos : Pos} {t : TGs} (h : X.K = K) (hc : X.calm = true) (hg : PGs X es t) (hn : (assignEach es X.env).length = n := by rfl) (hst : (assignEach es X.env).findIdx? (·.1) = none := by rfl) : PG X (.Tuple es k pos) (gTup K n t) := by
  subst h
  exact pg_tup hc hg hn hst
theorem isiK {X : Cx} {K : PySem.W.Frag} (h : X.K = K) : CallR X (.builtin "isinstance") (rIsi K) := by
  subst h
  exact call_isi
theorem ixlK {X : Cx} {K : PySem.W.Frag} (h : X.K = K) : IxR X (rIxL K) := by
  subst h
  exact ix_list
theorem ixtK {X : Cx} {K : PySem.W.Frag} (h : X.K = K) : IxR X (rIxT K) := by
  subst h
  exact ix_tup
theorem lenK {X : Cx} {K : PySem.W.Frag} (h : X.K = K) : CallR X (.builtin "len") (fun xs H Q => ∃ p ys, xs = [.ref p] ∧ (SqL K H p ys ∨ SqT K H p ys) ∧ Q (.int ys.length) H) := by
  subst h
  exact call_len_seq
theorem sumK {X : Cx} {K : PySem.W.Frag} (h : X.K = K) (hc : X.calm = true) : CallR X (.builtin "sum") (rSum K) := by
  subst h
  exact cr_sum hc
theorem yes_ite {σ : L2.St} {H : Hp} {A B : Hp → Prop} (h : A H) : tYes σ H (fun b H3 => if b = true then A H3 else B H3) := by
  show if true = true then A H else B H
  rw [if_pos rfl]
  exact h
/-! heaps -/
theorem same_upd {H : Hp} {p : Addr} {o : HO} (h : H p = none) : Same H (upd H p o) := fun b x e => by
  rw [upd_ne (ne_of_none e h)]
  exact e
def But (p : Addr) (H H' : Hp) : Prop := ∀ b o, b ≠ p → H b = some o → H' b = some o
theorem But.trans {p : Addr} {H H1 H2 : Hp} (a : But p H H1) (b : But p H1 H2) : But p H H2 := fun c o n e => b c o n (a c o n e)
theorem But.refl (p : Addr) (H : Hp) : But p H H := fun _ _ _ e => e
theorem But.put {p : Addr} {H H' : Hp} {o : HO} (a : But p H H') : But p H (L2.upd H' p o) := fun c x n e => by
  rw [upd_ne n]
  exact a c x n e
theorem same_but {p : Addr} {H H' : Hp} (a : Same H H') : But p H H' := fun c x _ e => a c x e
theorem But.new {p q : Addr} {H H' : Hp} {o : HO} (a : But p H H') (n : H' q = none) : But p H (upd H' q o) := fun c x hn e => by
  have e2 := a c x hn e
  rw [upd_ne (ne_of_none e2 n)]
  exact e2
/-- objects made since H may change: what H has stays -/
theorem same_newer {H H' : Hp} {q : Addr} {o : HO} (a : Same H H') (n : H q = none) : Same H (upd H' q o) := fun c x e => by
  rw [upd_ne (ne_of_none e n)]
  exact a c x e
theorem But.same {p : Addr} {H H1 H2 : Hp} (n : H p = none) (a : Same H H1) (b : But p H1 H2) : Same H H2 := fun c x e =>
  b c x (ne_of_none e n) (a c x e)
/-- the box: a rest, a begin, how often -/
def Bx (H : Hp) (p : Addr) (n : Nat) : Prop := ∃ a b c : Int, H p = some (.lst [.int a, .int b, .int c]) ∧ 0 ≤ a ∧ 0 ≤ b ∧ b < 2147483647 ∧ 0 ≤ c ∧ c ≤ n
theorem Bx.same {H H' : Hp} {p : Addr} {n : Nat} (h : Bx H p n) (s : Same H H') : Bx H' p n := by
  obtain ⟨a, b, c, hp, r⟩ := h
  exact ⟨a, b, c, s _ _ hp, r⟩
theorem Bx.mono {H : Hp} {p : Addr} {n m : Nat} (h : Bx H p n) (l : n ≤ m) : Bx H p m := by
  obtain ⟨a, b, c, hp, h1, h2, h3, h4, h5⟩ := h
  exact ⟨a, b, c, hp, h1, h2, h3, h4, by omega⟩
theorem Bx.new {H : Hp} {p q : Addr} {n : Nat} {o : HO} (h : Bx H p n) (nq : H q = none) : Bx (L2.upd H q o) p n := h.same (same_upd nq)
theorem Bx.ne_tup {H : Hp} {p q : Addr} {n : Nat} {xs : List V} (h : Bx H p n) (e : H q = some (.tup xs)) : q ≠ p := by
  obtain ⟨a, b, c, hp, _⟩ := h
  exact ne_of e hp (fun z => by cases z)
/-- an item of a menu of numbers -/
theorem at_menu {Pr : Int → Prop} {xs : List Int} {r : Int} (h0 : 0 ≤ r) (h1 : r < xs.length) (hx : ∀ x, x ∈ xs → Pr x) : ∃ v, atI (xs.map V.int) r = some (V.int v) ∧ Pr v := by
  obtain ⟨j, rfl⟩ := Int.eq_ofNat_of_zero_le h0
  have hj : j < xs.length := by omega
  refine ⟨xs[j], atI_nat (by rw [List.getElem?_map, List.getElem?_eq_getElem hj]; rfl), hx _ (List.getElem_mem hj)⟩
theorem SqL.mk {K : PySem.W.Frag} {H : Hp} {a : Addr} {xs : List V} (h : H a = some (.lst xs)) : SqL K H a xs := .inl (.inl h)
theorem SqT.mk {K : PySem.W.Frag} {H : Hp} {a : Addr} {xs : List V} (h : H a = some (.tup xs)) : SqT K H a xs := .inl (.inl h)
theorem same_tup {K : PySem.W.Frag} {H H' : Hp} {a : Addr} {xs : List V} (e : Same H H') (h : SqT K H a xs) : SqT K H' a xs := by
  rcases h with (h | ⟨o, h⟩) | h
  · exact .inl (.inl (e _ _ h))
  · exact .inl (.inr ⟨o, e _ _ h⟩)
  · exact .inr h
theorem ixn {n j : Nat} (hj : j < n) : ixN n (j : Int) = some j := by
  unfold ixN
  rw [if_pos (by omega), if_pos (by omega)]
  simp
theorem cdivP {a m : Int} (h0 : 0 < m) (h1 : m < 2 ^ 60) : CDivP a m := ⟨h0, PyProof.noPylong_of_log2 (wide_div (i := a) (b := 60) h0 (by omega) (by decide) (by decide)).2⟩
theorem i01 {c : Prop} [Decidable c] : -(2 ^ 64) < (if c then (1 : Int) else 0) ∧ (if c then (1 : Int) else 0) < 2 ^ 64 := by
  split <;> decide
theorem i01n {c : Prop} [Decidable c] : 0 ≤ (if c then (1 : Int) else 0) := by
  split <;> decide
theorem absn (i : Int) : 0 ≤ (if i < 0 then -i else i) := by
  split <;> omega
/-! the box of a cell -/
def sp__law_box (K : PySem.W.Frag) : Sp := fun vs H Q _ => ∃ (a : Addr) (ns : List Int) (k : Nat), vs = [.ref a, .int (k : Nat)] ∧ SqL K H a (ns.map V.int) ∧ k < 1000 ∧
  ∀ H' p, Same H H' → H p = none → Bx H' p 0 → Q (.ref p) H'
theorem ok__law_box (T : Defs K mg) (TT : Tabs T base) : FnOk P w K mg base CX0 1 T.f__law_box T.fd__law_box ["_law_script", "_law_k"] (sp__law_box K) := by
  refine T.F__law_box.ok sc__law_box (fun vs H Q E h => ?_) (fun cdv A outer s H vs Q E hr h => ?_)
  · obtain ⟨a, ns, k, rfl, hS, hk, q⟩ := h
    rfl
  · obtain ⟨a, ns, k, rfl, hS, hk, q⟩ := h
    refine ⟨_, PSs.nox (pss_cons (ps_set (i := 2) sc__law_box.nd rfl (.inl rfl) pe_int)
    (pss_cons (ps_if (pt_cmpR op_lt (pv 1) (pe_callB call_len_seq (by rfl) T.m_len bt_len (pa_cons (pv 0) pa_nil)) (nomark _)) (pss_one (ps_set (i := 2) sc__law_box.nd rfl (.inl rfl) (pe_ix ix_list (pv 0) (pv 1) (fun _ _ => rfl)))) pss_nil)
    (pss_one (ps_ret (pe_lst (pa_cons (pe_op op_mul (pe_callB call_abs (by rfl) T.m_abs bt_abs (pa_cons (pv 2) pa_nil)) (pe_callTy call_int1 (by rfl) T.m_int bt_int (pa_cons (pe_cmpR op_ge (pe_callB call_abs (by rfl) T.m_abs bt_abs (pa_cons (pv 2) pa_nil)) (pe_op op_pow pe_int pe_int) (nomark _)) pa_nil))) (pa_cons (pe_op op_mod (pe_op op_add (pv 2) (pe_op op_mul (pe_op op_mul pe_int (pv 1)) (pv 1))) pe_int) (pa_cons pe_int pa_nil)))))))), ?_⟩
    refine ⟨.int k, rfl, .ref a, rfl, a, _, rfl, .inl hS, _, _, rfl, rfl, _, rfl, ite2 (fun e => ?_) (fun e => ?_)⟩
    · have hl : (k : Int) < ((ns.map V.int).length : Nat) := of_decide_eq_true e
      rw [List.length_map] at hl
      have hj : k < ns.length := by omega
      refine ⟨.ref a, rfl, .int k, rfl, a, _, _, .int ns[k], rfl, rfl, hS, atI_nat (by rw [List.getElem?_map, List.getElem?_eq_getElem hj]; rfl), ?_⟩
      refine ⟨_, rfl, _, rfl, _, rfl, _, rfl, _, _, rfl, rfl, ⟨by decide, by decide, by decide⟩, _, _, rfl, rfl, .inr ⟨_, rfl, _, _, rfl, rfl, .inr i01, _, rfl, .int k, rfl, _, _, rfl, rfl, .inl ⟨by decide, by decide⟩, .int k, rfl, _, _, rfl, rfl, .inr ⟨by omega, by omega⟩, _, _, rfl, rfl, _, _, rfl, rfl, (show (0 : Int) < 2147483647 by decide), (show 3 ≤ sizeLine by decide), fun p np => ?_⟩⟩
      refine q _ p (same_upd np) np ⟨_, _, _, upd_same, ?_, Int.emod_nonneg _ (by decide), Int.emod_lt_of_pos _ (by decide), Int.le_refl 0, Int.le_refl 0⟩
      exact Int.mul_nonneg (absn _) i01n
    · refine ⟨_, rfl, _, rfl, _, rfl, _, rfl, _, _, rfl, rfl, ⟨by decide, by decide, by decide⟩, _, _, rfl, rfl, .inr ⟨_, rfl, _, _, rfl, rfl, .inr i01, _, rfl, .int k, rfl, _, _, rfl, rfl, .inl ⟨by decide, by decide⟩, .int k, rfl, _, _, rfl, rfl, .inr ⟨by omega, by omega⟩, _, _, rfl, rfl, _, _, rfl, rfl, (show (0 : Int) < 2147483647 by decide), (show 3 ≤ sizeLine by decide), fun p np => ?_⟩⟩
      refine q _ p (same_upd np) np ⟨_, _, _, upd_same, ?_, Int.emod_nonneg _ (by decide), Int.emod_lt_of_pos _ (by decide), Int.le_refl 0, Int.le_refl 0⟩
      exact Int.mul_nonneg (absn _) i01n
/-! one number taken -/
def sp__law_take (K : PySem.W.Frag) : Sp := fun vs H Q _ => ∃ (p : Addr) (m : Int) (n : Nat), vs = [.ref p, .int m] ∧ Bx H p n ∧ 0 < m ∧ m < 2 ^ 60 ∧ n < 1000000000000 ∧
  ∀ H' r, But p H H' → Bx H' p (n + 1) → 0 ≤ r → r < m → Q (.int r) H'
theorem ok__law_take (T : Defs K mg) (TT : Tabs T base) : FnOk P w K mg base CX0 1 T.f__law_take T.fd__law_take ["_law_box_here", "_law_many"] (sp__law_take K) := by
  refine T.F__law_take.ok sc__law_take (fun vs H Q E h => ?_) (fun cdv A outer s H vs Q E hr h => ?_)
  · obtain ⟨p, m, n, rfl, ⟨a, b, c, hp, ha, hb, hb2, hc, hc2⟩, h0, h1, hn, q⟩ := h
    rfl
  · obtain ⟨p, m, n, rfl, ⟨a, b, c, hp, ha, hb, hb2, hc, hc2⟩, h0, h1, hn, q⟩ := h
    refine ⟨_, PSs.nox (pss_cons (ps_if (pt_cmpR op_gt (pe_ix ix_list (pv 0) pe_int (fun _ _ => rfl)) pe_int (nomark _)) (pss_cons (ps_asg (pe_callB call_divmodW (by rfl) T.m_divmod bt_divmod (pa_cons (pe_ix ix_list (pv 0) pe_int (fun _ _ => rfl)) (pa_cons (pv 1) pa_nil))) (pg_tup rfl (pgs_cons (pg_sub (pv 0) pe_int set_list) (pgs_cons (pg_name (i := 2) sc__law_take.nd rfl (.inl rfl)) pgs_nil))))
    (pss_one (ps_ret (pv 2)))) pss_nil)
    (pss_cons (ps_asg (pe_op op_add (pe_ix ix_list (pv 0) pe_int (fun _ _ => rfl)) pe_int) (pg_sub (pv 0) pe_int set_list))
    (pss_cons (ps_set (i := 3) sc__law_take.nd rfl (.inl rfl) (pe_op op_mod (pe_op op_pow (pe_op op_add (pe_ix ix_list (pv 0) pe_int (fun _ _ => rfl)) (pe_op op_mul pe_int (pe_ix ix_list (pv 0) pe_int (fun _ _ => rfl)))) pe_int) pe_int))
    (pss_one (ps_ret (pe_op op_mod (pe_op op_fdiv (pe_op op_mod (pe_op op_add (pe_op op_mul (pv 3) pe_int) (pe_op op_mul (pe_op op_mul (pe_ix ix_list (pv 0) pe_int (fun _ _ => rfl)) (pe_ix ix_list (pv 0) pe_int (fun _ _ => rfl))) pe_int)) pe_int) pe_int) (pv 1))))))), ?_⟩
    have SQ : SqL K H p [.int a, .int b, .int c] := SqL.mk hp
    refine ⟨.ref p, rfl, p, _, 0, _, rfl, rfl, SQ, atI_nat (j := 0) rfl, _, _, rfl, rfl, _, rfl, ite2 (fun e => ?_) (fun e => ?_)⟩
    · refine ⟨.ref p, rfl, p, _, 0, _, rfl, rfl, SQ, atI_nat (j := 0) rfl, .int m, rfl, a, m, rfl, cdivP h0 h1, fun t nt => ?_⟩
      have hp1 : (upd H t (.tup [.int (a / m), .int (a % m)])) p = some (.lst [.int a, .int b, .int c]) := by
        rw [upd_ne (ne_of_none hp nt)]
        exact hp
      refine ⟨t, _, rfl, SqT.mk upd_same, rfl, _, _, rfl, .ref p, rfl, p, _, 0, 0, rfl, rfl, hp1, rfl, _, _, rfl, rfl, _, rfl, ?_⟩
      refine q _ _ ((But.refl p H).new nt).put ⟨_, _, _, upd_same, Int.ediv_nonneg ha (by omega), hb, hb2, hc, by omega⟩ (Int.emod_nonneg _ (by omega)) (Int.emod_lt_of_pos _ h0)
    · refine ⟨.ref p, rfl, p, _, 2, _, rfl, rfl, SQ, atI_nat (j := 2) rfl, _, _, rfl, rfl, .ref p, rfl, p, _, 2, 2, rfl, rfl, hp, rfl, ?_⟩
      have SQ1 : SqL K (upd H p (.lst [.int a, .int b, .int (c + 1)])) p [.int a, .int b, .int (c + 1)] := SqL.mk upd_same
      refine ⟨.ref p, rfl, p, _, 1, _, rfl, rfl, SQ1, atI_nat (j := 1) rfl, .ref p, rfl, p, _, 2, _, rfl, rfl, SQ1, atI_nat (j := 2) rfl, _, _, rfl, rfl, .inl ⟨by decide, by decide⟩, _, _, rfl, rfl, _, _, rfl, rfl, ⟨by decide, by decide, by omega⟩, _, _, rfl, rfl, (show (0 : Int) < 2147483647 by decide), ?_⟩
      refine ⟨_, rfl, _, _, rfl, rfl, .inr ⟨by decide, by decide⟩, .ref p, rfl, p, _, 2, _, rfl, rfl, SQ1, atI_nat (j := 2) rfl, .ref p, rfl, p, _, 2, _, rfl, rfl, SQ1, atI_nat (j := 2) rfl, _, _, rfl, rfl, .inl ⟨by omega, by omega⟩, _, _, rfl, rfl, .inr ⟨by decide, by decide⟩, _, _, rfl, rfl, _, _, rfl, rfl, (show (0 : Int) < 2147483629 by decide), _, _, rfl, rfl, ⟨by decide, by decide⟩, .int m, rfl, _, _, rfl, rfl, h0, ?_⟩
      refine q _ _ (But.refl p H).put ⟨_, _, _, upd_same, ha, hb, hb2, by omega, by omega⟩ (Int.emod_nonneg _ (by omega)) (Int.emod_lt_of_pos _ h0)
/-! the folded cells -/
theorem cut_take (ns : List Int) (m : Nat) : cutV (ns.map V.int) none (some (m : Int)) = (ns.take m).map V.int := by
  unfold cutV
  rw [HT.sIx_none, HT.sIx_nat, List.drop_zero, List.length_map, Nat.sub_zero, ← List.map_take]
  congr 1
  by_cases h : m ≤ ns.length
  · rw [Nat.min_eq_left h]
  · rw [Nat.min_eq_right (by omega), List.take_length, List.take_of_length_le (by omega)]
theorem cut_rest (ns : List Int) (m k : Nat) : ∃ ms : List Int, cutV (ns.map V.int) (some (m : Int)) (some (k : Int)) = ms.map V.int ∧ (0 < ms.length → m < ns.length) ∧ ms.length ≤ ns.length := by
  unfold cutV
  rw [HT.sIx_nat, HT.sIx_nat, List.length_map]
  refine ⟨(ns.drop (min m ns.length)).take (min k ns.length - min m ns.length), ?_, fun h => ?_, ?_⟩
  · rw [List.map_take, List.map_drop]
  · rw [List.length_take, List.length_drop] at h
    omega
  · rw [List.length_take, List.length_drop]
    omega
def sp__law_folded (K : PySem.W.Frag) : Sp := fun vs H Q _ => ∃ (a : Addr) (ns : List Int) (m : Nat), vs = [.ref a, .int (m : Nat)] ∧ SqL K H a (ns.map V.int) ∧ ns.length ≤ 63 ∧ 0 < m ∧ m < 64 ∧
  ∀ H' p (cs : List Int), Same H H' → H p = none → H' p = some (.lst (cs.map V.int)) → cs.length ≤ m → Q (.ref p) H'
theorem ok__law_folded (T : Defs K mg) (TT : Tabs T base) : FnOk P w K mg base CX0 1 T.f__law_folded T.fd__law_folded ["_law_script", "_law_many"] (sp__law_folded K) := by
  refine T.F__law_folded.ok sc__law_folded (fun vs H Q E h => ?_) (fun cdv A outer s H vs Q E hr h => ?_)
  · obtain ⟨a, ns, m, rfl, hS, hlen, hm, hm2, q⟩ := h
    rfl
  · obtain ⟨a, ns, m, rfl, hS, hlen, hm, hm2, q⟩ := h
    refine ⟨_, PSs.nox (pss_cons (ps_set (i := 2) sc__law_folded.nd rfl (.inl rfl) (pe_callTy call_list_of (by rfl) T.m_list bt_list (pa_cons (pe_slice sl_list (pv 0) po_none (po_some (pv 1))) pa_nil)))
    (pss_cons ((ps_for PassesOwn.never rfl (pi_enum (by rfl) T.m_enumerate (pa_cons (pe_slice sl_list (pv 0) (po_some (pv 1)) (po_some pe_int)) pa_nil)) (pg_tup rfl (pgs_cons (pg_name (i := 3) sc__law_folded.nd rfl (.inl rfl)) (pgs_cons (pg_name (i := 4) sc__law_folded.nd rfl (.inl rfl)) pgs_nil))) (pss_one (ps_asg (pe_op op_add (pe_ix ix_list (pv 2) (pe_op op_mod (pv 3) (pv 1)) (fun _ _ => rfl)) (pe_op op_mul (pv 4) (pe_op op_add (pv 3) pe_int))) (pg_sub (pv 2) (pe_op op_mod (pv 3) (pv 1)) set_list)))))
    (pss_one (ps_ret (pv 2))))), ?_⟩
    refine ⟨.ref a, rfl, .int m, rfl, m, rfl, a, _, rfl, hS, fun c nc => ?_⟩
    rw [cut_take]
    have s1 : Same H (upd H c (.lst ((ns.take m).map V.int))) := same_upd nc
    refine ⟨c, _, rfl, .inl (SqL.mk upd_same), fun l nl => ?_⟩
    have s2 := s1.trans (same_upd nl (o := .lst ((ns.take m).map V.int)))
    refine ⟨.ref a, rfl, .int m, rfl, m, rfl, 63, rfl, a, _, rfl, s2.seq hS, fun d nd => ?_⟩
    obtain ⟨ms, em, hms, hms2⟩ := cut_rest ns m 63
    rw [show (63 : Int) = ((63 : Nat) : Int) from rfl, em]
    have nl0 : H l = none := s1.free nl
    have nd0 : H d = none := s2.free nd
    have ndl : l ≠ d := fun e => by
      rw [← e, upd_same] at nd
      cases nd
    refine ⟨d, _, rfl, SqL.mk upd_same, for_it (walk_enum (xs := ms.map V.int)) (fun i σ H3 => ∃ y3 y4, ∃ cs : List Int, σ = [some (.ref a), some (.int m), some (.ref l), y3, y4] ∧ Same H H3 ∧ H3 l = some (.lst (cs.map V.int)) ∧ cs.length = (ns.take m).length ∧ H3 d = some (.lst (ms.map V.int))) ⟨none, none, ns.take m, rfl, s2.trans (same_upd nd), ?_, rfl, upd_same⟩ ?_ ?_ ?_⟩
    · rw [upd_ne ndl, upd_same]
    · rintro i σ H3 hi ⟨y3, y4, cs, rfl, s3, hl, hc, hd⟩
      exact SqL.mk hd
    · rintro i x σ H3 H4 hi ⟨y3, y4, cs, rfl, s3, hl, hc, hd⟩ ⟨t, x1, x2, rfl, nt, rfl, e1, e2⟩
      rw [List.length_map] at hi
      have lm : m < ns.length := hms (by omega)
      have lc : cs.length = m := by
        rw [hc, List.length_take]
        omega
      have ex1 : x1 = .int (i : Nat) := (Option.some.inj e1).symm
      have ex2 : x2 = .int ms[i] := by
        have e2 : (ms.map V.int)[i]? = some x2 := e2
        rw [List.getElem?_map, List.getElem?_eq_getElem hi] at e2
        exact (Option.some.inj e2).symm
      subst ex1 ex2
      have hl1 : (upd H3 t (.tup [.int (i : Nat), .int ms[i]])) l = some (.lst (cs.map V.int)) := by
        rw [upd_ne (ne_of_none hl nt)]
        exact hl
      have him : i % m < cs.length := by
        rw [lc]
        exact Nat.mod_lt _ hm
      have eim : ((i : Int) % (m : Int)) = ((i % m : Nat) : Int) := by omega
      refine ⟨t, _, rfl, SqT.mk upd_same, rfl, _, _, rfl, _, _, rfl, rfl, ?_⟩
      refine ⟨.ref l, rfl, .int (i : Nat), rfl, .int m, rfl, _, _, rfl, rfl, (show (0 : Int) < (m : Int) by omega), l, _, _, .int cs[i % m], rfl, rfl, SqL.mk hl1, ?_, .int ms[i], rfl, .int (i : Nat), rfl, _, _, rfl, rfl, _, _, rfl, rfl, .inr ⟨by omega, by omega⟩, _, _, rfl, rfl, .ref l, rfl, .int (i : Nat), rfl, .int m, rfl, _, _, rfl, rfl, (show (0 : Int) < (m : Int) by omega), l, _, _, i % m, rfl, rfl, hl1, ?_, ?_⟩
      · rw [eim]
        exact atI_nat (by rw [List.getElem?_map, List.getElem?_eq_getElem him]; rfl)
      · rw [eim]
        exact ixn (by rw [List.length_map]; exact him)
      · refine ⟨_, _, cs.set (i % m) (cs[i % m] + ms[i] * ((i : Int) + 2)), rfl, same_newer (s3.trans (same_upd nt)) nl0, ?_, by rw [List.length_set, hc], ?_⟩
        · rw [upd_same, List.map_set]
        · rw [upd_ne ndl.symm, upd_ne (ne_of_none hd nt)]
          exact hd
    · rintro σ H3 ⟨y3, y4, cs, rfl, s3, hl, hc, hd⟩
      exact ⟨.ref l, rfl, q H3 l cs s3 nl0 hl (by rw [hc, List.length_take]; omega)⟩
/-! the program's own -/
theorem op_fdivNW {X : Cx} : OpR X (binaryOp .FloorDiv) (rI (fun _ j => j ≠ 0 ∧ j.natAbs.log2 < 9000) fun i j => .int (i.fdiv j)) := opI fun _ _ _ _ _ _ _ hc q => floordiv_int hc.1 q (.inl (PyProof.noPylong_of_log2 hc.2))
theorem gcd_step (x y : Nat) : Nat.gcd y (x % y) = Nat.gcd x y := by
  rw [Nat.gcd_comm y, ← Nat.gcd_rec, Nat.gcd_comm]
theorem gcd_small {t b : Int} (hb : b ≠ 0) (h : S 4000 b) : (Int.gcd t b : Int).natAbs.log2 < 9000 := by
  have h1 : Int.gcd t b ≤ b.natAbs := Nat.le_of_dvd (by omega) (Nat.gcd_dvd_right _ _)
  have h2 : 0 < Int.gcd t b := Int.gcd_pos_of_ne_zero_right t hb
  exact (wide_div (i := 0) (j := (Int.gcd t b : Int)) (b := 4000) (by omega) (by rw [Int.natAbs_natCast]; exact Nat.lt_of_le_of_lt h1 h) (by decide) (by decide)).2
def sp_common_divisor (_ : PySem.W.Frag) : Sp := fun vs H Q _ => ∃ a b : Int, vs = [.int a, .int b] ∧ Q (.int (if (1 : Int) > (Int.gcd a b : Int) then 1 else (Int.gcd a b : Int))) H
theorem ok_common_divisor (T : Defs K mg) (TT : Tabs T base) : FnOk P w K mg base CX0 1 T.f_common_divisor T.fd_common_divisor ["one", "other"] (sp_common_divisor K) := by
  refine T.F_common_divisor.ok sc_common_divisor (fun vs H Q E h => ?_) (fun cdv A outer s H vs Q E hr h => ?_)
  · obtain ⟨a, b, rfl, q⟩ := h
    rfl
  · obtain ⟨a, b, rfl, q⟩ := h
    refine ⟨_, PSs.nox (pss_cons (ps_set (i := 0) sc_common_divisor.nd rfl (.inl rfl) (pe_callB call_abs (by rfl) T.m_abs bt_abs (pa_cons (pv 0) pa_nil)))
    (pss_cons (ps_set (i := 1) sc_common_divisor.nd rfl (.inl rfl) (pe_callB call_abs (by rfl) T.m_abs bt_abs (pa_cons (pv 1) pa_nil)))
    (pss_cons (ps_while PassesOwn.never (pt_cmpR op_gt (pv 1) pe_int (nomark _)) (pss_one (ps_par (i := 0) (j := 1) (by rfl) sc_common_divisor.nd rfl rfl (by decide) rfl rfl (pa_cons (pv 1) (pa_cons (pe_op op_mod (pv 0) (pv 1)) pa_nil)) (by rfl))))
    (pss_one (ps_ret (pe_callB (call_max2 rfl) (by rfl) T.m_max bt_max (pa_cons (pv 0) (pa_cons pe_int pa_nil)))))))), ?_⟩
    refine ⟨.int a, rfl, a, rfl, .int b, rfl, b, rfl, ?_⟩
    refine while_by (fun σ H1 => H1 = H ∧ ∃ x y : Nat, σ = [some (.int (x : Nat)), some (.int (y : Nat))] ∧ Nat.gcd x y = Int.gcd a b) (fun σ _ => match σ with | [_, some (.int y)] => y.toNat | _ => 0) ⟨rfl, a.natAbs, b.natAbs, ?_, rfl⟩ ?_ ?_
    · rw [abs_eq, abs_eq]
      rfl
    · rintro σ H1 ⟨rfl, x, y, rfl, hg⟩
      refine ⟨.int (y : Nat), rfl, _, _, rfl, rfl, _, rfl, ite2 (fun e => ?_) (fun e => ?_)⟩
      · have hy : (0 : Int) < (y : Int) := of_decide_eq_true e
        refine ⟨.int (y : Nat), rfl, .int (x : Nat), rfl, .int (y : Nat), rfl, _, _, rfl, rfl, hy, _, _, rfl, ⟨rfl, y, x % y, ?_, ?_⟩, ?_⟩
        · rfl
        · rw [gcd_step, hg]
        · show ((x : Int) % (y : Int)).toNat < ((y : Int)).toNat
          have := Int.emod_lt_of_pos (x : Int) hy
          have := Int.emod_nonneg (x : Int) (show (y : Int) ≠ 0 by omega)
          omega
      · have hy : ¬ (0 : Int) < (y : Int) := fun z => e (decide_eq_true z)
        have y0 : y = 0 := by omega
        subst y0
        rw [Nat.gcd_zero_right] at hg
        refine ⟨.int (x : Nat), rfl, _, _, rfl, ?_⟩
        rw [hg]
        exact q
    · rintro σ H1 Q1 Q2 hQ ⟨v, hv, i, j, e1, e2, k, e3, h3⟩
      exact ⟨v, hv, i, j, e1, e2, k, e3, hQ _ _ h3⟩
def sp_fraction (_ : PySem.W.Frag) : Sp := fun vs H Q _ => ∃ t b : Int, vs = [.int t, .int b] ∧ b ≠ 0 ∧ S 4000 b ∧ ∀ H' p, Same H H' → H p = none → H' p = some (.tup [.int (frT t b), .int (frB t b)]) → Q (.ref p) H'
/-! match x: case (word, names ..) -/
abbrev TCs := Addr → List V → TS
structure PCs (X : Cx) (cs : List MatchCase) (t : TCs) : Prop where
  run : ∀ (pins : List (Addr × Obj)) (s : Shared) (σ : L2.St) (H : Hp) (D : L2.Ends) (a : Addr) (xs : List V) (first : Bool), Inv X pins σ H s → SqT X.K H a xs → t a xs D σ H →
    wpAny (model X.prog X.w) X.A (matchCases cs X.env (.ref a) first) (SP X pins D) X.xe s
def tMatch (K : PySem.W.Frag) (te : TE) (tc : TCs) : TS := fun D σ H => te σ H fun v H1 => ∃ a xs, v = .ref a ∧ SqT K H1 a xs ∧ tc a xs D σ H1
theorem ps_match {X : Cx} {e : Expr} {cs : List MatchCase} {pos : Pos} {te : TE} {tc : TCs} (he : PE X e te) (hc : PCs X cs tc) : PS X (.Match e cs pos) (tMatch X.K te tc) := by
  refine ⟨fun pins s σ H D I h => ?_⟩
  refine wpAny_Match (thn (he.run pins s σ H _ I h) fun v s1 ⟨x, H1, I1, r1, a, xs, e1, hq, q⟩ => ?_)
  subst e1
  cases r1
  exact hc.run pins s1 σ H1 D a xs true I1 hq q
theorem pcs_nil {X : Cx} : PCs X [] (fun _ _ D σ H => D.nx σ H) := ⟨fun _ _ σ H _ _ _ _ I _ h => wpAny_matchCases_nil ⟨σ, H, I, h⟩⟩
theorem pcs_any {X : Cx} {body : List Stmt} {rest : List MatchCase} {pos : Pos} {tb : TS} (hb : PSs X body tb) : PCs X (⟨.MatchAs none none pos, none, body⟩ :: rest) (fun _ _ => tb) := by
  refine ⟨fun pins s σ H D a xs first I hq h => wpAny_matchCases_cons (wpAny_matchPattern_Capture ?_)⟩
  exact wpAny_assignInOrder_none (hb.run pins s σ H D I h)
/-- the slots i .. get the values .. in turn -/
def sets (σ : L2.St) : List Nat → List V → L2.St
  | i :: is, v :: vs => sets (σ.set i (some v)) is vs
  | _, _ => σ
structure PCap (X : Cx) (ps : List Pattern) (ns : List (Nat × Str)) : Prop where
  each : ∀ (s : Shared) (us : List Value) (Q : Option (List (Str × Value)) → Shared → Prop), us.length = ns.length → Q (some (List.zipWith (fun n u => (n.2, u)) ns us)) s → wpAny (model X.prog X.w) X.A (matchEach ps X.env us) Q X.xe s
  slot : ∀ n, n ∈ ns → X.N[n.1]? = some n.2 ∧ Loc X.env.scope n.2 ∧ (X.fn n.2 = true ∨ X.env.scope.names.lookup n.2 = some .local)
  len : ps.length = ns.length
theorem pcap_nil {X : Cx} : PCap X [] [] := ⟨fun s us Q hl h => wpAny_matchEach_nil (by
  rw [show us = [] from List.eq_nil_of_length_eq_zero hl] at h
  exact h), fun n hn => (by cases hn), rfl⟩
theorem pcap_cons {X : Cx} {i : Nat} {x : Str} {pos : Pos} {ps : List Pattern} {ns : List (Nat × Str)} (hi : X.N[i]? = some x) (hx : Loc X.env.scope x) (h : PCap X ps ns) (hf : X.fn x = true ∨ X.env.scope.names.lookup x = some .local := by first | exact .inl rfl | exact .inr rfl | assumption) :
    PCap X (.MatchAs none (some x) pos :: ps) ((i, x) :: ns) := by
  refine ⟨fun s us Q hl hQ => ?_, fun n hn => ?_, ?_⟩
  · match us, hl with
    | u :: us, hl =>
      refine wpAny_matchEach_cons (wpAny_matchPattern_Capture ?_)
      refine h.each s us _ (Nat.succ.inj hl) ?_
      exact hQ
  · rcases List.mem_cons.mp hn with rfl | hn
    · exact ⟨hi, hx, hf⟩
    · exact h.slot n hn
  · rw [List.length_cons, List.length_cons, h.len]
theorem bind_all {X : Cx} {pins : List (Addr × Obj)} {H : Hp} (hN : X.N.Nodup) : ∀ (ns : List (Nat × Str)) (us : List Value) (vs : List V) (σ : L2.St) (s : Shared) (Q : Unit → Shared → Prop),
    (∀ n, n ∈ ns → X.N[n.1]? = some n.2 ∧ Loc X.env.scope n.2 ∧ (X.fn n.2 = true ∨ X.env.scope.names.lookup n.2 = some .local)) → us.length = ns.length → Vals vs us → Inv X pins σ H s → (∀ s', Inv X pins (sets σ (ns.map Prod.fst) vs) H s' → Q () s') →
    wpAny (model X.prog X.w) X.A (assignInOrder ((List.zipWith (fun (n : Nat × Str) u => (n.2, u)) ns us).map fun (n, _) => bindName X.env n) ((List.zipWith (fun (n : Nat × Str) u => (n.2, u)) ns us).map (·.2))) Q X.xe s
  | [], us, vs, σ, s, Q, _, hl, r, I, q => by
    have e : us = [] := List.eq_nil_of_length_eq_zero hl
    subst e
    cases r
    exact wpAny_assignInOrder_none (q s I)
  | n :: ns, us, vs, σ, s, Q, hs, hl, r, I, q => by
    match us, vs, hl, r with
    | u :: us, v :: vs, hl, .cons r1 r2 =>
      obtain ⟨h1, h2, h3⟩ := hs n List.mem_cons_self
      refine wpAny_assignInOrder_more (wpAny_bindName (store_ok I hN h1 h2 r1 (fun s1 I1 => ?_) h3))
      exact bind_all hN ns us vs _ s1 Q (fun m hm => hs m (List.mem_cons_of_mem _ hm)) (Nat.succ.inj hl) r2 I1 q
def tCase (word : Str) (is : List Nat) (tb : TS) (rest : TCs) : TCs := fun a xs D σ H =>
  (xs.length ≠ is.length + 1 ∧ rest a xs D σ H) ∨ ∃ z ys, xs = .str z :: ys ∧ ys.length = is.length ∧ ((z = word ∧ tb D (sets σ is ys) H) ∨ (z ≠ word ∧ rest a xs D σ H))
theorem pcs_seq {X : Cx} {e : Expr} {word : Str} {vp sp : Pos} {ps : List Pattern} {ns : List (Nat × Str)} {body : List Stmt} {rest : List MatchCase} {tb : TS} {tr : TCs} (hc : X.calm = true) (hN : X.N.Nodup) (hw : PE X e (tC (.str word))) (hcap : PCap X ps ns) (hb : PSs X body tb) (hr : PCs X rest tr)
    (hstar : (.MatchValue e vp :: ps).findIdx? (·.isStar) = none := by rfl) (hwild : ((.MatchValue e vp :: ps).all fun p => p.isWildcard || (p.isStar && p.names.isEmpty)) = false := by rfl) :
    PCs X (⟨.MatchSequence (.MatchValue e vp :: ps) sp, none, body⟩ :: rest) (tCase word (ns.map Prod.fst) tb tr) := by
  refine ⟨fun pins s σ H D a xs first I hq h => ?_⟩
  obtain ⟨its, rv, ht, hz⟩ := I.tuple hq
  have hl := rv.length
  have hsl : sizeLine = 16777216 := by decide
  have hfit : ((its.toArray.size : Nat) : Int) < 2 ^ 63 := by
    rw [List.size_toArray]
    omega
  have lp := hcap.len
  have miss : ∀ s', Inv X pins σ H s' → tr a xs D σ H → wpAny (model X.prog X.w) X.A (matchCases rest X.env (.ref a) false) (SP X pins D) X.xe s' := fun s' I' q => hr.run pins s' σ H D a xs false I' hq q
  refine wpAny_matchCases_cons ?_
  rcases h with ⟨hn, h⟩ | ⟨z, ys, rfl, hn, h⟩
  · rw [List.length_map] at hn
    refine matchSeq_tuple_miss ht hfit (by rw [List.size_toArray, List.length_cons]; omega) ?_ hstar hwild
    exact miss _ (I.kept (t' := s.toks + 1 + 1) fun b o q => q) h
  · rw [List.length_map] at hn
    rw [List.length_cons] at hl
    refine matchSeq_tuple_hit ht hfit (by rw [List.size_toArray, List.length_cons]; omega) ?_ hstar hwild
    have e1 : (Pattern.MatchValue e vp :: ps).length = its.toArray.size := by
      rw [List.size_toArray, List.length_cons]
      omega
    have key : ∀ s2 : Shared, Inv X pins σ H s2 → wpAny (model X.prog X.w) X.A (matchEach (.MatchValue e vp :: ps) X.env its) (fun r s₁ => match r with
        | none => wpAny (model X.prog X.w) X.A (matchCases rest X.env (.ref a) false) (SP X pins D) X.xe s₁
        | some bs => wpAny (model X.prog X.w) X.A (assignInOrder (bs.map fun (n, _) => bindName X.env n) (bs.map (·.2))) (fun _ s₂ => wpAny (model X.prog X.w) X.A (execs body X.env) (SP X pins D) X.xe s₂) X.xe s₁) X.xe s2 := fun s2 I1 => by
      clear e1 hfit hz ht
      match its, rv, hl with
      | u :: us, .cons r1 r2, hl =>
        refine wpAny_matchEach_cons (wpAny_matchPattern_Value ?_)
        refine thn (hw.run pins s2 σ H (fun v H' => v = .str word ∧ H' = H) I1 ⟨rfl, rfl⟩) fun c s3 ⟨x, H3, I3, r3, e3, e4⟩ => ?_
        subst e3 e4
        refine thn (op_eq pins s3 σ H3 (.str z) (.str word) u c (fun v H' => v = .bl (decide (V.str z = V.str word)) ∧ H' = H3) I3 r1 r3 ⟨rfl, rfl, rfl⟩) fun d s4 ⟨y, H4, I4, r4, e5, e6⟩ => ?_
        subst e5 e6
        obtain rfl : d = Value.bool (decide (V.str z = V.str word)) := r4
        refine wpAny_truthy_bool ?_
        rcases h with ⟨rfl, h⟩ | ⟨ne, h⟩
        · rw [if_pos (decide_eq_true rfl)]
          have ul : us.length = ns.length := by
            have := r2.length
            omega
          refine hcap.each s4 us _ ul ?_
          show wpAny _ _ (assignInOrder _ _) _ _ s4
          exact bind_all hN ns us ys σ s4 _ hcap.slot ul r2 I4 fun s5 I5 => hb.run pins s5 _ H4 D I5 h
        · rw [if_neg (fun y => ne (V.str.inj (of_decide_eq_true y)))]
          exact miss s4 I4 h
    rw [e1]
    refine unpackItems_tuple (I.ok.hd hc) ht fun h' hx => ?_
    have I1 : Inv X pins σ H { s with heap := h', toks := s.toks + 1 + 1 } := I.kept (t' := s.toks + 1 + 1) fun b o q => hx b o (Nat.ne_of_lt (Heap.lt_size q)) q
    refine key _ ?_
    exact I1
/-! match x: case (word, names ..): the first item may be anything -/
def tCaseX (K : PySem.W.Frag) (word : Str) (is : List Nat) (tb : TS) (rest : TCs) : TCs := fun a xs D σ H =>
  (xs.length ≠ is.length + 1 ∧ rest a xs D σ H) ∨ ∃ x ys d, xs = x :: ys ∧ ys.length = is.length ∧ Dp K H x d ∧ SeqAt.shaped d = true ∧ ((d = .str word ∧ tb D (sets σ is ys) H) ∨ (d ≠ .str word ∧ rest a xs D σ H))
theorem eqv_strD {d : PyData} {z : Str} : PyData.eqv d (.str z) = true ↔ d = .str z := by
  cases d with
  | str x =>
    show (x == z) = true ↔ _
    constructor
    · intro h
      rw [eq_of_beq h]
    · intro h
      cases h
      exact beq_self_eq_true z
  | _ => exact ⟨fun h => (by cases h), fun h => (by cases h)⟩
theorem pcs_seqX {X : Cx} {e : Expr} {word : Str} {vp sp : Pos} {ps : List Pattern} {ns : List (Nat × Str)} {body : List Stmt} {rest : List MatchCase} {tb : TS} {tr : TCs} (hu : X.A.units + 64 < cLine) (hc : X.calm = true) (hN : X.N.Nodup) (hw : PE X e (tC (.str word))) (hcap : PCap X ps ns) (hb : PSs X body tb) (hr : PCs X rest tr)
    (hstar : (.MatchValue e vp :: ps).findIdx? (·.isStar) = none := by rfl) (hwild : ((.MatchValue e vp :: ps).all fun p => p.isWildcard || (p.isStar && p.names.isEmpty)) = false := by rfl) (hws : SeqAt.shaped (.str word) = true := by decide +kernel) :
    PCs X (⟨.MatchSequence (.MatchValue e vp :: ps) sp, none, body⟩ :: rest) (tCaseX X.K word (ns.map Prod.fst) tb tr) := by
  refine ⟨fun pins s σ H D a xs first I hq h => ?_⟩
  obtain ⟨its, rv, ht, hz⟩ := I.tuple hq
  have hl := rv.length
  have hsl : sizeLine = 16777216 := by decide
  have hfit : ((its.toArray.size : Nat) : Int) < 2 ^ 63 := by
    rw [List.size_toArray]
    omega
  have lp := hcap.len
  have miss : ∀ s', Inv X pins σ H s' → tr a xs D σ H → wpAny (model X.prog X.w) X.A (matchCases rest X.env (.ref a) false) (SP X pins D) X.xe s' := fun s' I' q => hr.run pins s' σ H D a xs false I' hq q
  refine wpAny_matchCases_cons ?_
  rcases h with ⟨hn, h⟩ | ⟨z, ys, dz, rfl, hn, hdz, sz, h⟩
  · rw [List.length_map] at hn
    refine matchSeq_tuple_miss ht hfit (by rw [List.size_toArray, List.length_cons]; omega) ?_ hstar hwild
    exact miss _ (I.kept (t' := s.toks + 1 + 1) fun b o q => q) h
  · rw [List.length_map] at hn
    rw [List.length_cons] at hl
    refine matchSeq_tuple_hit ht hfit (by rw [List.size_toArray, List.length_cons]; omega) ?_ hstar hwild
    have e1 : (Pattern.MatchValue e vp :: ps).length = its.toArray.size := by
      rw [List.size_toArray, List.length_cons]
      omega
    have key : ∀ s2 : Shared, Inv X pins σ H s2 → wpAny (model X.prog X.w) X.A (matchEach (.MatchValue e vp :: ps) X.env its) (fun r s₁ => match r with
        | none => wpAny (model X.prog X.w) X.A (matchCases rest X.env (.ref a) false) (SP X pins D) X.xe s₁
        | some bs => wpAny (model X.prog X.w) X.A (assignInOrder (bs.map fun (n, _) => bindName X.env n) (bs.map (·.2))) (fun _ s₂ => wpAny (model X.prog X.w) X.A (execs body X.env) (SP X pins D) X.xe s₂) X.xe s₁) X.xe s2 := fun s2 I1 => by
      clear e1 hfit hz ht
      match its, rv, hl with
      | u :: us, .cons r1 r2, hl =>
        refine wpAny_matchEach_cons (wpAny_matchPattern_Value ?_)
        refine thn (hw.run pins s2 σ H (fun v H' => v = .str word ∧ H' = H) I1 ⟨rfl, rfl⟩) fun c s3 ⟨x, H3, I3, r3, e3, e4⟩ => ?_
        subst e3 e4
        refine thn (op_eqD hu pins s3 σ H3 z (.str word) u c (fun v H' => v = .bl (PyData.eqv dz (.str word)) ∧ H' = H3) I3 r1 r3 ⟨dz, .str word, hdz, .str _, sz, hws, rfl, rfl⟩) fun d s4 ⟨y, H4, I4, r4, e5, e6⟩ => ?_
        subst e5 e6
        obtain rfl : d = Value.bool (PyData.eqv dz (.str word)) := r4
        refine wpAny_truthy_bool ?_
        rcases h with ⟨ez, h⟩ | ⟨ne, h⟩
        · rw [if_pos (eqv_strD.mpr ez)]
          have ul : us.length = ns.length := by
            have := r2.length
            omega
          refine hcap.each s4 us _ ul ?_
          show wpAny _ _ (assignInOrder _ _) _ _ s4
          exact bind_all hN ns us ys σ s4 _ hcap.slot ul r2 I4 fun s5 I5 => hb.run pins s5 _ H4 D I5 h
        · rw [if_neg (fun y => ne (eqv_strD.mp y))]
          exact miss s4 I4 h
    rw [e1]
    refine unpackItems_tuple (I.ok.hd hc) ht fun h' hx => ?_
    have I1 : Inv X pins σ H { s with heap := h', toks := s.toks + 1 + 1 } := I.kept (t' := s.toks + 1 + 1) fun b o q => hx b o (Nat.ne_of_lt (Heap.lt_size q)) q
    refine key _ ?_
    exact I1
/-! max(tuple), max(tuple, default=d) -/
def rMaxT (K : PySem.W.Frag) : List V → Hp → VK → Prop := fun vs H Q => ∃ (a : Addr) (ns : List Int), vs = [V.ref a] ∧ SqT K H a (ns.map V.int) ∧ 0 < ns.length ∧ ∀ m, m ∈ ns → (∀ y, y ∈ ns → y ≤ m) → Q (.int m) H
theorem best_in {ns : List Int} (h : 0 < ns.length) : ns.getD (argBest (fun i j => decide (ns.getD i 0 > ns.getD j 0)) (ns.length - 1)) 0 ∈ ns ∧ ∀ y, y ∈ ns → y ≤ ns.getD (argBest (fun i j => decide (ns.getD i 0 > ns.getD j 0)) (ns.length - 1)) 0 := by
  obtain ⟨h1, h2⟩ := argBest_gt (fun i => ns.getD i 0) (ns.length - 1)
  refine ⟨?_, fun y hy => ?_⟩
  · generalize argBest (fun i j => decide (ns.getD i 0 > ns.getD j 0)) (ns.length - 1) = k at h1
    have hk : k < ns.length := by omega
    rw [List.getD_eq_getElem?_getD, List.getElem?_eq_getElem hk]
    exact List.getElem_mem hk
  · obtain ⟨j, hj, rfl⟩ := List.getElem_of_mem hy
    have := h2 j (by omega)
    have e : ns.getD j 0 = ns[j] := by
      rw [List.getD_eq_getElem?_getD, List.getElem?_eq_getElem hj]
      rfl
    rw [← e]
    exact this
theorem ints_at {its : List Value} {ns : List Int} (rv : Vals (ns.map V.int) its) : ∀ (i : Nat) (v : Value), its.toArray[i]? = some v → ∃ t, v = Value.int (ns.getD i 0) t := fun i v hv => by
  have hv2 : its[i]? = some v := by simpa using hv
  have hl := rv.length
  rw [List.length_map] at hl
  have hi : i < ns.length := by
    have := (List.getElem?_eq_some_iff.mp hv2).1
    omega
  obtain ⟨u, hu, ru⟩ := rv.get (show (ns.map V.int)[i]? = some (V.int ns[i]) by rw [List.getElem?_map, List.getElem?_eq_getElem hi]; rfl)
  rw [hv2] at hu
  cases hu
  obtain ⟨t, rfl⟩ := (show ∃ t, v = Value.int ns[i] t from ru)
  exact ⟨t, by
    show Value.int ns[i] t = Value.int (ns.getD i 0) t
    rw [List.getD_eq_getElem?_getD, List.getElem?_eq_getElem hi]
    rfl⟩
theorem cr_maxT {X : Cx} (hc : X.calm = true) : CallR X (.builtin "max") (rMaxT X.K) := by
  intro pins s σ H vs us Q I r h
  obtain ⟨a, ns, rfl, hs, hne, q⟩ := h
  obtain ⟨its, rv, ht, _⟩ := I.tuple hs
  rw [Vals.ref1 r]
  have hh := I.ok.hd hc
  have lta : a < s.heap.objs.size := by
    obtain ⟨o, ho, _⟩ := id ht
    exact Heap.lt_size ho
  have hl := rv.length
  rw [List.length_map] at hl
  have hz : its.toArray.size = ns.length := by rw [List.size_toArray, hl]
  refine call_max_walk (wpAny_pyIter_tuple (show s.heap.IsTuple a its.toArray from ht) ⟨s.heap.objs.size, _, _, _, _, _, fun i j => decide (ns.getD i 0 > ns.getD j 0), rfl, Walks.tuple (A := X.A.in1) hh s.heap.objs.size a (Nat.ne_of_lt lta) its.toArray, ⟨⟨_, Heap.get?_push_size _ rfl, rfl, rfl⟩, (show s.heap.IsTuple a its.toArray from ht).at fun o e => Heap.get?_push_of_some _ e⟩, fun b hb => ?_, by rw [hz]; exact hne, CmpOf.ints_gt (fun i => ns.getD i 0) (ints_at rv), fun v h' tk hP hk => ?_⟩)
  · show b < (s.heap.push _).objs.size
    rw [Heap.size_push]
    rcases List.mem_cons.mp hb with z | z
    · rw [z]
      exact Nat.lt_succ_self _
    · rw [List.mem_singleton.mp z]
      exact Nat.lt_succ_of_lt lta
  · obtain ⟨t, rfl⟩ := ints_at rv _ _ hP
    rw [hz]
    obtain ⟨b1, b2⟩ := best_in hne
    refine ⟨.int _, H, I.kept fun b o e => hk b o (fun z => ?_) (Heap.get?_push_of_some _ e), ⟨_, rfl⟩, q _ b1 b2⟩
    rw [List.mem_singleton] at z
    rw [z] at e
    exact Nat.lt_irrefl _ (Heap.lt_size e)
theorem cr_maxTD {X : Cx} (hc : X.calm = true) : CallRK X (.builtin "max") [Str.ofString "default"] (fun vs zs H Q => (∃ z, zs = [z]) ∧ rMaxT X.K vs H Q) := by
  intro pins s σ H vs zs us ws Q I r rz h
  obtain ⟨⟨z, rfl⟩, a, ns, rfl, hs, hne, q⟩ := h
  obtain ⟨its, rv, ht, _⟩ := I.tuple hs
  rw [Vals.ref1 r]
  match ws, rz with
  | [d], .cons rd .nil =>
    have hh := I.ok.hd hc
    have lta : a < s.heap.objs.size := by
      obtain ⟨o, ho, _⟩ := id ht
      exact Heap.lt_size ho
    have hl := rv.length
    rw [List.length_map] at hl
    have hz : its.toArray.size = ns.length := by rw [List.size_toArray, hl]
    have none : ∀ (b : Addr) (o : Obj), ({ s.heap with objs := #[] } : Heap).get? b = some o → False := fun b o e => by
      have := Heap.lt_size e
      exact Nat.not_lt_zero _ this
    refine call_max_walkD (wpAny_pyIter_tuple (show s.heap.IsTuple a its.toArray from ht) ⟨s.heap.objs.size, _, _, _, _, _, _, { s.heap with objs := #[] }, fun i j => decide (ns.getD i 0 > ns.getD j 0), rfl, (Walks.tuple (A := X.A.in1) hh s.heap.objs.size a (Nat.ne_of_lt lta) its.toArray).toS, ⟨⟨_, Heap.get?_push_size _ rfl, rfl, rfl⟩, (show s.heap.IsTuple a its.toArray from ht).at fun o e => Heap.get?_push_of_some _ e⟩, fun b hb => ?_, fun b o e => (none b o e).elim, fun b o e => (none b o e).elim, fun e => by rw [hz] at e; omega, fun _ => ⟨fun i j vi vj s' Q' E' _ hi hj hq => CmpOf.ints_gt (fun i => ns.getD i 0) (ints_at rv) i j vi vj s' Q' E' hi hj hq, fun v s' hP hm => ?_⟩⟩)
    · show b < (s.heap.push _).objs.size
      rw [Heap.size_push]
      rcases List.mem_cons.mp hb with z | z
      · rw [z]
        exact Nat.lt_succ_self _
      · rw [List.mem_singleton.mp z]
        exact Nat.lt_succ_of_lt lta
    · obtain ⟨t, rfl⟩ := ints_at rv _ _ hP
      rw [hz]
      obtain ⟨b1, b2⟩ := best_in hne
      obtain ⟨h', g', d', t', o'⟩ := s'
      have eg : g' = s.gens := hm.gens
      have ed : d' = s.drawn := hm.drawn
      have eo : o' = s.os := hm.os
      subst eg ed eo
      refine ⟨.int _, H, I.kept (h' := h') (t' := t') fun b o e => hm.heap b o (fun z => ?_) (Heap.get?_push_of_some _ e), ⟨_, rfl⟩, q _ b1 b2⟩
      rw [List.mem_singleton] at z
      rw [z] at e
      exact Nat.lt_irrefl _ (Heap.lt_size e)
/-! sum(tuple) -/
theorem preSum_take (ns : List Int) : ∀ k, preSum (fun i => ns.getD i 0) k = (ns.take k).sum
  | 0 => rfl
  | k + 1 => by
    show preSum (fun i => ns.getD i 0) k + ns.getD k 0 = _
    rw [preSum_take ns k, List.take_add_one, List.getD_eq_getElem?_getD]
    cases ns[k]? with
    | none => simp
    | some x => simp
def rSumT (K : PySem.W.Frag) : List V → Hp → VK → Prop := fun vs H Q => ∃ (a : Addr) (ns : List Int), vs = [V.ref a] ∧ SqT K H a (ns.map V.int) ∧ Q (.int ns.sum) H
theorem cr_sumT {X : Cx} (hc : X.calm = true) : CallR X (.builtin "sum") (rSumT X.K) := by
  intro pins s σ H vs us Q I r h
  obtain ⟨a, ns, rfl, hs, q⟩ := h
  obtain ⟨its, rv, ht, _⟩ := I.tuple hs
  rw [Vals.ref1 r]
  have hh := I.ok.hd hc
  have lta : a < s.heap.objs.size := by
    obtain ⟨o, ho, _⟩ := ht
    exact Heap.lt_size ho
  have hl := rv.length
  rw [List.length_map] at hl
  refine call_sum_walkG (wpAny_pyIter_tuple (show s.heap.IsTuple a its.toArray from ht) ⟨s.heap.objs.size, _, _, _, _, _, fun i => ns.getD i 0, rfl, Walks.tuple (A := X.A.in1) hh s.heap.objs.size a (Nat.ne_of_lt lta) its.toArray, ⟨⟨_, Heap.get?_push_size _ rfl, rfl, rfl⟩, (show s.heap.IsTuple a its.toArray from ht).at fun o e => Heap.get?_push_of_some _ e⟩, fun b hb => ?_, fun i v hv => ?_, fun h' tk t' hk => ?_⟩)
  · show b < (s.heap.push _).objs.size
    rw [Heap.size_push]
    rcases List.mem_cons.mp hb with z | z
    · rw [z]
      exact Nat.lt_succ_self _
    · rw [List.mem_singleton.mp z]
      exact Nat.lt_succ_of_lt lta
  · have hv2 : its[i]? = some v := by simpa using hv
    have hi : i < ns.length := by
      have := (List.getElem?_eq_some_iff.mp hv2).1
      omega
    obtain ⟨u, hu, ru⟩ := rv.get (show (ns.map V.int)[i]? = some (V.int ns[i]) by rw [List.getElem?_map, List.getElem?_eq_getElem hi]; rfl)
    rw [hv2] at hu
    cases hu
    obtain ⟨t, rfl⟩ := (show ∃ t, v = Value.int ns[i] t from ru)
    exact ⟨t, by
      show Value.int ns[i] t = Value.int (ns.getD i 0) t
      rw [List.getD_eq_getElem?_getD, List.getElem?_eq_getElem hi]
      rfl⟩
  · rw [preSum_take, List.take_of_length_le (by rw [List.size_toArray]; omega)]
    refine ⟨.int _, H, I.kept fun b o e => hk b o (fun z => ?_) (Heap.get?_push_of_some _ e), ⟨_, rfl⟩, q⟩
    rw [List.mem_singleton] at z
    rw [z] at e
    exact Nat.lt_irrefl _ (Heap.lt_size e)
theorem sumTK {X : Cx} {K : PySem.W.Frag} (h : X.K = K) (hc : X.calm = true) : CallR X (.builtin "sum") (rSumT K) := by
  subst h
  exact cr_sumT hc
/-! what a register holds -/
def parF : Nat → Nat → Nat
  | 0, _ => 0
  | f + 1, n => (n % 2 + parF f (n / 2)) % 2
def par (n : Nat) : Nat := parF 7 n
def regS (w p x : Nat) : Nat := 2 * x % 2 ^ w + par (x &&& p)
def regA (w p s : Nat) : Nat → Nat
  | 0 => s
  | k + 1 => regS w p (regA w p s k)
def regI (w p z : Nat) : Nat := z / 2 + 2 ^ (w - 1) * ((z % 2 + par ((z / 2) &&& p)) % 2)
theorem par_lt (n : Nat) : par n < 2 := Nat.mod_lt _ (by decide)
theorem regS_lt {w p x : Nat} (hw : 1 ≤ w) : regS w p x < 2 ^ w := by
  unfold regS
  have h1 := par_lt (x &&& p)
  have h2 := Nat.mod_lt (2 * x) (Nat.two_pow_pos w)
  obtain ⟨v, rfl⟩ : ∃ v, w = v + 1 := ⟨w - 1, by omega⟩
  rw [Nat.pow_succ] at *
  have : 2 * x % (2 ^ v * 2) % 2 = 0 := by
    rw [Nat.mod_mul_left_mod]
    omega
  omega
theorem reg_back2 : ∀ p, p < 4 → 2 ≤ p → ∀ x, x < 4 → regI 2 p (regS 2 p x) = x := by decide +kernel
theorem reg_back3 : ∀ p, p < 8 → 4 ≤ p → ∀ x, x < 8 → regI 3 p (regS 3 p x) = x := by decide +kernel
theorem reg_back4 : ∀ p, p < 16 → 8 ≤ p → ∀ x, x < 16 → regI 4 p (regS 4 p x) = x := by decide +kernel
theorem reg_back5 : ∀ p, p < 32 → 16 ≤ p → ∀ x, x < 32 → regI 5 p (regS 5 p x) = x := by decide +kernel
theorem reg_back6 : ∀ p, p < 64 → 32 ≤ p → ∀ x, x < 64 → regI 6 p (regS 6 p x) = x := by decide +kernel
structure RgW (w p : Nat) : Prop where
  lo : 2 ≤ w
  hi : w ≤ 6
  pl : 2 ^ (w - 1) ≤ p
  ph : p < 2 ^ w
theorem reg_back {w p x : Nat} (h : RgW w p) (hx : x < 2 ^ w) : regI w p (regS w p x) = x := by
  obtain ⟨h1, h2, h3, h4⟩ := h
  match w, h1, h2 with
  | 2, _, _ => exact reg_back2 p h4 h3 x hx
  | 3, _, _ => exact reg_back3 p h4 h3 x hx
  | 4, _, _ => exact reg_back4 p h4 h3 x hx
  | 5, _, _ => exact reg_back5 p h4 h3 x hx
  | 6, _, _ => exact reg_back6 p h4 h3 x hx
theorem regA_lt {w p s : Nat} (h : RgW w p) (hs : s < 2 ^ w) : ∀ k, regA w p s k < 2 ^ w
  | 0 => hs
  | _ + 1 => regS_lt (by have := h.lo; omega)
theorem reg_inj {w p x y : Nat} (h : RgW w p) (hx : x < 2 ^ w) (hy : y < 2 ^ w) (e : regS w p x = regS w p y) : x = y := by
  rw [← reg_back h hx, e, reg_back h hy]
theorem regA_back {w p s : Nat} (h : RgW w p) (hs : s < 2 ^ w) : ∀ i d, regA w p s (i + d) = regA w p s i → regA w p s d = s
  | 0, d, e => by rw [Nat.zero_add] at e; exact e
  | i + 1, d, e => by
    rw [show i + 1 + d = (i + d) + 1 by omega] at e
    exact regA_back h hs i d (reg_inj h (regA_lt h hs _) (regA_lt h hs _) e)
theorem regA_zero {w p s : Nat} (h : RgW w p) (hs : s < 2 ^ w) (s0 : 0 < s) : ∀ k, 0 < regA w p s k
  | 0 => s0
  | k + 1 => by
    rcases Nat.eq_zero_or_pos (regA w p s (k + 1)) with z | z
    · exfalso
      have ih := regA_zero h hs s0 k
      have e0 : regS w p 0 = 0 := by
        unfold regS
        rw [Nat.mul_zero, Nat.zero_mod, Nat.zero_and]
        rfl
      have : regA w p s k = 0 := reg_inj h (regA_lt h hs k) (Nat.two_pow_pos w) (by rw [e0]; exact z)
      omega
    · exact z
theorem pigeon : ∀ (n : Nat) (l : List Nat), l.Nodup → (∀ x, x ∈ l → x < n) → l.length ≤ n
  | 0, l, _, h => by
    cases l with
    | nil => exact Nat.le_refl 0
    | cons x r => exact absurd (h x List.mem_cons_self) (Nat.not_lt_zero _)
  | n + 1, l, hd, h => by
    by_cases hm : n ∈ l
    · have h1 := pigeon n (l.erase n) (hd.erase n) fun x hx => by
        have h2 := (hd.mem_erase_iff).mp hx
        have := h x h2.2
        omega
      rw [List.length_erase_of_mem hm] at h1
      omega
    · have h1 := pigeon n l hd fun x hx => by
        have := h x hx
        have : x ≠ n := fun e => hm (e ▸ hx)
        omega
      omega
/-- the first k that comes back -/
structure IsPer (w p s k : Nat) : Prop where
  pos : 1 ≤ k
  le : k ≤ 2 ^ w
  back : regA w p s k = s
  first : ∀ j, 0 < j → j < k → regA w p s j ≠ s
theorem reg_nodup {w p s k : Nat} (h : RgW w p) (hs : s < 2 ^ w) (hf : ∀ j, 0 < j → j < k → regA w p s j ≠ s) : ((List.range k).map (regA w p s)).Nodup := by
  rw [List.nodup_iff_pairwise_ne, List.pairwise_map]
  refine List.pairwise_lt_range.imp_of_mem ?_
  intro a b ha hb hab e
  have hb := List.mem_range.mp hb
  refine hf (b - a) (by omega) (by omega) (regA_back h hs a (b - a) ?_)
  rw [show a + (b - a) = b by omega]
  exact e.symm
theorem per_ex {w p s : Nat} (h : RgW w p) (hs : s < 2 ^ w) : ∃ k, IsPer w p s k := by
  have ex : ∃ k, 1 ≤ k ∧ k ≤ 2 ^ w ∧ regA w p s k = s := by
    apply Classical.byContradiction
    intro hn
    have hf : ∀ j, 0 < j → j < 2 ^ w + 1 → regA w p s j ≠ s := fun j h0 h1 e => hn ⟨j, by omega, by omega, e⟩
    have := pigeon (2 ^ w) _ (reg_nodup h hs hf) fun x hx => by
      obtain ⟨j, _, rfl⟩ := List.mem_map.mp hx
      exact regA_lt h hs j
    rw [List.length_map, List.length_range] at this
    omega
  -- the least such
  have least : ∀ n, ∀ k, k ≤ n → 1 ≤ k → k ≤ 2 ^ w → regA w p s k = s → ∃ k, IsPer w p s k := by
    intro n
    induction n with
    | zero => intro k h1 h2; omega
    | succ n ih =>
      intro k h1 h2 h3 h4
      by_cases hj : ∃ j, 0 < j ∧ j < k ∧ regA w p s j = s
      · obtain ⟨j, j0, jk, je⟩ := hj
        exact ih j (by omega) j0 (by omega) je
      · exact ⟨k, h2, h3, h4, fun j j0 jk je => hj ⟨j, j0, jk, je⟩⟩
  obtain ⟨k, h1, h2, h3⟩ := ex
  exact least k k (Nat.le_refl k) h1 h2 h3
theorem IsPer.uniq {w p s k l : Nat} (h : IsPer w p s k) (g : IsPer w p s l) : k = l := by
  rcases Nat.lt_trichotomy k l with z | z | z
  · exact absurd h.back (g.first k h.pos z)
  · exact z
  · exact absurd g.back (h.first l g.pos z)
noncomputable def per (w p s : Nat) : Nat := @dite Nat (∃ k, IsPer w p s k) (Classical.propDecidable _) (fun h => h.choose) (fun _ => 0)
theorem per_is {w p s : Nat} (h : RgW w p) (hs : s < 2 ^ w) : IsPer w p s (per w p s) := by
  unfold per
  rw [dif_pos (per_ex h hs)]
  exact (per_ex h hs).choose_spec
theorem per_eq {w p s k : Nat} (h : RgW w p) (hs : s < 2 ^ w) (g : IsPer w p s k) : per w p s = k := (per_is h hs).uniq g
/-- the law's odd count -/
def oddL (w x p : Nat) : Int := ((List.range w).map fun j => (((x / 2 ^ j % 2 : Nat) : Int) * ((p / 2 ^ j % 2 : Nat) : Int))).sum % 2
theorem odd2 : ∀ p, p < 4 → ∀ x, x < 4 → oddL 2 x p = ((par (x &&& p) : Nat) : Int) := by decide +kernel
theorem odd3 : ∀ p, p < 8 → ∀ x, x < 8 → oddL 3 x p = ((par (x &&& p) : Nat) : Int) := by decide +kernel
theorem odd4 : ∀ p, p < 16 → ∀ x, x < 16 → oddL 4 x p = ((par (x &&& p) : Nat) : Int) := by decide +kernel
theorem odd5 : ∀ p, p < 32 → ∀ x, x < 32 → oddL 5 x p = ((par (x &&& p) : Nat) : Int) := by decide +kernel
theorem odd6 : ∀ p, p < 64 → ∀ x, x < 64 → oddL 6 x p = ((par (x &&& p) : Nat) : Int) := by decide +kernel
theorem odd_eq {w p x : Nat} (h : RgW w p) (hx : x < 2 ^ w) : oddL w x p = ((par (x &&& p) : Nat) : Int) := by
  obtain ⟨h1, h2, h3, h4⟩ := h
  match w, h1, h2 with
  | 2, _, _ => exact odd2 p h4 x hx
  | 3, _, _ => exact odd3 p h4 x hx
  | 4, _, _ => exact odd4 p h4 x hx
  | 5, _, _ => exact odd5 p h4 x hx
  | 6, _, _ => exact odd6 p h4 x hx
/-! makers -/
inductive Mk where
  | counter (r s t : Nat)
  | table (ns : List Int)
  | turned (w s : Nat)
  | register (w p s : Nat)
  | slow (n : Nat) (m : Mk)
  | slip (n : Nat) (m : Mk)
  | late (n : Nat) (m : Mk)
def Mk.inn : Mk → Mk
  | .slow _ m => m.inn
  | .slip _ m => m.inn
  | .late _ m => m.inn
  | m => m
def Mk.dep : Mk → Nat
  | .slow _ m => m.dep + 1
  | .slip _ m => m.dep + 1
  | .late _ m => m.dep + 1
  | _ => 0
def Mk.bt : Mk → Int → Int
  | .slow n m, t => m.bt (t / n)
  | .slip n m, t => m.bt (t + t / n)
  | .late n m, t => m.bt (t - n)
  | _, t => t
def lff (n : Nat) : Nat → Nat
  | 0 => 0
  | w + 1 => 2 * lff n w + n / 2 ^ w % 2
noncomputable def Mk.pl : Mk → List Int
  | .counter r s t => (List.range r).map fun i => (((t + s * i) % r : Nat) : Int)
  | .table ns => ns
  | .turned w s => (List.range (2 ^ w)).map fun i => ((lff ((s + i) % 2 ^ w) w : Nat) : Int)
  | .register w p s => (List.range (per w p s)).map fun k => ((regA w p s k : Nat) : Int)
  | _ => []
noncomputable def Mk.rnd : Mk → Nat
  | .slow n m => n * m.rnd
  | .slip n m => n * m.rnd / Nat.gcd m.rnd (n + 1)
  | .late _ m => m.rnd
  | m => m.pl.length
def Mk.Pl : Mk → Prop
  | .counter r s t => 1 ≤ r ∧ r ≤ 64 ∧ s ≤ 64 ∧ t < r
  | .table ns => 1 ≤ ns.length ∧ ns.length ≤ 64 ∧ ∀ x, x ∈ ns → 0 ≤ x ∧ x ≤ 63
  | .turned w s => 1 ≤ w ∧ w ≤ 6 ∧ s < 2 ^ w
  | .register w p s => RgW w p ∧ 1 ≤ s ∧ s < 2 ^ w
  | _ => False
def Mk.Ok : Mk → Prop
  | .slow n m => 1 ≤ n ∧ n ≤ 64 ∧ m.Ok
  | .slip n m => 1 ≤ n ∧ n ≤ 64 ∧ m.Ok
  | .late n m => n ≤ 64 ∧ m.Ok
  | m => m.Pl
def Mk.Top : Mk → Int → Prop
  | .counter r _ _, v => v = r
  | .table ns, v => ∃ M, M ∈ ns ∧ (∀ y, y ∈ ns → y ≤ M) ∧ v = M + 1
  | .turned w _, v => v = ((2 ^ w : Nat) : Int)
  | .register w _ _, v => v = ((2 ^ w : Nat) : Int)
  | _, _ => False
theorem Mk.Top.uniq {m : Mk} {v u : Int} (h : m.Top v) (k : m.Top u) : v = u := by
  cases m with
  | counter r s t => exact h.trans k.symm
  | table ns =>
    obtain ⟨M, h1, h2, rfl⟩ := h
    obtain ⟨N, k1, k2, rfl⟩ := k
    have := h2 N k1
    have := k2 M h1
    omega
  | turned w s => exact h.trans k.symm
  | register w p s => exact h.trans k.symm
  | _ => exact h.elim
noncomputable def Mk.val (m : Mk) (t : Int) : Int := m.inn.pl.getD ((m.bt t) % (m.inn.pl.length : Int)).toNat 0
theorem Mk.Ok.inn : ∀ {m : Mk}, m.Ok → m.inn.Pl
  | .slow _ m, h => Mk.Ok.inn (m := m) h.2.2
  | .slip _ m, h => Mk.Ok.inn (m := m) h.2.2
  | .late _ m, h => Mk.Ok.inn (m := m) h.2
  | .counter _ _ _, h => h
  | .table _, h => h
  | .turned _ _, h => h
  | .register _ _ _, h => h
theorem Mk.Pl.len {m : Mk} (h : m.Pl) : 1 ≤ m.pl.length ∧ m.pl.length ≤ 64 := by
  cases m with
  | counter r s t =>
    obtain ⟨h1, h2, _⟩ := h
    simp only [Mk.pl, List.length_map, List.length_range]
    omega
  | table ns => exact ⟨h.1, h.2.1⟩
  | turned w s =>
    obtain ⟨h1, h2, _⟩ := h
    simp only [Mk.pl, List.length_map, List.length_range]
    exact ⟨Nat.one_le_two_pow, Nat.le_trans (Nat.pow_le_pow_right (by decide) h2) (by decide)⟩
  | register w p s =>
    obtain ⟨h1, h2, h3⟩ := h
    have ip := per_is h1 h3
    simp only [Mk.pl, List.length_map, List.length_range]
    exact ⟨ip.pos, Nat.le_trans ip.le (Nat.le_trans (Nat.pow_le_pow_right (by decide) h1.hi) (by decide))⟩
  | _ => exact h.elim
theorem Mk.inn_dep : ∀ m : Mk, m.inn.dep = 0
  | .slow _ m => Mk.inn_dep m
  | .slip _ m => Mk.inn_dep m
  | .late _ m => Mk.inn_dep m
  | .counter _ _ _ => rfl
  | .table _ => rfl
  | .turned _ _ => rfl
  | .register _ _ _ => rfl
theorem Mk.inn_self : ∀ {m : Mk}, m.dep = 0 → m.inn = m
  | .counter _ _ _, _ => rfl
  | .table _, _ => rfl
  | .turned _ _, _ => rfl
  | .register _ _ _, _ => rfl
/-! makers as they stand -/
def MkAt (H : Hp) : Mk → V → Prop
  | .counter r s t, v => ∃ a, v = .ref a ∧ H a = some (.tup [.str "counter", .int (r : Nat), .int (s : Nat), .int (t : Nat)])
  | .table ns, v => ∃ a b, v = .ref a ∧ H a = some (.tup [.str "table", .ref b]) ∧ H b = some (.tup (ns.map V.int))
  | .turned w s, v => ∃ a, v = .ref a ∧ H a = some (.tup [.str "turned", .int (w : Nat), .int (s : Nat)])
  | .register w p s, v => ∃ a, v = .ref a ∧ H a = some (.tup [.str "register", .int (w : Nat), .int (p : Nat), .int (s : Nat)])
  | .slow n m, v => ∃ a x, v = .ref a ∧ H a = some (.tup [.str "slow", .int (n : Nat), x]) ∧ MkAt H m x
  | .slip n m, v => ∃ a x, v = .ref a ∧ H a = some (.tup [.str "slip", .int (n : Nat), x]) ∧ MkAt H m x
  | .late n m, v => ∃ a x, v = .ref a ∧ H a = some (.tup [.str "late", .int (n : Nat), x]) ∧ MkAt H m x
theorem MkAt.keep {H H' : Hp} (s : ∀ a xs, H a = some (.tup xs) → H' a = some (.tup xs)) : ∀ {m : Mk} {v : V}, MkAt H m v → MkAt H' m v
  | .counter _ _ _, _, ⟨a, e, h⟩ => ⟨a, e, s _ _ h⟩
  | .table _, _, ⟨a, b, e, h, k⟩ => ⟨a, b, e, s _ _ h, s _ _ k⟩
  | .turned _ _, _, ⟨a, e, h⟩ => ⟨a, e, s _ _ h⟩
  | .register _ _ _, _, ⟨a, e, h⟩ => ⟨a, e, s _ _ h⟩
  | .slow _ m, _, ⟨a, x, e, h, k⟩ => ⟨a, x, e, s _ _ h, MkAt.keep s (m := m) k⟩
  | .slip _ m, _, ⟨a, x, e, h, k⟩ => ⟨a, x, e, s _ _ h, MkAt.keep s (m := m) k⟩
  | .late _ m, _, ⟨a, x, e, h, k⟩ => ⟨a, x, e, s _ _ h, MkAt.keep s (m := m) k⟩
theorem MkAt.same {H H' : Hp} {m : Mk} {v : V} (h : MkAt H m v) (s : Same H H') : MkAt H' m v := h.keep fun _ _ e => s _ _ e
theorem MkAt.but {H H' : Hp} {m : Mk} {v : V} {p : Addr} {n : Nat} (h : MkAt H m v) (B : Bx H p n) (s : But p H H') : MkAt H' m v := h.keep fun _ _ e => s _ _ (B.ne_tup e) e
def inW (z : Str) : Bool := inV (.str z) [.str "slow", .str "slip", .str "late"]
theorem inW_slow : inW "slow" = true := by decide +kernel
theorem inW_slip : inW "slip" = true := by decide +kernel
theorem inW_late : inW "late" = true := by decide +kernel
theorem inW_counter : inW "counter" = false := by decide +kernel
theorem inW_table : inW "table" = false := by decide +kernel
theorem inW_turned : inW "turned" = false := by decide +kernel
theorem inW_register : inW "register" = false := by decide +kernel
/-- what stands around a maker -/
structure Around1 (m : Mk) (z : Str) (n : Nat) (m' : Mk) : Prop where
  word : (z = "slow" ∧ m = .slow n m') ∨ (z = "slip" ∧ m = .slip n m') ∨ (z = "late" ∧ m = .late n m')
theorem MkAt.shape {H : Hp} {m : Mk} {v : V} (h : MkAt H m v) : (∃ z n m' a x, v = .ref a ∧ H a = some (.tup [.str z, .int (n : Nat), x]) ∧ MkAt H m' x ∧ Around1 m z n m' ∧ inW z = true) ∨ (m.dep = 0 ∧ ∃ a z xs, v = .ref a ∧ H a = some (.tup (.str z :: xs)) ∧ inW z = false) := by
  cases m with
  | counter r s t => obtain ⟨a, e, h⟩ := h; exact .inr ⟨rfl, a, _, _, e, h, inW_counter⟩
  | table ns => obtain ⟨a, b, e, h, _⟩ := h; exact .inr ⟨rfl, a, _, _, e, h, inW_table⟩
  | turned w s => obtain ⟨a, e, h⟩ := h; exact .inr ⟨rfl, a, _, _, e, h, inW_turned⟩
  | register w p s => obtain ⟨a, e, h⟩ := h; exact .inr ⟨rfl, a, _, _, e, h, inW_register⟩
  | slow n m => obtain ⟨a, x, e, h, k⟩ := h; exact .inl ⟨_, n, m, a, x, e, h, k, ⟨.inl ⟨rfl, rfl⟩⟩, inW_slow⟩
  | slip n m => obtain ⟨a, x, e, h, k⟩ := h; exact .inl ⟨_, n, m, a, x, e, h, k, ⟨.inr (.inl ⟨rfl, rfl⟩)⟩, inW_slip⟩
  | late n m => obtain ⟨a, x, e, h, k⟩ := h; exact .inl ⟨_, n, m, a, x, e, h, k, ⟨.inr (.inr ⟨rfl, rfl⟩)⟩, inW_late⟩
theorem Around1.dep {m m' : Mk} {z : Str} {n : Nat} (h : Around1 m z n m') : m.dep = m'.dep + 1 ∧ m.inn = m'.inn := by
  rcases h.word with ⟨_, rfl⟩ | ⟨_, rfl⟩ | ⟨_, rfl⟩ <;> exact ⟨rfl, rfl⟩
def sp_innermost (_ : PySem.W.Frag) : Sp := fun vs H Q _ => ∃ m v, vs = [v] ∧ MkAt H m v ∧ ∀ H' u, Same H H' → MkAt H' m.inn u → Q u H'
def sp_inner_beat (_ : PySem.W.Frag) : Sp := fun vs H Q _ => ∃ m v t, vs = [v, .int t] ∧ MkAt H m v ∧ m.Ok ∧ ∀ H', Same H H' → Q (.int (m.bt t)) H'
/-! the program: numbers of plain makers -/
theorem is_pos {n : Nat} (h : 1 ≤ n) : (0 : Int) < (n : Int) := by omega
def sp_counter_round (_ : PySem.W.Frag) : Sp := fun vs H Q _ => ∃ r s t : Nat, vs = [.int (r : Nat), .int (s : Nat), .int (t : Nat)] ∧ 1 ≤ r ∧ r ≤ 64 ∧ s ≤ 64 ∧ t < r ∧
  ∀ H' p, Same H H' → H p = none → H' p = some (.lst ((Mk.counter r s t).pl.map V.int)) → Q (.ref p) H'
theorem ok_counter_round (T : Defs K mg) (TT : Tabs T base) : FnOk P w K mg base CX0 1 T.f_counter_round T.fd_counter_round ["size", "step", "start"] (sp_counter_round K) := by
  refine T.F_counter_round.ok sc_counter_round (fun vs H Q E h => ?_) (fun cdv A outer s H vs Q E hr h => ?_)
  · obtain ⟨r, s', t, rfl, r1, r2, s2, t2, q⟩ := h
    rfl
  · obtain ⟨r, s', t, rfl, r1, r2, s2, t2, q⟩ := h
    refine ⟨_, PSs.nox (pss_one (ps_ret (pe_lc (own := [("t", 3)]) (g := gName 3) (tt := tYes) rfl sc_counter_round.nd (pi_range1 (by rfl) T.m_range (pa_cons (pv 0) pa_nil)) (blkOk_by (N := N_counter_round) (sc := defScope s_counter_round) (by decide +kernel)) (fun _ _ _ _ _ => (pg_name (i := 3) sc_counter_round.nd rfl (.inl rfl))) (fun _ _ _ _ _ => pts_nil) (fun _ _ _ _ _ => (pe_op op_mod (pe_op op_add (pv 2) (pe_op op_mul (pv 1) (pv 3))) (pv 0)))))), ?_⟩
    have hsl : sizeLine = 16777216 := by decide
    refine ⟨.int (r : Nat), rfl, (r : Nat), rfl, by omega, by omega, fun D nD => ?_⟩
    refine lc_range (fun i H1 => Same H H1 ∧ H1 D = some (.lst (((List.range i).map fun i => (((t + s' * i) % r : Nat) : Int)).map V.int))) ⟨same_upd nD, upd_same⟩ (fun i H1 hi h => ?_) (fun H1 h => ?_)
    · obtain ⟨s1, hD⟩ := h
      have hi : i < r := by omega
      refine ⟨rfl, yes_ite ?_⟩
      refine ⟨.int (t : Nat), rfl, .int (s' : Nat), rfl, _, rfl, _, _, rfl, rfl, .inl ⟨by omega, by omega⟩, _, _, rfl, rfl, .int (r : Nat), rfl, _, _, rfl, rfl, is_pos r1, ?_⟩
      refine ⟨_, hD, by rw [List.length_map, List.length_map, List.length_range]; omega, same_newer s1 nD, ?_⟩
      rw [upd_same, List.range_succ, List.map_append, List.map_append]
      have e : ((t : Int) + (s' : Int) * (0 + (i : Int))) % (r : Int) = (((t + s' * i) % r : Nat) : Int) := by
        rw [Int.zero_add, Int.natCast_emod, Int.natCast_add, Int.natCast_mul]
      dsimp only
      rw [e]
      rfl
    · obtain ⟨s1, hD⟩ := h
      rw [Int.toNat_natCast] at hD
      exact q H1 D s1 nD hD
def sp_last_for_first (_ : PySem.W.Frag) : Sp := fun vs H Q _ => ∃ n w : Nat, vs = [.int (n : Nat), .int (w : Nat)] ∧ w ≤ 64 ∧ Q (.int (lff n w : Nat)) H
theorem bit_and (n i : Nat) : Builtin.bitAnd ((n : Int) / 2 ^ ((0 : Int) + (i : Int)).toNat) 1 = ((n / 2 ^ i % 2 : Nat) : Int) := by
  rw [Int.zero_add, Int.toNat_natCast]
  have h := _root_.Bits.bit_at (x := (n : Int)) i
  rw [Int.fdiv_eq_ediv_of_nonneg _ (by exact Int.le_of_lt (Int.pow_pos (by decide)))] at h
  rw [h]
  have e : ((2 : Int) ^ i) = ((2 ^ i : Nat) : Int) := by rw [Int.natCast_pow]; rfl
  rw [e]
  omega
theorem ok_last_for_first (T : Defs K mg) (TT : Tabs T base) : FnOk P w K mg base CX0 1 T.f_last_for_first T.fd_last_for_first ["number", "wide"] (sp_last_for_first K) := by
  refine T.F_last_for_first.ok sc_last_for_first (fun vs H Q E h => ?_) (fun cdv A outer s H vs Q E hr h => ?_)
  · obtain ⟨n, w', rfl, hw, q⟩ := h
    rfl
  · obtain ⟨n, w', rfl, hw, q⟩ := h
    refine ⟨_, PSs.nox (pss_cons (ps_set (i := 2) sc_last_for_first.nd rfl (.inl rfl) pe_int)
    (pss_cons ((ps_for PassesOwn.never rfl (pi_range1 (by rfl) T.m_range (pa_cons (pv 1) pa_nil)) (pg_name (i := 3) sc_last_for_first.nd rfl (.inl rfl)) (pss_one (ps_set (i := 2) sc_last_for_first.nd rfl (.inl rfl) (pe_op op_add (pe_op op_mul pe_int (pv 2)) (pe_op op_and (pe_op op_shr (pv 0) (pv 3)) pe_int))))))
    (pss_one (ps_ret (pv 2))))), ?_⟩
    refine ⟨.int (w' : Nat), rfl, (w' : Nat), rfl, by omega, by omega, for_range (fun i σ G => ∃ y3, σ = [some (.int (n : Nat)), some (.int (w' : Nat)), some (.int (lff n i : Nat)), y3] ∧ G = H) ⟨none, rfl, rfl⟩ ?_ ?_⟩
    · rintro i σ G hi ⟨y3, rfl, rfl⟩
      refine ⟨_, rfl, _, _, rfl, rfl, .inl ⟨by decide, by decide⟩, .int (n : Nat), rfl, .int (0 + (i : Int)), rfl, _, _, rfl, rfl, (show (0 : Int) ≤ 0 + (i : Int) by omega), _, _, rfl, rfl, _, _, rfl, rfl, some (.int (0 + (i : Int))), ?_, rfl⟩
      try dsimp only
      rw [bit_and]
      rfl
    · rintro σ G ⟨y3, rfl, rfl⟩
      rw [Int.toNat_natCast]
      exact ⟨_, rfl, q⟩
theorem two_pow6 {w : Nat} (h : w ≤ 6) : 1 ≤ 2 ^ w ∧ 2 ^ w ≤ 64 := ⟨Nat.one_le_two_pow, Nat.le_trans (Nat.pow_le_pow_right (by decide) h) (by decide)⟩
theorem shl_one (w : Nat) : (1 : Int) * 2 ^ ((w : Nat) : Int).toNat = ((2 ^ w : Nat) : Int) := by
  rw [Int.toNat_natCast, Int.one_mul, Int.natCast_pow]
  rfl
def sp_size_of (_ : PySem.W.Frag) : Sp := fun vs H Q _ => ∃ w : Nat, vs = [.int (w : Nat)] ∧ w ≤ 6 ∧ Q (.int ((2 ^ w : Nat) : Int)) H
theorem ok_size_of (T : Defs K mg) (TT : Tabs T base) : FnOk P w K mg base CX0 1 T.f_size_of T.fd_size_of ["wide"] (sp_size_of K) := by
  refine T.F_size_of.ok sc_size_of (fun vs H Q E h => ?_) (fun cdv A outer s H vs Q E hr h => ?_)
  · obtain ⟨w', rfl, hw, q⟩ := h
    rfl
  · obtain ⟨w', rfl, hw, q⟩ := h
    refine ⟨_, PSs.nox (pss_one (ps_ret (pe_op op_shl pe_int (pe_callB (call_max2 rfl) (by rfl) T.m_max bt_max (pa_cons (pv 0) (pa_cons pe_int pa_nil)))))), ?_⟩
    have e0 : (if (0 : Int) > (w' : Int) then (0 : Int) else (w' : Int)) = (w' : Int) := if_neg (by omega)
    refine ⟨.int (w' : Nat), rfl, _, _, rfl, ?_⟩
    try dsimp only
    rw [e0]
    refine ⟨_, _, rfl, rfl, ⟨(show (0 : Int) ≤ (w' : Int) by omega), (show (w' : Int) ≤ 1000000 by omega), by decide⟩, ?_⟩
    try dsimp only
    rw [shl_one]
    exact q
def sp_turned_round (_ : PySem.W.Frag) : Sp := fun vs H Q _ => ∃ w s : Nat, vs = [.int (w : Nat), .int (s : Nat)] ∧ 1 ≤ w ∧ w ≤ 6 ∧ s < 2 ^ w ∧
  ∀ H' p, Same H H' → H p = none → H' p = some (.lst ((Mk.turned w s).pl.map V.int)) → Q (.ref p) H'
theorem ok_turned_round (T : Defs K mg) (TT : Tabs T base) : FnOk P w K mg base CX0 2 T.f_turned_round T.fd_turned_round ["wide", "start"] (sp_turned_round K) := by
  have G_size_of : FnOk P w K mg base CX0 1 T.f_size_of T.fd_size_of ["wide"] (sp_size_of K) := ok_size_of T TT
  have G_last_for_first : FnOk P w K mg base CX0 1 T.f_last_for_first T.fd_last_for_first ["number", "wide"] (sp_last_for_first K) := ok_last_for_first T TT
  refine T.F_turned_round.ok sc_turned_round (fun vs H Q E h => ?_) (fun cdv A outer s H vs Q E hr h => ?_)
  · obtain ⟨w', s', rfl, w1, w2, hs, q⟩ := h
    rfl
  · obtain ⟨w', s', rfl, w1, w2, hs, q⟩ := h
    refine ⟨_, PSs.nox (pss_cons (ps_set (i := 2) sc_turned_round.nd rfl (.inr rfl) (pe_call G_size_of (hr.mono (by decide)) (by rfl) T.g_size_of T.F_size_of.kp T.b_size_of .nil pass0 (pa_cons (pv 0) pa_nil)))
    (pss_one (ps_ret (pe_lc (own := [("t", 3)]) (g := gName 3) (tt := tYes) rfl sc_turned_round.nd (pi_range1 (by rfl) T.m_range (pa_cons (pv 2) pa_nil)) (blkOk_by (N := N_turned_round) (sc := defScope s_turned_round) (by decide +kernel)) (fun _ _ _ _ _ => (pg_name (i := 3) sc_turned_round.nd rfl (.inl rfl))) (fun _ _ _ _ _ => pts_nil) (fun _ _ _ _ _ => (pe_call G_last_for_first (hr.mono (by decide)) (by rfl) T.g_last_for_first T.F_last_for_first.kp T.b_last_for_first .nil pass0 (pa_cons (pe_op op_mod (pe_op op_add (pv 1) (pv 3)) (pv 2)) (pa_cons (pv 0) pa_nil)))))))), ?_⟩
    have hsl : sizeLine = 16777216 := by decide
    have tp := two_pow6 w2
    refine ⟨.int (w' : Nat), rfl, w', rfl, w2, ?_⟩
    refine ⟨.int ((2 ^ w' : Nat) : Int), rfl, _, rfl, by omega, by omega, fun D nD => ?_⟩
    refine lc_range (fun i H1 => Same H H1 ∧ H1 D = some (.lst (((List.range i).map fun i => ((lff ((s' + i) % 2 ^ w') w' : Nat) : Int)).map V.int))) ⟨same_upd nD, upd_same⟩ (fun i H1 hi h => ?_) (fun H1 h => ?_)
    · obtain ⟨s1, hD⟩ := h
      have hi : i < 2 ^ w' := by omega
      refine ⟨rfl, yes_ite ?_⟩
      have e : ((s' : Int) + (0 + (i : Int))) % ((2 ^ w' : Nat) : Int) = (((s' + i) % 2 ^ w' : Nat) : Int) := by
        rw [Int.zero_add, Int.natCast_emod, Int.natCast_add]
      refine ⟨.int (s' : Nat), rfl, _, rfl, _, _, rfl, rfl, .int ((2 ^ w' : Nat) : Int), rfl, _, _, rfl, rfl, is_pos tp.1, .int (w' : Nat), rfl, (s' + i) % 2 ^ w', w', congrArg (fun z => [V.int z, V.int ((w' : Nat) : Int)]) e, by omega, ?_⟩
      refine ⟨_, hD, by rw [List.length_map, List.length_map, List.length_range]; omega, same_newer s1 nD, ?_⟩
      rw [upd_same, List.range_succ, List.map_append, List.map_append]
      rfl
    · obtain ⟨s1, hD⟩ := h
      rw [Int.toNat_natCast] at hD
      exact q H1 D s1 nD hD
theorem xor01 {o b : Nat} (ho : o < 2) (hb : b < 2) : Builtin.bitXor (o : Int) (b : Int) = (((o + b) % 2 : Nat) : Int) := by
  match o, b, ho, hb with
  | 0, 0, _, _ => decide
  | 0, 1, _, _ => decide
  | 1, 0, _, _ => decide
  | 1, 1, _, _ => decide
theorem and_one (x : Nat) : Builtin.bitAnd (x : Int) 1 = ((x % 2 : Nat) : Int) := by
  have h := _root_.Bits.bit_at (x := (x : Int)) 0
  rw [Int.pow_zero, Int.fdiv_one] at h
  rw [h, Int.ediv_one]
  omega
theorem parF_zero : ∀ f, parF f 0 = 0
  | 0 => rfl
  | f + 1 => by
    show (0 % 2 + parF f (0 / 2)) % 2 = 0
    rw [Nat.zero_div, parF_zero f]
def sp_odd_ones (_ : PySem.W.Frag) : Sp := fun vs H Q _ => ∃ n : Nat, vs = [.int (n : Nat)] ∧ n < 2 ^ 7 ∧ Q (.int (par n : Nat)) H
theorem ok_odd_ones (T : Defs K mg) (TT : Tabs T base) : FnOk P w K mg base CX0 1 T.f_odd_ones T.fd_odd_ones ["number"] (sp_odd_ones K) := by
  refine T.F_odd_ones.ok sc_odd_ones (fun vs H Q E h => ?_) (fun cdv A outer s H vs Q E hr h => ?_)
  · obtain ⟨n, rfl, hn, q⟩ := h
    rfl
  · obtain ⟨n, rfl, hn, q⟩ := h
    refine ⟨_, PSs.nox (pss_cons (ps_set (i := 1) sc_odd_ones.nd rfl (.inl rfl) pe_int)
    (pss_cons (ps_while PassesOwn.never (pt_cmpR op_gt (pv 0) pe_int (nomark _)) (pss_cons (ps_set (i := 1) sc_odd_ones.nd rfl (.inl rfl) (pe_op op_xor (pv 1) (pe_op op_and (pv 0) pe_int)))
    (pss_one (ps_set (i := 0) sc_odd_ones.nd rfl (.inl rfl) (pe_op op_shr (pv 0) pe_int)))))
    (pss_one (ps_ret (pv 1))))), ?_⟩
    refine ⟨fun k σ H1 => ∃ x o f : Nat, x = k ∧ σ = [some (.int (x : Nat)), some (.int (o : Nat))] ∧ H1 = H ∧ x < 2 ^ f ∧ o < 2 ∧ (o + parF f x) % 2 = par n, ⟨n, n, 0, 7, rfl, rfl, rfl, hn, by decide, by rw [Nat.zero_add]; exact Nat.mod_eq_of_lt (par_lt n)⟩, ?_⟩
    rintro k σ H1 ⟨x, o, f, rfl, rfl, rfl, hx, ho, he⟩
    refine ⟨.int (x : Nat), rfl, _, _, rfl, rfl, _, rfl, ite2 (fun e => ⟨_, fun σ' H' h => h, ?_⟩) (fun e => ?_)⟩
    · have x0 : (0 : Int) < (x : Int) := of_decide_eq_true e
      match f, hx, he with
      | 0, hx, _ =>
        exfalso
        have : x < 1 := hx
        omega
      | f + 1, hx, he =>
        refine ⟨.int (o : Nat), rfl, .int (x : Nat), rfl, _, _, rfl, rfl, _, _, rfl, rfl, ?_⟩
        refine ⟨.int (x : Nat), rfl, _, _, rfl, rfl, (show (0 : Int) ≤ 1 by decide), ?_⟩
        refine ⟨x / 2, by omega, x / 2, (o + x % 2) % 2, f, rfl, ?_, rfl, by rw [Nat.pow_succ] at hx; omega, Nat.mod_lt _ (by decide), ?_⟩
        · have e1 : (x : Int) / 2 ^ (1 : Int).toNat = ((x / 2 : Nat) : Int) := by
            show (x : Int) / 2 ^ 1 = _
            omega
          try dsimp only
          rw [and_one, xor01 ho (Nat.mod_lt _ (by decide)), e1]
          rfl
        · have : (o + (x % 2 + parF f (x / 2)) % 2) % 2 = par n := he
          omega
    · have x0 : x = 0 := by
        have : ¬ (0 : Int) < (x : Int) := fun z => e (decide_eq_true z)
        omega
      subst x0
      rw [parF_zero, Nat.add_zero, Nat.mod_eq_of_lt ho] at he
      subst he
      exact ⟨_, rfl, q⟩
theorem and_nat (x p : Nat) : Builtin.bitAnd (x : Int) (p : Int) = ((x &&& p : Nat) : Int) := by
  rw [PyProof.Rows.bitAnd_pp (by omega) (by omega), Int.toNat_natCast, Int.toNat_natCast]
def sp_held_round (_ : PySem.W.Frag) : Sp := fun vs H Q _ => ∃ w p s : Nat, vs = [.int (w : Nat), .int (p : Nat), .int (s : Nat)] ∧ (Mk.register w p s).Pl ∧
  ∀ H' a, Same H H' → H a = none → H' a = some (.lst ((Mk.register w p s).pl.map V.int)) → Q (.ref a) H'
theorem step_eq {w x p : Nat} : (2 : Int) * (x : Int) % ((2 ^ w : Nat) : Int) + ((par (x &&& p) : Nat) : Int) = ((regS w p x : Nat) : Int) := by
  unfold regS
  rw [Int.natCast_add, Int.natCast_emod, Int.natCast_mul]
  rfl
theorem ok_held_round (T : Defs K mg) (TT : Tabs T base) : FnOk P w K mg base CX0 2 T.f_held_round T.fd_held_round ["wide", "taps", "start"] (sp_held_round K) := by
  have G_size_of : FnOk P w K mg base CX0 1 T.f_size_of T.fd_size_of ["wide"] (sp_size_of K) := ok_size_of T TT
  have G_odd_ones : FnOk P w K mg base CX0 1 T.f_odd_ones T.fd_odd_ones ["number"] (sp_odd_ones K) := ok_odd_ones T TT
  refine T.F_held_round.ok sc_held_round (fun vs H Q E h => ?_) (fun cdv A outer s H vs Q E hr h => ?_)
  · obtain ⟨w', p', s', rfl, ⟨hw, s1, s2⟩, q⟩ := h
    rfl
  · obtain ⟨w', p', s', rfl, ⟨hw, s1, s2⟩, q⟩ := h
    refine ⟨_, PSs.nox (pss_cons (ps_set (i := 3) sc_held_round.nd rfl (.inl rfl) (pe_call G_size_of (hr.mono (by decide)) (by rfl) T.g_size_of T.F_size_of.kp T.b_size_of .nil pass0 (pa_cons (pv 0) pa_nil)))
    (pss_cons (ps_set (i := 4) sc_held_round.nd rfl (.inl rfl) (pe_lst pa_nil))
    (pss_cons (ps_set (i := 5) sc_held_round.nd rfl (.inl rfl) (pv 2))
    (pss_cons (ps_while PassesOwn.never (PW.pt (pw_and (pt_cmpR op_lt (pe_callB call_len_seq (by rfl) T.m_len bt_len (pa_cons (pv 4) pa_nil)) (pv 3) (nomark _)) (pw_and1 (PW.pt (pw_or (pt_cmpR op_ne (pv 5) (pv 2) (nomark _)) (pw_or1 (pt_not (pt_truth (pv 4) (by intro _; rfl))))))))) (pss_cons (ps_expr (pe_bm PySem.F.plainAttrs_list PySem.F.slot_list_append PySem.F.type_list_append mt_append (pv 4) (pa_cons (pv 5) pa_nil)))
    (pss_one (ps_set (i := 5) sc_held_round.nd rfl (.inl rfl) (pe_op op_add (pe_op op_mod (pe_op op_mul pe_int (pv 5)) (pv 3)) (pe_call G_odd_ones (hr.mono (by decide)) (by rfl) T.g_odd_ones T.F_odd_ones.kp T.b_odd_ones .nil pass0 (pa_cons (pe_op op_and (pv 5) (pv 1)) pa_nil)))))))
    (pss_one (ps_ret (pv 4))))))), ?_⟩
    have hsl : sizeLine = 16777216 := by decide
    have tp := two_pow6 hw.hi
    have ip := per_is hw s2
    refine ⟨.int (w' : Nat), rfl, w', rfl, hw.hi, ?_⟩
    obtain ⟨n, hn⟩ : ∃ n, 2 ^ w' = n := ⟨_, rfl⟩
    rw [hn] at tp ⊢
    refine ⟨Nat.zero_le _, fun l nl => ?_⟩
    refine ⟨.int (s' : Nat), rfl, ?_⟩
    refine ⟨fun m σ H1 => ∃ k : Nat, m = n - k ∧ k ≤ n ∧ σ = [some (.int (w' : Nat)), some (.int (p' : Nat)), some (.int (s' : Nat)), some (.int (n : Nat)), some (.ref l), some (.int (regA w' p' s' k : Nat))] ∧ Same H H1 ∧ H1 l = some (.lst (((List.range k).map fun k => ((regA w' p' s' k : Nat) : Int)).map V.int)) ∧ ∀ j, 0 < j → j < k → regA w' p' s' j ≠ s', ⟨n, 0, by omega, by omega, rfl, same_upd nl, upd_same, fun j h0 h1 => by omega⟩, ?_⟩
    rintro m σ H1 ⟨k, rfl, hk, rfl, sH, hl, hf⟩
    have ll : (((List.range k).map fun k => ((regA w' p' s' k : Nat) : Int)).map V.int).length = k := by rw [List.length_map, List.length_map, List.length_range]
    have done : IsPer w' p' s' k → Q (.ref l) H1 := fun h => q H1 l sH nl (by
      rw [hl]
      show _ = some (HO.lst (((List.range (per w' p' s')).map fun k => ((regA w' p' s' k : Nat) : Int)).map V.int))
      rw [per_eq hw s2 h])
    have alt : regA w' p' s' k < 2 ^ w' := regA_lt hw s2 k
    have go : k < n → ∃ v, some (V.ref l) = some v ∧ True := fun _ => ⟨_, rfl, trivial⟩
    clear go
    refine ⟨.ref l, rfl, l, _, rfl, .inl (SqL.mk hl), .int (n : Nat), rfl, _, _, rfl, rfl, _, rfl, ?_⟩
    rw [ll]
    have body : ∀ (b : Prop), k < n → b → k < n := fun _ h _ => h
    clear body
    by_cases kn : k < n
    · rw [decide_eq_true (show (k : Int) < (n : Int) by omega)]
      refine iteT ?_
      refine ⟨_, rfl, .int (s' : Nat), rfl, rfl, _, rfl, ?_⟩
      by_cases es : regA w' p' s' k = s'
      · rw [show (!decide (V.int ((regA w' p' s' k : Nat) : Int) = V.int ((s' : Nat) : Int))) = false by rw [es, decide_eq_true rfl]; rfl]
        refine iteF ?_
        refine ⟨.ref l, rfl, _, .inl ⟨_, SqL.mk hl, rfl⟩, ?_⟩
        match k, kn, hk, hl, hf, done, alt, es with
        | 0, kn, hk, hl, hf, done, alt, es =>
          refine iteT ⟨_, fun σ' H' h => h, ?_⟩
          refine ⟨.ref l, rfl, .inl ⟨rfl, _, SqL.mk hl⟩, _, rfl, l, _, _, rfl, rfl, hl, (show 0 < sizeLine by decide), ?_⟩
          refine ⟨_, rfl, _, _, rfl, rfl, .inl ⟨by decide, by decide⟩, .int (n : Nat), rfl, _, _, rfl, rfl, is_pos tp.1, _, rfl, .int (p' : Nat), rfl, _, _, rfl, rfl, (regA w' p' s' 0 &&& p'), congrArg (fun z => [V.int z]) (and_nat _ _), Nat.lt_of_le_of_lt Nat.and_le_left (Nat.lt_of_lt_of_le alt (Nat.pow_le_pow_right (by decide) (by have := hw.hi; omega))), _, _, rfl, rfl, ?_⟩
          refine ⟨n - 1, by omega, 1, rfl, by omega, ?_, same_newer sH nl, by rw [upd_same]; rfl, fun j h0 h1 => by omega⟩
          try dsimp only
          rw [← hn, step_eq]
          rfl
        | k + 1, kn, hk, hl, hf, done, alt, es =>
          have nz : (!(((List.range (k + 1)).map fun k => ((regA w' p' s' k : Nat) : Int)).map V.int).isEmpty) = true := by
            rw [List.range_succ_eq_map]
            rfl
          rw [nz]
          refine iteF ?_
          exact ⟨.ref l, rfl, done ⟨by omega, by omega, es, hf⟩⟩
      · rw [show (!decide (V.int ((regA w' p' s' k : Nat) : Int) = V.int ((s' : Nat) : Int))) = true by
          rw [decide_eq_false (fun z => es (by have := V.int.inj z; omega))]
          rfl]
        refine iteT (iteT ⟨_, fun σ' H' h => h, ?_⟩)
        refine ⟨.ref l, rfl, .inl ⟨rfl, _, SqL.mk hl⟩, _, rfl, l, _, _, rfl, rfl, hl, by rw [ll]; omega, ?_⟩
        refine ⟨_, rfl, _, _, rfl, rfl, .inl ⟨by decide, by decide⟩, .int (n : Nat), rfl, _, _, rfl, rfl, is_pos tp.1, _, rfl, .int (p' : Nat), rfl, _, _, rfl, rfl, (regA w' p' s' k &&& p'), congrArg (fun z => [V.int z]) (and_nat _ _), Nat.lt_of_le_of_lt Nat.and_le_left (Nat.lt_of_lt_of_le alt (Nat.pow_le_pow_right (by decide) (by have := hw.hi; omega))), _, _, rfl, rfl, ?_⟩
        refine ⟨n - (k + 1), by omega, k + 1, rfl, by omega, ?_, same_newer sH nl, ?_, fun j h0 h1 => ?_⟩
        · try dsimp only
          rw [← hn, step_eq]
          rfl
        · rw [upd_same, List.range_succ, List.map_append, List.map_append]
          rfl
        · by_cases z : j = k
          · rw [z]
            exact es
          · exact hf j h0 (by omega)
    · rw [decide_eq_false (show ¬ (k : Int) < (n : Int) by omega)]
      refine iteF (iteF ?_)
      have kp : per w' p' s' = k := by
        have h1 := ip.le
        have h2 : ¬ per w' p' s' < k := fun z => hf _ ip.pos z ip.back
        omega
      refine ⟨.ref l, rfl, done ?_⟩
      rw [← kp]
      exact ip
def sp_plain_round (_ : PySem.W.Frag) : Sp := fun vs H Q _ => ∃ m v, vs = [v] ∧ MkAt H m v ∧ m.Pl ∧
  ∀ H' p, Same H H' → H p = none → H' p = some (.lst (m.pl.map V.int)) → Q (.ref p) H'
theorem ok_plain_round (T : Defs K mg) (TT : Tabs T base) : FnOk P w K mg base CX0 3 T.f_plain_round T.fd_plain_round ["maker"] (sp_plain_round K) := by
  have G_counter_round : FnOk P w K mg base CX0 1 T.f_counter_round T.fd_counter_round ["size", "step", "start"] (sp_counter_round K) := ok_counter_round T TT
  have G_turned_round : FnOk P w K mg base CX0 2 T.f_turned_round T.fd_turned_round ["wide", "start"] (sp_turned_round K) := ok_turned_round T TT
  have G_held_round : FnOk P w K mg base CX0 2 T.f_held_round T.fd_held_round ["wide", "taps", "start"] (sp_held_round K) := ok_held_round T TT
  refine T.F_plain_round.ok sc_plain_round (fun vs H Q E h => ?_) (fun cdv A outer s H vs Q E hr h => ?_)
  · obtain ⟨m, v, rfl, hm, pl, q⟩ := h
    rfl
  · obtain ⟨m, v, rfl, hm, pl, q⟩ := h
    refine ⟨_, PSs.nox (pss_one (ps_match (pv 0) (pcs_seq rfl sc_plain_round.nd pe_str (pcap_cons (i := 1) rfl (.inl rfl) (pcap_cons (i := 2) rfl (.inl rfl) (pcap_cons (i := 3) rfl (.inl rfl) pcap_nil))) (pss_one (ps_ret (pe_call G_counter_round (hr.mono (by decide)) (by rfl) T.g_counter_round T.F_counter_round.kp T.b_counter_round .nil pass0 (pa_cons (pv 1) (pa_cons (pv 2) (pa_cons (pv 3) pa_nil))))))
    (pcs_seq rfl sc_plain_round.nd pe_str (pcap_cons (i := 4) rfl (.inl rfl) (pcap_cons (i := 3) rfl (.inl rfl) pcap_nil)) (pss_one (ps_ret (pe_call G_turned_round (hr.mono (by decide)) (by rfl) T.g_turned_round T.F_turned_round.kp T.b_turned_round .nil pass0 (pa_cons (pv 4) (pa_cons (pv 3) pa_nil)))))
    (pcs_seq rfl sc_plain_round.nd pe_str (pcap_cons (i := 4) rfl (.inl rfl) (pcap_cons (i := 5) rfl (.inl rfl) (pcap_cons (i := 3) rfl (.inl rfl) pcap_nil))) (pss_one (ps_ret (pe_call G_held_round (hr.mono (by decide)) (by rfl) T.g_held_round T.F_held_round.kp T.b_held_round .nil pass0 (pa_cons (pv 4) (pa_cons (pv 5) (pa_cons (pv 3) pa_nil))))))
    (pcs_seq rfl sc_plain_round.nd pe_str (pcap_cons (i := 6) rfl (.inl rfl) pcap_nil) (pss_one (ps_ret (pe_callTy call_list_of (by rfl) T.m_list bt_list (pa_cons (pv 6) pa_nil))))
    pcs_nil)))))), ?_⟩
    cases m with
    | counter r s' t =>
      obtain ⟨a, rfl, ha⟩ := hm
      refine ⟨.ref a, rfl, a, _, rfl, SqT.mk ha, .inr ⟨_, _, rfl, rfl, .inl ⟨rfl, ?_⟩⟩⟩
      exact ⟨.int (r : Nat), rfl, .int (s' : Nat), rfl, .int (t : Nat), rfl, r, s', t, rfl, pl.1, pl.2.1, pl.2.2.1, pl.2.2.2, q⟩
    | turned w' s' =>
      obtain ⟨a, rfl, ha⟩ := hm
      refine ⟨.ref a, rfl, a, _, rfl, SqT.mk ha, .inl ⟨by simp, .inr ⟨_, _, rfl, rfl, .inl ⟨rfl, ?_⟩⟩⟩⟩
      exact ⟨.int (w' : Nat), rfl, .int (s' : Nat), rfl, w', s', rfl, pl.1, pl.2.1, pl.2.2, q⟩
    | table ns =>
      obtain ⟨a, b, rfl, ha, hb⟩ := hm
      refine ⟨.ref a, rfl, a, _, rfl, SqT.mk ha, .inl ⟨by simp, .inl ⟨by simp, .inl ⟨by simp, .inr ⟨_, _, rfl, rfl, .inl ⟨rfl, ?_⟩⟩⟩⟩⟩⟩
      exact ⟨.ref b, rfl, b, _, rfl, .inr (SqT.mk hb), fun l nl => q _ l (same_upd nl) nl upd_same⟩
    | register w' p' s' =>
      obtain ⟨a, rfl, ha⟩ := hm
      refine ⟨.ref a, rfl, a, _, rfl, SqT.mk ha, .inr ⟨_, _, rfl, rfl, .inr ⟨by decide +kernel, .inl ⟨by simp, .inr ⟨_, _, rfl, rfl, .inl ⟨rfl, ?_⟩⟩⟩⟩⟩⟩
      exact ⟨.int (w' : Nat), rfl, .int (p' : Nat), rfl, .int (s' : Nat), rfl, w', p', s', rfl, pl, q⟩
    | _ => exact pl.elim
/-! the program: rounds, tops, numbers at beats -/
def spr_round_of (d : Nat) (_ : PySem.W.Frag) : Sp := fun vs H Q _ => ∃ m v, vs = [v] ∧ MkAt H m v ∧ m.Ok ∧ m.dep < d ∧ ∀ H', Same H H' → Q (.int (m.rnd : Nat)) H'
theorem no_round_of {K : PySem.W.Frag} {vs : List V} {H : Hp} {Q : VK} {E : XK} (h : spr_round_of 0 K vs H Q E) : False := by
  obtain ⟨m, v, _, _, _, z, _⟩ := h
  exact Nat.not_lt_zero _ z
theorem gcd_le {a n : Nat} : 1 ≤ Nat.gcd a (n + 1) ∧ Nat.gcd a (n + 1) ≤ n + 1 := ⟨Nat.gcd_pos_of_pos_right _ (by omega), Nat.le_of_dvd (by omega) (Nat.gcd_dvd_right _ _)⟩
theorem okr_round_of (T : Defs K mg) (TT : Tabs T base) : ∀ d : Nat, FnOk P w K mg base CX0 (4 + d) T.f_round_of T.fd_round_of ["maker"] (spr_round_of d K)
  | 0 => ⟨fun _ _ _ _ z => (no_round_of z).elim, fun _ _ _ _ _ _ _ _ _ _ _ _ _ z => (no_round_of z).elim⟩
  | d + 1 => by
    have G_round_of : FnOk P w K mg base CX0 (4 + d) T.f_round_of T.fd_round_of ["maker"] (spr_round_of d K) := okr_round_of T TT d
    have G_common_divisor : FnOk P w K mg base CX0 1 T.f_common_divisor T.fd_common_divisor ["one", "other"] (sp_common_divisor K) := ok_common_divisor T TT
    have G_plain_round : FnOk P w K mg base CX0 3 T.f_plain_round T.fd_plain_round ["maker"] (sp_plain_round K) := ok_plain_round T TT
    show FnOk P w K mg base CX0 ((4 + d) + 1) T.f_round_of T.fd_round_of ["maker"] (spr_round_of (d + 1) K)
    refine T.F_round_of.ok sc_round_of (fun vs H Q E h => ?_) (fun cdv A outer s H vs Q E hr h => ?_)
    · obtain ⟨m, v, rfl, hm, ok, dp, q⟩ := h
      rfl
    · obtain ⟨m, v, rfl, hm, ok, dp, q⟩ := h
      refine ⟨_, PSs.nox (pss_one (ps_match (pv 0) (pcs_seq rfl sc_round_of.nd pe_str (pcap_cons (i := 1) rfl (.inl rfl) (pcap_cons (i := 2) rfl (.inl rfl) pcap_nil)) (pss_one (ps_ret (pe_op op_mul (pv 1) (pe_call G_round_of (hr.mono (by omega)) (by rfl) T.g_round_of T.F_round_of.kp T.b_round_of .nil pass0 (pa_cons (pv 2) pa_nil)))))
    (pcs_seq rfl sc_round_of.nd pe_str (pcap_cons (i := 1) rfl (.inl rfl) (pcap_cons (i := 2) rfl (.inl rfl) pcap_nil)) (pss_cons (ps_set (i := 3) sc_round_of.nd rfl (.inl rfl) (pe_call G_round_of (hr.mono (by omega)) (by rfl) T.g_round_of T.F_round_of.kp T.b_round_of .nil pass0 (pa_cons (pv 2) pa_nil)))
    (pss_one (ps_ret (pe_op op_fdiv (pe_op op_mul (pv 1) (pv 3)) (pe_call G_common_divisor (hr.mono (by omega)) (by rfl) T.g_common_divisor T.F_common_divisor.kp T.b_common_divisor .nil pass0 (pa_cons (pv 3) (pa_cons (pe_op op_add (pv 1) pe_int) pa_nil)))))))
    (pcs_seq rfl sc_round_of.nd pe_str (pcap_cons (i := 4) rfl (.inl rfl) (pcap_cons (i := 2) rfl (.inl rfl) pcap_nil)) (pss_one (ps_ret (pe_call G_round_of (hr.mono (by omega)) (by rfl) T.g_round_of T.F_round_of.kp T.b_round_of .nil pass0 (pa_cons (pv 2) pa_nil))))
    (pcs_any (pss_one (ps_ret (pe_callB call_len_seq (by rfl) T.m_len bt_len (pa_cons (pe_call G_plain_round (hr.mono (by omega)) (by rfl) T.g_plain_round T.F_plain_round.kp T.b_plain_round .nil pass0 (pa_cons (pv 0) pa_nil)) pa_nil)))))))))), ?_⟩
      cases m with
      | slow n m =>
        obtain ⟨a, x, rfl, ha, hx⟩ := hm
        have dp : m.dep + 1 < d + 1 := dp
        refine ⟨.ref a, rfl, a, _, rfl, SqT.mk ha, .inr ⟨_, _, rfl, rfl, .inl ⟨rfl, ?_⟩⟩⟩
        refine ⟨.int (n : Nat), rfl, x, rfl, m, x, rfl, hx, ok.2.2, by omega, fun H1 s1 => ?_⟩
        refine ⟨_, _, rfl, rfl, .inl ⟨(show -(2 ^ 64) < (n : Int) by omega), (show (n : Int) < 2 ^ 64 by have := ok.2.1; omega)⟩, ?_⟩
        have e : (n : Int) * (m.rnd : Int) = (((Mk.slow n m).rnd : Nat) : Int) := (Int.natCast_mul n m.rnd).symm
        try dsimp only
        rw [e]
        exact q H1 s1
      | slip n m =>
        obtain ⟨a, x, rfl, ha, hx⟩ := hm
        have dp : m.dep + 1 < d + 1 := dp
        refine ⟨.ref a, rfl, a, _, rfl, SqT.mk ha, .inr ⟨_, _, rfl, rfl, .inr ⟨by decide +kernel, .inr ⟨_, _, rfl, rfl, .inl ⟨rfl, ?_⟩⟩⟩⟩⟩
        refine ⟨x, rfl, m, x, rfl, hx, ok.2.2, by omega, fun H1 s1 => ?_⟩
        refine ⟨.int (n : Nat), rfl, .int (m.rnd : Nat), rfl, _, _, rfl, rfl, .inl ⟨(show -(2 ^ 64) < (n : Int) by omega), (show (n : Int) < 2 ^ 64 by have := ok.2.1; omega)⟩, .int (m.rnd : Nat), rfl, .int (n : Nat), rfl, _, _, rfl, rfl, _, _, rfl, ?_⟩
        have g := gcd_le (a := m.rnd) (n := n)
        have eg : Int.gcd (m.rnd : Int) ((n : Int) + 1) = Nat.gcd m.rnd (n + 1) := rfl
        have ef : (if (1 : Int) > (Int.gcd (m.rnd : Int) ((n : Int) + 1) : Int) then 1 else (Int.gcd (m.rnd : Int) ((n : Int) + 1) : Int)) = ((Nat.gcd m.rnd (n + 1) : Nat) : Int) := by
          rw [eg]
          split <;> omega
        rw [ef]
        have n2 := ok.2.1
        refine ⟨_, _, rfl, rfl, ⟨(show (0 : Int) < ((Nat.gcd m.rnd (n + 1) : Nat) : Int) by omega), (show ((Nat.gcd m.rnd (n + 1) : Nat) : Int) < 1073741824 by omega)⟩, ?_⟩
        have e : (n : Int) * (m.rnd : Int) / ((Nat.gcd m.rnd (n + 1) : Nat) : Int) = (((Mk.slip n m).rnd : Nat) : Int) := by
          rw [← Int.natCast_mul, ← Int.natCast_ediv]
          rfl
        try dsimp only
        rw [e]
        exact q H1 s1
      | late n m =>
        obtain ⟨a, x, rfl, ha, hx⟩ := hm
        have dp : m.dep + 1 < d + 1 := dp
        refine ⟨.ref a, rfl, a, _, rfl, SqT.mk ha, .inr ⟨_, _, rfl, rfl, .inr ⟨by decide +kernel, .inr ⟨_, _, rfl, rfl, .inr ⟨by decide +kernel, .inr ⟨_, _, rfl, rfl, .inl ⟨rfl, ?_⟩⟩⟩⟩⟩⟩⟩
        exact ⟨x, rfl, m, x, rfl, hx, ok.2, by omega, fun H1 s1 => q H1 s1⟩
      | counter r s' t =>
        obtain ⟨a, rfl, ha⟩ := id hm
        refine ⟨.ref a, rfl, a, _, rfl, SqT.mk ha, .inl ⟨by simp, .inl ⟨by simp, .inl ⟨by simp, ?_⟩⟩⟩⟩
        refine ⟨.ref a, rfl, .counter r s' t, _, rfl, hm, ok, fun H1 p s1 np hp => ⟨p, _, rfl, .inl (SqL.mk hp), ?_⟩⟩
        rw [List.length_map]
        exact q H1 s1
      | turned w' s' =>
        obtain ⟨a, rfl, ha⟩ := id hm
        refine ⟨.ref a, rfl, a, _, rfl, SqT.mk ha, .inr ⟨_, _, rfl, rfl, .inr ⟨by decide +kernel, .inr ⟨_, _, rfl, rfl, .inr ⟨by decide +kernel, .inr ⟨_, _, rfl, rfl, .inr ⟨by decide +kernel, ?_⟩⟩⟩⟩⟩⟩⟩
        refine ⟨.ref a, rfl, .turned w' s', _, rfl, hm, ok, fun H1 p s1 np hp => ⟨p, _, rfl, .inl (SqL.mk hp), ?_⟩⟩
        rw [List.length_map]
        exact q H1 s1
      | table ns =>
        obtain ⟨a, b, rfl, ha, hb⟩ := id hm
        refine ⟨.ref a, rfl, a, _, rfl, SqT.mk ha, .inl ⟨by simp, .inl ⟨by simp, .inl ⟨by simp, ?_⟩⟩⟩⟩
        refine ⟨.ref a, rfl, .table ns, _, rfl, hm, ok, fun H1 p s1 np hp => ⟨p, _, rfl, .inl (SqL.mk hp), ?_⟩⟩
        rw [List.length_map]
        exact q H1 s1
      | register w' p s' =>
        obtain ⟨a, rfl, ha⟩ := id hm
        refine ⟨.ref a, rfl, a, _, rfl, SqT.mk ha, .inl ⟨by simp, .inl ⟨by simp, .inl ⟨by simp, ?_⟩⟩⟩⟩
        refine ⟨.ref a, rfl, .register w' p s', _, rfl, hm, ok, fun H1 p s1 np hp => ⟨p, _, rfl, .inl (SqL.mk hp), ?_⟩⟩
        rw [List.length_map]
        exact q H1 s1
def sp_round_of (K : PySem.W.Frag) : Sp := spr_round_of 5 K
theorem ok_round_of (T : Defs K mg) (TT : Tabs T base) : FnOk P w K mg base CX0 9 T.f_round_of T.fd_round_of ["maker"] (sp_round_of K) := okr_round_of T TT 5
def sp_top_of (_ : PySem.W.Frag) : Sp := fun vs H Q _ => ∃ m v, vs = [v] ∧ MkAt H m v ∧ m.Ok ∧ ∀ H' z, Same H H' → m.inn.Top z → Q (.int z) H'
theorem pl_at {m : Mk} (h : m.Pl) (t : Int) : atI (m.pl.map V.int) (t % (m.pl.length : Int)) = some (.int (m.pl.getD (t % (m.pl.length : Int)).toNat 0)) := by
  have hl := h.len
  have h1 := Int.emod_nonneg t (show (m.pl.length : Int) ≠ 0 by omega)
  have h2 := Int.emod_lt_of_pos t (show (0 : Int) < (m.pl.length : Int) by omega)
  obtain ⟨j, hj⟩ := Int.eq_ofNat_of_zero_le h1
  rw [hj] at h2 ⊢
  have hj2 : j < m.pl.length := by omega
  refine atI_nat ?_
  rw [List.getElem?_map, List.getElem?_eq_getElem hj2, Int.toNat_natCast, List.getD_eq_getElem?_getD, List.getElem?_eq_getElem hj2]
  rfl
def sp_values_at (_ : PySem.W.Frag) : Sp := fun vs H Q _ => ∃ m v b ts, vs = [v, .ref b] ∧ MkAt H m v ∧ m.Ok ∧ H b = some (.lst ((ts : List Int).map V.int)) ∧ ts.length ≤ 100000 ∧
  ∀ H' p, Same H H' → H p = none → H' p = some (.lst ((ts.map m.val).map V.int)) → Q (.ref p) H'
def sp_value_at (_ : PySem.W.Frag) : Sp := fun vs H Q _ => ∃ m v t, vs = [v, .int t] ∧ MkAt H m v ∧ m.Ok ∧ ∀ H', Same H H' → Q (.int (m.val t)) H'
def sp_values_of (_ : PySem.W.Frag) : Sp := fun vs H Q _ => ∃ m v, ∃ n : Nat, vs = [v, .int (n : Nat)] ∧ MkAt H m v ∧ m.Ok ∧ n ≤ 100000 ∧
  ∀ H' p, Same H H' → H p = none → H' p = some (.lst (((List.range n).map fun (i : Nat) => m.val i).map V.int)) → Q (.ref p) H'
/-! the law's own divisor -/
def sp__law_divisor (_ : PySem.W.Frag) : Sp := fun vs H Q _ => ∃ a b : Int, vs = [.int a, .int b] ∧ Q (.int (Int.gcd a b : Int)) H
theorem ok__law_divisor (T : Defs K mg) (TT : Tabs T base) : FnOk P w K mg base CX0 1 T.f__law_divisor T.fd__law_divisor ["_law_one", "_law_other"] (sp__law_divisor K) := by
  refine T.F__law_divisor.ok sc__law_divisor (fun vs H Q E h => ?_) (fun cdv A outer s H vs Q E hr h => ?_)
  · obtain ⟨a, b, rfl, q⟩ := h
    rfl
  · obtain ⟨a, b, rfl, q⟩ := h
    refine ⟨_, PSs.nox (pss_cons (ps_par (i := 0) (j := 1) (by rfl) sc__law_divisor.nd rfl rfl (by decide) rfl rfl (pa_cons (pe_callB call_abs (by rfl) T.m_abs bt_abs (pa_cons (pv 0) pa_nil)) (pa_cons (pe_callB call_abs (by rfl) T.m_abs bt_abs (pa_cons (pv 1) pa_nil)) pa_nil)) (by rfl))
    (pss_cons (ps_while PassesOwn.never (PW.pt (pw_and (pt_cmpR op_gt (pv 0) pe_int (nomark _)) (pw_and1 (pt_cmpR op_gt (pv 1) pe_int (nomark _))))) (pss_cons (ps_if (pt_cmpR op_lt (pv 0) (pv 1) (nomark _)) (pss_one (ps_par (i := 0) (j := 1) (by rfl) sc__law_divisor.nd rfl rfl (by decide) rfl rfl (pa_cons (pv 1) (pa_cons (pv 0) pa_nil)) (by rfl))) pss_nil)
    (pss_one (ps_set (i := 0) sc__law_divisor.nd rfl (.inl rfl) (pe_op op_mod (pv 0) (pv 1))))))
    (pss_one (ps_ret (pe_op op_add (pv 0) (pv 1)))))), ?_⟩
    refine ⟨.int a, rfl, a, rfl, .int b, rfl, b, rfl, _, _, rfl, ?_⟩
    refine while_by (fun σ H1 => H1 = H ∧ ∃ x y : Nat, σ = [some (.int (x : Nat)), some (.int (y : Nat))] ∧ Nat.gcd x y = Int.gcd a b) (fun σ _ => match σ with | [some (.int x), some (.int y)] => x.toNat + y.toNat | _ => 0) ⟨rfl, a.natAbs, b.natAbs, ?_, rfl⟩ ?_ ?_
    · rw [abs_eq, abs_eq]
      rfl
    · rintro σ H1 ⟨rfl, x, y, rfl, hg⟩
      have fin : (x = 0 ∨ y = 0) → ((x : Int) + (y : Int)) = (Int.gcd a b : Int) := fun z => by
        rcases z with rfl | rfl
        · rw [Nat.gcd_zero_left] at hg
          omega
        · rw [Nat.gcd_zero_right] at hg
          omega
      refine ⟨.int (x : Nat), rfl, _, _, rfl, rfl, _, rfl, ite2 (fun e1 => ?_) (fun e1 => ?_)⟩
      · have hx : (0 : Int) < (x : Int) := of_decide_eq_true e1
        refine ⟨.int (y : Nat), rfl, _, _, rfl, rfl, _, rfl, ite2 (fun e2 => ?_) (fun e2 => ?_)⟩
        · have hy : (0 : Int) < (y : Int) := of_decide_eq_true e2
          refine ⟨.int (x : Nat), rfl, .int (y : Nat), rfl, _, _, rfl, rfl, _, rfl, ite2 (fun e3 => ?_) (fun e3 => ?_)⟩
          · have hl : (x : Int) < (y : Int) := of_decide_eq_true e3
            refine ⟨.int (y : Nat), rfl, .int (x : Nat), rfl, _, _, rfl, .int (y : Nat), rfl, .int (x : Nat), rfl, _, _, rfl, rfl, hx, ⟨rfl, y % x, x, rfl, ?_⟩, ?_⟩
            · rw [← Nat.gcd_rec]
              exact hg
            · show ((y : Int) % (x : Int)).toNat + ((x : Int)).toNat < ((x : Int)).toNat + ((y : Int)).toNat
              have := Int.emod_lt_of_pos (y : Int) hx
              have := Int.emod_nonneg (y : Int) (show (x : Int) ≠ 0 by omega)
              omega
          · have hl : ¬ (x : Int) < (y : Int) := fun z => e3 (decide_eq_true z)
            refine ⟨.int (x : Nat), rfl, .int (y : Nat), rfl, _, _, rfl, rfl, hy, ⟨rfl, x % y, y, rfl, ?_⟩, ?_⟩
            · rw [← Nat.gcd_rec, Nat.gcd_comm]
              exact hg
            · show ((x : Int) % (y : Int)).toNat + ((y : Int)).toNat < ((x : Int)).toNat + ((y : Int)).toNat
              have := Int.emod_lt_of_pos (x : Int) hy
              have := Int.emod_nonneg (x : Int) (show (y : Int) ≠ 0 by omega)
              omega
        · have hy : ¬ (0 : Int) < (y : Int) := fun z => e2 (decide_eq_true z)
          refine ⟨.int (x : Nat), rfl, .int (y : Nat), rfl, _, _, rfl, rfl, ?_⟩
          show Q (.int ((x : Int) + (y : Int))) H1
          rw [fin (.inr (by omega))]
          exact q
      · have hx : ¬ (0 : Int) < (x : Int) := fun z => e1 (decide_eq_true z)
        refine ⟨.int (x : Nat), rfl, .int (y : Nat), rfl, _, _, rfl, rfl, ?_⟩
        show Q (.int ((x : Int) + (y : Int))) H1
        rw [fin (.inl (by omega))]
        exact q
    · rintro σ H1 Q1 Q2 hQ ⟨v, hv, i, j, e1, e2, k, e3, h3⟩
      refine ⟨v, hv, i, j, e1, e2, k, e3, ?_⟩
      cases k with
      | true =>
        rw [if_pos rfl] at h3 ⊢
        obtain ⟨v, hv, i, j, e1, e2, k, e3, h3⟩ := h3
        exact ⟨v, hv, i, j, e1, e2, k, e3, hQ _ _ h3⟩
      | false =>
        rw [if_neg Bool.false_ne_true] at h3 ⊢
        exact hQ _ _ h3
/-! where a number stands first -/
theorem flat_ints (xs : List Int) : (xs.map V.int).all flatV = true := by
  rw [List.all_eq_true]
  intro x hx
  obtain ⟨i, _, rfl⟩ := List.mem_map.mp hx
  rfl
theorem in_ints (xs : List Int) (k : Int) : inV (.int k) (xs.map V.int) = decide (k ∈ xs) := by
  unfold inV
  rw [Bool.eq_iff_iff, List.any_eq_true, decide_eq_true_iff]
  constructor
  · rintro ⟨y, hy, e⟩
    obtain ⟨i, hi, rfl⟩ := List.mem_map.mp hy
    have : i = k := by
      have e : (i == k) = true := e
      exact eq_of_beq e
    rw [← this]
    exact hi
  · intro h
    exact ⟨_, List.mem_map.mpr ⟨k, h, rfl⟩, show (k == k) = true from beq_self_eq_true k⟩
theorem first_of {xs : List Int} {k : Int} : k ∈ xs → ∃ j : Nat, xs[j]? = some k ∧ ∀ m, m < j → xs[m]? ≠ some k := by
  induction xs with
  | nil => intro h; cases h
  | cons x r ih =>
    intro h
    by_cases e : x = k
    · exact ⟨0, by rw [e]; rfl, fun m hm => by omega⟩
    · rcases List.mem_cons.mp h with h | h
      · exact absurd h.symm e
      · obtain ⟨j, h1, h2⟩ := ih h
        refine ⟨j + 1, h1, fun m hm => ?_⟩
        cases m with
        | zero => exact fun z => e (Option.some.inj z)
        | succ m => exact h2 m (by omega)
/-! counters, tables, turned ones -/
def Mk.Bs : Mk → Prop
  | .counter _ _ _ => True
  | .table _ => True
  | .turned _ _ => True
  | .register _ _ _ => True
  | _ => False
theorem bnd64 {z : Nat} (h : z ≤ 64) : -(2 ^ 64) < (z : Int) ∧ (z : Int) < 2 ^ 64 := by omega
def pows : List Int := [1, 2, 4, 8, 16, 32, 64]
def powP (w : Nat) : List Int := (List.range w).map fun j => ((2 ^ j : Nat) : Int)
def powR (w : Nat) : List Int := (List.range w).map fun j => ((2 ^ (w - 1 - j) : Nat) : Int)
theorem six {P : Nat → Prop} {w : Nat} (h : w ≤ 6) (h0 : P 0) (h1 : P 1) (h2 : P 2) (h3 : P 3) (h4 : P 4) (h5 : P 5) (h6 : P 6) : P w := by
  match w, h with
  | 0, _ => exact h0
  | 1, _ => exact h1
  | 2, _ => exact h2
  | 3, _ => exact h3
  | 4, _ => exact h4
  | 5, _ => exact h5
  | 6, _ => exact h6
theorem pow_take {w : Nat} (h : w ≤ 6) : pows.take w = powP w := six (P := fun w => pows.take w = powP w) h (by decide) (by decide) (by decide) (by decide) (by decide) (by decide) (by decide)
theorem pow_rev {w : Nat} (h : w ≤ 6) : (powP w).reverse = powR w := six (P := fun w => (powP w).reverse = powR w) h (by decide) (by decide) (by decide) (by decide) (by decide) (by decide) (by decide)
theorem pow_at {w : Nat} (h : w ≤ 6) : pows[w]? = some ((2 ^ w : Nat) : Int) := six (P := fun w => pows[w]? = some ((2 ^ w : Nat) : Int)) h (by decide) (by decide) (by decide) (by decide) (by decide) (by decide) (by decide)
theorem at_pow {w : Nat} (h : w ≤ 6) : atI (pows.map V.int) ((w : Nat) : Int) = some (.int ((2 ^ w : Nat) : Int)) := atI_nat (by rw [List.getElem?_map, pow_at h]; rfl)
theorem powP_len (w : Nat) : (powP w).length = w := by
  unfold powP
  rw [List.length_map, List.length_range]
theorem powR_len (w : Nat) : (powR w).length = w := by
  unfold powR
  rw [List.length_map, List.length_range]
theorem powP_at {w k : Nat} {y : V} (h : ((powP w).map V.int)[k]? = some y) : k < w ∧ y = .int ((2 ^ k : Nat) : Int) := by
  have hk := (List.getElem?_eq_some_iff.mp h).1
  rw [List.length_map, powP_len] at hk
  unfold powP at h
  rw [List.getElem?_map, List.getElem?_map, List.getElem?_range hk] at h
  cases h
  exact ⟨hk, rfl⟩
theorem powR_at {w k : Nat} {y : V} (h : ((powR w).map V.int)[k]? = some y) : k < w ∧ y = .int ((2 ^ (w - 1 - k) : Nat) : Int) := by
  have hk := (List.getElem?_eq_some_iff.mp h).1
  rw [List.length_map, powR_len] at hk
  unfold powR at h
  rw [List.getElem?_map, List.getElem?_map, List.getElem?_range hk] at h
  cases h
  exact ⟨hk, rfl⟩
theorem sum_two (f : Nat → Int) : ∀ k : Nat, ((List.range k).map fun j => 2 * f j).sum = 2 * ((List.range k).map f).sum
  | 0 => rfl
  | k + 1 => by
    rw [List.range_succ, List.map_append, List.sum_append, List.map_append, List.sum_append, sum_two f k]
    simp
    omega
theorem lff_sum (x : Nat) : ∀ w : Nat, ((List.range w).map fun j => ((x / 2 ^ j % 2 : Nat) : Int) * ((2 ^ (w - 1 - j) : Nat) : Int)).sum = ((lff x w : Nat) : Int)
  | 0 => rfl
  | w + 1 => by
    rw [List.range_succ, List.map_append, List.sum_append]
    have e : (List.range w).map (fun j => ((x / 2 ^ j % 2 : Nat) : Int) * ((2 ^ (w + 1 - 1 - j) : Nat) : Int)) = (List.range w).map fun j => 2 * (((x / 2 ^ j % 2 : Nat) : Int) * ((2 ^ (w - 1 - j) : Nat) : Int)) := by
      apply List.map_congr_left
      intro j hj
      have hj := List.mem_range.mp hj
      show _ = 2 * (_ * _)
      rw [show w + 1 - 1 - j = (w - 1 - j) + 1 by omega, Nat.pow_succ, Int.natCast_mul, Int.mul_comm ((2 ^ (w - 1 - j) : Nat) : Int), Int.mul_left_comm]
      rfl
    rw [e, sum_two (fun j => ((x / 2 ^ j % 2 : Nat) : Int) * ((2 ^ (w - 1 - j) : Nat) : Int)) w, lff_sum x w]
    show 2 * ((lff x w : Nat) : Int) + (_ * ((2 ^ (w + 1 - 1 - w) : Nat) : Int) + 0) = ((2 * lff x w + x / 2 ^ w % 2 : Nat) : Int)
    rw [show w + 1 - 1 - w = 0 by omega]
    omega
def sp__law_powers (_ : PySem.W.Frag) : Sp := fun vs H Q _ => vs = [] ∧ ∀ H' p, Same H H' → H p = none → H' p = some (.lst (pows.map V.int)) → Q (.ref p) H'
theorem ok__law_powers (T : Defs K mg) (TT : Tabs T base) : FnOk P w K mg base CX0 1 T.f__law_powers T.fd__law_powers [] (sp__law_powers K) := by
  refine T.F__law_powers.ok sc__law_powers (fun vs H Q E h => ?_) (fun cdv A outer s H vs Q E hr h => ?_)
  · obtain ⟨rfl, q⟩ := h
    rfl
  · obtain ⟨rfl, q⟩ := h
    refine ⟨_, PSs.nox (pss_one (ps_ret (pe_lst (pa_cons pe_int (pa_cons pe_int (pa_cons pe_int (pa_cons pe_int (pa_cons pe_int (pa_cons pe_int (pa_cons pe_int pa_nil)))))))))), ?_⟩
    exact ⟨(show 7 ≤ sizeLine by decide), fun l nl => q _ l (same_upd nl) nl upd_same⟩
def sp__law_base (_ : PySem.W.Frag) : Sp := fun vs H Q _ => ∃ m v, vs = [v] ∧ MkAt H m v ∧ m.Pl ∧ m.Bs ∧
  ∀ H' p, Same H H' → H p = none → H' p = some (.lst (m.pl.map V.int)) → Q (.ref p) H'
theorem ne_table_counter : ¬ (V.str "counter" = V.str "table") := by decide +kernel
theorem ok__law_base (T : Defs K mg) (TT : Tabs T base) : FnOk P w K mg base CX0 2 T.f__law_base T.fd__law_base ["_law_maker_here"] (sp__law_base K) := by
  have G__law_powers : FnOk P w K mg base CX0 1 T.f__law_powers T.fd__law_powers [] (sp__law_powers K) := ok__law_powers T TT
  refine T.F__law_base.ok sc__law_base (fun vs H Q E h => ?_) (fun cdv A outer s H vs Q E hr h => ?_)
  · obtain ⟨m, v, rfl, hm, pl, bs, q⟩ := h
    rfl
  · obtain ⟨m, v, rfl, hm, pl, bs, q⟩ := h
    refine ⟨_, PSs.nox (pss_cons (ps_if (pt_cmpR op_eq (pe_ix ix_tup (pv 0) pe_int (fun _ _ => rfl)) pe_str (nomark _)) (pss_one (ps_ret (pe_callTy call_list_of (by rfl) T.m_list bt_list (pa_cons (pe_ix ix_tup (pv 0) pe_int (fun _ _ => rfl)) pa_nil)))) pss_nil)
    (pss_cons (ps_if (pt_cmpR op_eq (pe_ix ix_tup (pv 0) pe_int (fun _ _ => rfl)) pe_str (nomark _)) (pss_cons (ps_set (i := 1) sc__law_base.nd rfl (.inl rfl) (pe_lst (pa_cons (pe_ix ix_tup (pv 0) pe_int (fun _ _ => rfl)) pa_nil)))
    (pss_cons (ps_while PassesOwn.never (pt_cmpR op_lt (pe_callB call_len_seq (by rfl) T.m_len bt_len (pa_cons (pv 1) pa_nil)) (pe_ix ix_tup (pv 0) pe_int (fun _ _ => rfl)) (nomark _)) (pss_one (ps_expr (pe_bm PySem.F.plainAttrs_list PySem.F.slot_list_append PySem.F.type_list_append mt_append (pv 1) (pa_cons (pe_op op_mod (pe_op op_add (pe_ix ix_list (pv 1) (pe_un un_neg pe_int) (fun _ _ => rfl)) (pe_ix ix_tup (pv 0) pe_int (fun _ _ => rfl))) (pe_ix ix_tup (pv 0) pe_int (fun _ _ => rfl))) pa_nil)))))
    (pss_one (ps_ret (pv 1))))) pss_nil)
    (pss_cons (ps_if (pt_cmpR op_eq (pe_ix ix_tup (pv 0) pe_int (fun _ _ => rfl)) pe_str (nomark _)) (pss_cons (ps_asg (pe_tup (pa_cons (pe_ix ix_list (pe_call0 G__law_powers (hr.mono (by decide)) (by rfl) T.g__law_powers T.F__law_powers.kp T.b__law_powers .nil pass0) (pe_ix ix_tup (pv 0) pe_int (fun _ _ => rfl)) (fun _ _ => rfl)) (pa_cons (pe_lst pa_nil) pa_nil))) (pg_tup rfl (pgs_cons (pg_name (i := 2) sc__law_base.nd rfl (.inr rfl)) (pgs_cons (pg_name (i := 1) sc__law_base.nd rfl (.inl rfl)) pgs_nil))))
    (pss_cons ((ps_for PassesOwn.never rfl (pi_range1 (by rfl) T.m_range (pa_cons (pv 2) pa_nil)) (pg_name (i := 3) sc__law_base.nd rfl (.inr rfl)) (pss_cons (ps_setLc (i := 4) (own := [("_law_power", 7)]) (g := gName 7) (tt := tYes) rfl sc__law_base.nd rfl rfl (sw_true rfl rfl rfl (by decide +kernel)) (pi_list (pe_slice sl_list (pe_call0 G__law_powers (hr.mono (by decide)) (by rfl) T.g__law_powers T.F__law_powers.kp T.b__law_powers .nil pass0) po_none (po_some (pe_ix ix_tup (pv 0) pe_int (fun _ _ => rfl))))) (blkOk_by (N := N__law_base) (sc := defScope s__law_base) (by decide +kernel)) (fun _ _ _ _ _ => (pg_name (i := 7) sc__law_base.nd rfl (.inl rfl))) (fun _ _ _ _ _ => pts_nil) (fun _ _ _ _ _ => (pe_op op_mod (pe_op op_fdiv (pe_op op_mod (pe_op op_add (pe_ix (ixtK (K := K) rfl) (pv 0) pe_int (fun _ _ => rfl)) (pv 3)) (pv 2)) (pv 7)) pe_int)))
    (pss_one (ps_expr (pe_bm PySem.F.plainAttrs_list PySem.F.slot_list_append PySem.F.type_list_append mt_append (pv 1) (pa_cons (pe_callB (cr_sum rfl) (by rfl) T.m_sum bt_sum (pa_cons (pe_lc (own := [("_law_bit", 8), ("_law_power", 7)]) (g := gTup K 2 (gCons (gName 8) (gCons (gName 7) gNil))) (tt := tYes) rfl sc__law_base.nd (RZ.pi_zipA (by rfl) T.m_zip (pa_cons (pv 4) (pa_cons (pe_revL (pe_slice sl_list (pe_call0 G__law_powers (hr.mono (by decide)) (by rfl) T.g__law_powers T.F__law_powers.kp T.b__law_powers .nil pass0) po_none (po_some (pe_ix ix_tup (pv 0) pe_int (fun _ _ => rfl))))) pa_nil))) (blkOk_by (N := N__law_base) (sc := defScope s__law_base) (by decide +kernel)) (fun _ _ _ _ _ => (pg_tupK (K := K) rfl rfl (pgs_cons (pg_name (i := 8) sc__law_base.nd rfl (.inl rfl)) (pgs_cons (pg_name (i := 7) sc__law_base.nd rfl (.inl rfl)) pgs_nil)))) (fun _ _ _ _ _ => pts_nil) (fun _ _ _ _ _ => (pe_op op_mul (pv 8) (pv 7)))) pa_nil)) pa_nil)))))))
    (pss_one (ps_ret (pv 1))))) pss_nil)
    (pss_cons (ps_par (i := 4) (j := 1) (by rfl) sc__law_base.nd rfl rfl (by decide) rfl rfl (pa_cons (pe_slice sl_list (pe_call0 G__law_powers (hr.mono (by decide)) (by rfl) T.g__law_powers T.F__law_powers.kp T.b__law_powers .nil pass0) po_none (po_some (pe_ix ix_tup (pv 0) pe_int (fun _ _ => rfl)))) (pa_cons (pe_lst pa_nil) pa_nil)) (by rfl))
    (pss_cons (ps_set (i := 5) sc__law_base.nd rfl (.inr rfl) (pe_ix ix_tup (pv 0) pe_int (fun _ _ => rfl)))
    (pss_cons (ps_while PassesOwn.never (pt_cmpR op_notIn_seq (pv 5) (pv 1) rfl) (pss_cons (ps_expr (pe_bm PySem.F.plainAttrs_list PySem.F.slot_list_append PySem.F.type_list_append mt_append (pv 1) (pa_cons (pv 5) pa_nil)))
    (pss_cons (ps_set (i := 6) sc__law_base.nd rfl (.inl rfl) (pe_op op_mod (pe_callB (cr_sum rfl) (by rfl) T.m_sum bt_sum (pa_cons (pe_lc (own := [("_law_power", 7)]) (g := gName 7) (tt := tYes) rfl sc__law_base.nd (pi_list (pv 4)) (blkOk_by (N := N__law_base) (sc := defScope s__law_base) (by decide +kernel)) (fun _ _ _ _ _ => (pg_name (i := 7) sc__law_base.nd rfl (.inl rfl))) (fun _ _ _ _ _ => pts_nil) (fun _ _ _ _ _ => (pe_op op_mul (pe_op op_mod (pe_op op_fdiv (pv 5) (pv 7)) pe_int) (pe_op op_mod (pe_op op_fdiv (pe_ix (ixtK (K := K) rfl) (pv 0) pe_int (fun _ _ => rfl)) (pv 7)) pe_int)))) pa_nil)) pe_int))
    (pss_one (ps_set (i := 5) sc__law_base.nd rfl (.inr rfl) (pe_op op_add (pe_op op_mod (pe_op op_mul pe_int (pv 5)) (pe_ix ix_list (pe_call0 G__law_powers (hr.mono (by decide)) (by rfl) T.g__law_powers T.F__law_powers.kp T.b__law_powers .nil pass0) (pe_ix ix_tup (pv 0) pe_int (fun _ _ => rfl)) (fun _ _ => rfl))) (pv 6)))))))
    (pss_one (ps_ret (pv 1))))))))), ?_⟩
    have hsl : sizeLine = 16777216 := by decide
    cases m with
    | table ns =>
      obtain ⟨a, b, rfl, ha, hb⟩ := hm
      refine ⟨.ref a, rfl, a, _, 0, _, rfl, rfl, SqT.mk ha, atI_nat (j := 0) rfl, rfl, _, rfl, ?_⟩
      rw [decide_eq_true rfl]
      refine iteT ?_
      exact ⟨.ref a, rfl, a, _, 1, _, rfl, rfl, SqT.mk ha, atI_nat (j := 1) rfl, b, _, rfl, .inr (SqT.mk hb), fun l nl => q _ l (same_upd nl) nl upd_same⟩
    | counter r s' t =>
      obtain ⟨a, rfl, ha⟩ := hm
      obtain ⟨r1, r2, s2, t2⟩ := pl
      refine ⟨.ref a, rfl, a, _, 0, _, rfl, rfl, SqT.mk ha, atI_nat (j := 0) rfl, rfl, _, rfl, ?_⟩
      rw [decide_eq_false ne_table_counter]
      refine iteF ?_
      refine ⟨.ref a, rfl, a, _, 0, _, rfl, rfl, SqT.mk ha, atI_nat (j := 0) rfl, rfl, _, rfl, ?_⟩
      rw [decide_eq_true rfl]
      refine iteT ?_
      refine ⟨.ref a, rfl, a, _, 3, _, rfl, rfl, SqT.mk ha, atI_nat (j := 3) rfl, (show 1 ≤ sizeLine by decide), fun l nl => ?_⟩
      have s0 : Same H (upd H l (.lst [.int (t : Nat)])) := same_upd nl
      refine ⟨fun n σ H1 => ∃ k : Nat, n = r - k ∧ k + 1 ≤ r ∧ σ = [some (.ref a), some (.ref l), none, none, none, none, none, none, none] ∧ Same H H1 ∧ H1 l = some (.lst (((List.range k).map fun i => (((t + s' * i) % r : Nat) : Int)).map V.int ++ [.int (((t + s' * k) % r : Nat) : Int)])), ⟨r, 0, by omega, by omega, rfl, s0, ?_⟩, ?_⟩
      · rw [upd_same, Nat.mul_zero, Nat.add_zero, Nat.mod_eq_of_lt t2]
        rfl
      rintro n σ H1 ⟨k, rfl, hk, rfl, s1, hl⟩
      have ha1 := s1 _ _ ha
      have ll : (((List.range k).map fun i => (((t + s' * i) % r : Nat) : Int)).map V.int ++ [V.int (((t + s' * k) % r : Nat) : Int)]).length = k + 1 := by
        rw [List.length_append, List.length_map, List.length_map, List.length_range]
        rfl
      refine ⟨.ref l, rfl, l, _, rfl, .inl (SqL.mk hl), .ref a, rfl, a, _, 1, _, rfl, rfl, SqT.mk ha1, atI_nat (j := 1) rfl, _, _, rfl, rfl, _, rfl, ?_⟩
      rw [ll]
      refine ite2 (fun e => ⟨_, fun σ' H' h => h, ?_⟩) (fun e => ?_)
      · have e : ((k + 1 : Nat) : Int) < (r : Int) := of_decide_eq_true e
        refine ⟨.ref l, rfl, .inl ⟨rfl, _, SqL.mk hl⟩, .ref l, rfl, 1, rfl, l, _, _, _, rfl, rfl, SqL.mk hl, atI_last _ _, .ref a, rfl, a, _, 2, _, rfl, rfl, SqT.mk ha1, atI_nat (j := 2) rfl, _, _, rfl, rfl, .ref a, rfl, a, _, 1, _, rfl, rfl, SqT.mk ha1, atI_nat (j := 1) rfl, _, _, rfl, rfl, is_pos r1, ?_⟩
        refine ⟨l, _, _, rfl, rfl, hl, by rw [ll]; omega, ?_⟩
        refine ⟨r - (k + 1), by omega, k + 1, rfl, by omega, rfl, same_newer s1 nl, ?_⟩
        have ev : ((((t + s' * k) % r : Nat) : Int) + (s' : Int)) % (r : Int) = (((t + s' * (k + 1)) % r : Nat) : Int) := by
          rw [← Int.natCast_add, ← Int.natCast_emod, Nat.mod_add_mod, Nat.add_assoc, Nat.mul_succ]
        dsimp only
        rw [upd_same, ev, List.range_succ, List.map_append, List.map_append]
        rfl
      · have e : ¬ ((k + 1 : Nat) : Int) < (r : Int) := fun z => e (decide_eq_true z)
        obtain rfl : r = k + 1 := by omega
        refine ⟨.ref l, rfl, q H1 l s1 nl ?_⟩
        rw [hl]
        show _ = some (HO.lst (((List.range (k + 1)).map fun i => (((t + s' * i) % (k + 1) : Nat) : Int)).map V.int))
        rw [List.range_succ, List.map_append, List.map_append]
        rfl
    | turned w' s' =>
      obtain ⟨a, rfl, ha⟩ := hm
      obtain ⟨w1, w2, sl⟩ := pl
      have tp := two_pow6 w2
      refine ⟨.ref a, rfl, a, _, 0, _, rfl, rfl, SqT.mk ha, atI_nat (j := 0) rfl, rfl, _, rfl, ?_⟩
      rw [decide_eq_false (show ¬ (V.str "turned" = V.str "table") by decide +kernel)]
      refine iteF ?_
      refine ⟨.ref a, rfl, a, _, 0, _, rfl, rfl, SqT.mk ha, atI_nat (j := 0) rfl, rfl, _, rfl, ?_⟩
      rw [decide_eq_false (show ¬ (V.str "turned" = V.str "counter") by decide +kernel)]
      refine iteF ?_
      refine ⟨.ref a, rfl, a, _, 0, _, rfl, rfl, SqT.mk ha, atI_nat (j := 0) rfl, rfl, _, rfl, ?_⟩
      rw [decide_eq_true rfl]
      refine iteT ?_
      refine ⟨rfl, fun H1 l1 s1 nl1 hl1 => ?_⟩
      refine ⟨.ref a, rfl, a, _, 1, _, rfl, rfl, SqT.mk (s1 _ _ ha), atI_nat (j := 1) rfl, l1, _, _, _, rfl, rfl, SqL.mk hl1, at_pow w2, Nat.zero_le _, fun f nf => ⟨(show 2 ≤ sizeLine by decide), fun t nt => ?_⟩⟩
      refine ⟨t, _, rfl, SqT.mk upd_same, rfl, _, _, rfl, _, _, rfl, rfl, ?_⟩
      have S2 : Same H (upd (upd H1 f (.lst [])) t (.tup [.int ((2 ^ w' : Nat) : Int), .ref f])) := (s1.trans (same_upd nf)).trans (same_upd nt)
      have hf2 : (upd (upd H1 f (.lst [])) t (.tup [.int ((2 ^ w' : Nat) : Int), .ref f])) f = some (.lst []) := (same_upd nt) _ _ upd_same
      have nf0 : H f = none := s1.free nf
      generalize upd (upd H1 f (.lst [])) t (.tup [.int ((2 ^ w' : Nat) : Int), .ref f]) = H2 at S2 hf2 ⊢
      refine ⟨.int ((2 ^ w' : Nat) : Int), rfl, _, rfl, by omega, by omega, for_range (fun i σ G => ∃ y3 y4 y7 y8, σ = [some (.ref a), some (.ref f), some (.int ((2 ^ w' : Nat) : Int)), y3, y4, none, none, y7, y8] ∧ Same H G ∧ G f = some (.lst (((List.range i).map fun i => ((lff ((s' + i) % 2 ^ w') w' : Nat) : Int)).map V.int))) ⟨none, none, none, none, rfl, S2, hf2⟩ ?_ ?_⟩
      · rintro i σ G hi ⟨y3, y4, y7, y8, rfl, sG, hG⟩
        have hi : i < 2 ^ w' := by omega
        obtain ⟨x, hx⟩ : ∃ x, (s' + i) % 2 ^ w' = x := ⟨_, rfl⟩
        have ex : ((s' : Int) + (0 + (i : Int))) % ((2 ^ w' : Nat) : Int) = (x : Int) := by
          rw [← hx, Int.zero_add, Int.natCast_emod, Int.natCast_add]
        -- the bits
        refine ⟨rfl, fun G1 l2 g1 nl2 hl2 => ?_⟩
        have ha1 := g1 _ _ (sG _ _ ha)
        refine ⟨.ref a, rfl, a, _, 1, _, rfl, rfl, SqT.mk ha1, atI_nat (j := 1) rfl, _, rfl, l2, _, rfl, SqL.mk hl2, fun sl nsl => ?_⟩
        rw [cut_take, pow_take w2]
        have g2 := same_upd nsl (o := .lst ((powP w').map V.int))
        have hsl2 : (upd G1 sl (.lst ((powP w').map V.int))) sl = some (.lst ((powP w').map V.int)) := upd_same
        generalize upd G1 sl (.lst ((powP w').map V.int)) = G2 at g2 hsl2 ⊢
        have ha2 := g2 _ _ ha1
        refine ⟨sl, rfl, ⟨_, SqL.mk hsl2⟩, fun D nD => ?_⟩
        refine lc_list (xs := (powP w').map V.int) (fun k F => Same G2 F ∧ F D = some (.lst (((List.range k).map fun j => ((x / 2 ^ j % 2 : Nat) : Int)).map V.int))) ⟨same_upd nD, upd_same⟩ (fun k F _ h => SqL.mk (h.1 _ _ hsl2)) (fun k y F hy h => ?_) (fun F h => ?_)
        · obtain ⟨sF, hD⟩ := h
          obtain ⟨hk, rfl⟩ := powP_at hy
          have kp : 1 ≤ 2 ^ k ∧ 2 ^ k ≤ 64 := two_pow6 (by omega)
          refine ⟨rfl, yes_ite ?_⟩
          refine ⟨.ref a, rfl, a, _, 2, _, rfl, rfl, SqT.mk (sF _ _ ha2), atI_nat (j := 2) rfl, .int (0 + (i : Int)), rfl, _, _, rfl, rfl, .int ((2 ^ w' : Nat) : Int), rfl, _, _, rfl, rfl, is_pos tp.1, _, rfl, _, _, rfl, rfl, ⟨is_pos kp.1, (show ((2 ^ k : Nat) : Int) < 1073741824 by omega)⟩, _, _, rfl, rfl, (show (0 : Int) < 2 by decide), ?_⟩
          refine ⟨_, hD, by rw [List.length_map, List.length_map, List.length_range]; omega, same_newer sF nD, ?_⟩
          dsimp only
          rw [upd_same, List.range_succ, List.map_append, List.map_append, ex, ← Int.natCast_ediv]
          rfl
        obtain ⟨sF, hD⟩ := h
        rw [List.length_map, powP_len] at hD
        have g02 := sG.trans (g1.trans (g2.trans sF))
        have hfF := sF _ _ (g2 _ _ (g1 _ _ hG))
        -- their sum
        refine ⟨.ref f, rfl, .inl ⟨rfl, _, SqL.mk hfF⟩, .ref D, rfl, rfl, fun F1 l3 g3 nl3 hl3 => ?_⟩
        have ha3 := g3 _ _ (g02 _ _ ha)
        refine ⟨.ref a, rfl, a, _, 1, _, rfl, rfl, SqT.mk ha3, atI_nat (j := 1) rfl, _, rfl, l3, _, rfl, SqL.mk hl3, fun s3 ns3 => ?_⟩
        rw [cut_take, pow_take w2]
        refine ⟨s3, _, rfl, SqL.mk upd_same, fun rv nrv => ?_⟩
        rw [← List.map_reverse, pow_rev w2]
        have g4 : Same F (upd (upd F1 s3 (.lst ((powP w').map V.int))) rv (.lst ((powR w').map V.int))) := g3.trans ((same_upd ns3).trans (same_upd nrv))
        have hrv : (upd (upd F1 s3 (.lst ((powP w').map V.int))) rv (.lst ((powR w').map V.int))) rv = some (.lst ((powR w').map V.int)) := upd_same
        generalize upd (upd F1 s3 (.lst ((powP w').map V.int))) rv (.lst ((powR w').map V.int)) = F4 at g4 hrv ⊢
        have hD4 := g4 _ _ hD
        refine ⟨D, rv, _, _, rfl, .inl ⟨SqL.mk hD4, SqL.mk hrv, fun D2 nD2 => ?_⟩⟩
        refine lc_it (walk_zip (n := w') (xs := ((List.range w').map fun j => ((x / 2 ^ j % 2 : Nat) : Int)).map V.int) (ys := (powR w').map V.int) (by rw [List.length_map, List.length_map, List.length_map, List.length_range, powR_len, Nat.min_self])) (fun k E5 => Same F4 E5 ∧ E5 D2 = some (.lst (((List.range k).map fun j => ((x / 2 ^ j % 2 : Nat) : Int) * ((2 ^ (w' - 1 - j) : Nat) : Int)).map V.int))) ⟨same_upd nD2, upd_same⟩ (fun k E5 _ h2 => ⟨SqL.mk (h2.1 _ _ hD4), SqL.mk (h2.1 _ _ hrv)⟩) ?_ ?_
        · rintro k z E5 E6 hk ⟨s5, hD5⟩ ⟨t5, x1, x2, rfl, nt5, rfl, e1, e2⟩
          have e1 : (((List.range w').map fun j => ((x / 2 ^ j % 2 : Nat) : Int)).map V.int)[k]? = some x1 := e1
          have e2 : ((powR w').map V.int)[k]? = some x2 := e2
          rw [List.getElem?_map, List.getElem?_map, List.getElem?_range hk] at e1
          cases e1
          obtain ⟨_, rfl⟩ := powR_at e2
          have pk : 2 ^ (w' - 1 - k) ≤ 64 := (two_pow6 (by omega)).2
          refine ⟨t5, _, rfl, SqT.mk upd_same, rfl, _, _, rfl, _, _, rfl, rfl, rfl, yes_ite ?_⟩
          refine ⟨_, rfl, _, rfl, _, _, rfl, rfl, .inr (bnd64 pk), ?_⟩
          refine ⟨_, (same_upd nt5) _ _ hD5, by rw [List.length_map, List.length_map, List.length_range]; omega, same_newer (s5.trans (same_upd nt5)) nD2, ?_⟩
          rw [upd_same, List.range_succ, List.map_append, List.map_append]
          rfl
        rintro E5 ⟨s5, hD5⟩
        have hf5 := s5 _ _ (g4 _ _ hfF)
        refine ⟨D2, _, rfl, SqL.mk hD5, f, _, _, rfl, rfl, hf5, by rw [List.length_map, List.length_map, List.length_range]; omega, ?_⟩
        refine ⟨_, _, _, _, rfl, same_newer (g02.trans (g4.trans s5)) nf0, ?_⟩
        rw [upd_same, lff_sum, List.range_succ, List.map_append, List.map_append, ← hx]
        rfl
      · rintro σ G ⟨y3, y4, y7, y8, rfl, sG, hG⟩
        rw [Int.toNat_natCast] at hG
        exact ⟨.ref f, rfl, q G f sG nf0 hG⟩
    | register w' p' s' =>
      obtain ⟨a, rfl, ha⟩ := hm
      obtain ⟨hw, s1', s2'⟩ := pl
      have w2 := hw.hi
      have tp := two_pow6 w2
      have ip := per_is hw s2'
      refine ⟨.ref a, rfl, a, _, 0, _, rfl, rfl, SqT.mk ha, atI_nat (j := 0) rfl, rfl, _, rfl, ?_⟩
      rw [decide_eq_false (show ¬ (V.str "register" = V.str "table") by decide +kernel)]
      refine iteF ?_
      refine ⟨.ref a, rfl, a, _, 0, _, rfl, rfl, SqT.mk ha, atI_nat (j := 0) rfl, rfl, _, rfl, ?_⟩
      rw [decide_eq_false (show ¬ (V.str "register" = V.str "counter") by decide +kernel)]
      refine iteF ?_
      refine ⟨.ref a, rfl, a, _, 0, _, rfl, rfl, SqT.mk ha, atI_nat (j := 0) rfl, rfl, _, rfl, ?_⟩
      rw [decide_eq_false (show ¬ (V.str "register" = V.str "turned") by decide +kernel)]
      refine iteF ?_
      refine ⟨rfl, fun H1 l1 s1 nl1 hl1 => ?_⟩
      refine ⟨.ref a, rfl, a, _, 1, _, rfl, rfl, SqT.mk (s1 _ _ ha), atI_nat (j := 1) rfl, _, rfl, l1, _, rfl, SqL.mk hl1, fun bl nbl => ⟨Nat.zero_le _, fun f nf => ⟨_, _, rfl, ?_⟩⟩⟩
      have S2 : Same H (upd (upd H1 bl (.lst (cutV (pows.map V.int) none (some (w' : Int))))) f (.lst [])) := (s1.trans (same_upd nbl)).trans (same_upd nf)
      have hbl : (upd (upd H1 bl (.lst (cutV (pows.map V.int) none (some (w' : Int))))) f (.lst [])) bl = some (.lst ((powP w').map V.int)) := (same_upd nf) _ _ (by rw [upd_same, cut_take, pow_take w2])
      have nf0 : H f = none := (s1.trans (same_upd nbl)).free nf
      have nbf : bl ≠ f := fun e => by
        rw [e, upd_same] at nf
        cases nf
      have hf2 : (upd (upd H1 bl (.lst (cutV (pows.map V.int) none (some (w' : Int))))) f (.lst [])) f = some (.lst []) := upd_same
      generalize upd (upd H1 bl (.lst (cutV (pows.map V.int) none (some (w' : Int))))) f (.lst []) = H2 at S2 hbl hf2 ⊢
      refine ⟨.ref a, rfl, a, _, 3, _, rfl, rfl, SqT.mk (S2 _ _ ha), atI_nat (j := 3) rfl, ?_⟩
      refine ⟨fun n σ G => ∃ k y6 y7, n = per w' p' s' - k ∧ k ≤ per w' p' s' ∧ σ = [some (.ref a), some (.ref f), none, none, some (.ref bl), some (.int (regA w' p' s' k : Nat)), y6, y7, none] ∧ Same H G ∧ G bl = some (.lst ((powP w').map V.int)) ∧ G f = some (.lst (((List.range k).map fun k => ((regA w' p' s' k : Nat) : Int)).map V.int)), ⟨per w' p' s', 0, none, none, by omega, by omega, rfl, S2, hbl, hf2⟩, ?_⟩
      rintro n σ G ⟨k, y6, y7, rfl, hk, rfl, sG, hbG, hfG⟩
      have xl : regA w' p' s' k < 2 ^ w' := regA_lt hw s2' k
      obtain ⟨x, hx⟩ : ∃ x, regA w' p' s' k = x := ⟨_, rfl⟩
      rw [hx] at xl
      have haG := sG _ _ ha
      refine ⟨.int (regA w' p' s' k : Nat), rfl, .ref f, rfl, f, _, rfl, .inl (SqL.mk hfG), rfl, flat_ints _, _, rfl, ?_⟩
      rw [if_pos rfl, in_ints]
      by_cases kp : k < per w' p' s'
      · have nin : ((regA w' p' s' k : Nat) : Int) ∉ (List.range k).map fun k => ((regA w' p' s' k : Nat) : Int) := fun z => by
          obtain ⟨j, hj, ej⟩ := List.mem_map.mp z
          have hj := List.mem_range.mp hj
          have ej : regA w' p' s' j = regA w' p' s' k := by omega
          refine ip.first (k - j) (by omega) (by omega) (regA_back hw s2' j (k - j) ?_)
          rw [show j + (k - j) = k by omega]
          exact ej.symm
        rw [decide_eq_false nin]
        refine iteT ⟨_, fun σ' H' h => h, ?_⟩
        refine ⟨.ref f, rfl, .inl ⟨rfl, _, SqL.mk hfG⟩, .int (regA w' p' s' k : Nat), rfl, f, _, _, rfl, rfl, hfG, by rw [List.length_map, List.length_map, List.length_range]; have := ip.le; omega, ?_⟩
        have g1 : Same H (upd G f (.lst (((List.range k).map fun k => ((regA w' p' s' k : Nat) : Int)).map V.int ++ [.int (regA w' p' s' k : Nat)]))) := same_newer sG nf0
        have hb1 : (upd G f (.lst (((List.range k).map fun k => ((regA w' p' s' k : Nat) : Int)).map V.int ++ [.int (regA w' p' s' k : Nat)]))) bl = some (.lst ((powP w').map V.int)) := by
          rw [upd_ne nbf]
          exact hbG
        have hf1 : (upd G f (.lst (((List.range k).map fun k => ((regA w' p' s' k : Nat) : Int)).map V.int ++ [.int (regA w' p' s' k : Nat)]))) f = some (.lst (((List.range (k + 1)).map fun k => ((regA w' p' s' k : Nat) : Int)).map V.int)) := by
          rw [upd_same, List.range_succ, List.map_append, List.map_append]
          rfl
        generalize upd G f (.lst (((List.range k).map fun k => ((regA w' p' s' k : Nat) : Int)).map V.int ++ [.int (regA w' p' s' k : Nat)])) = G1 at g1 hb1 hf1 ⊢
        rw [hx]
        -- the odd count
        refine ⟨.ref bl, rfl, bl, rfl, ⟨_, SqL.mk hb1⟩, fun D nD => ?_⟩
        refine lc_list (xs := (powP w').map V.int) (fun j F => Same G1 F ∧ F D = some (.lst (((List.range j).map fun j => (((x / 2 ^ j % 2 : Nat) : Int) * ((p' / 2 ^ j % 2 : Nat) : Int))).map V.int))) ⟨same_upd nD, upd_same⟩ (fun j F _ h => SqL.mk (h.1 _ _ hb1)) (fun j y F hy h => ?_) (fun F h => ?_)
        · obtain ⟨sF, hD⟩ := h
          obtain ⟨hj, rfl⟩ := powP_at hy
          have jp : 1 ≤ 2 ^ j ∧ 2 ^ j ≤ 64 := two_pow6 (by omega)
          obtain ⟨q2, hq2⟩ : ∃ q2, 2 ^ j = q2 := ⟨_, rfl⟩
          rw [hq2] at jp
          have b1 : x / q2 % 2 ≤ 64 := by omega
          rw [show ((2 ^ j : Nat) : Int) = (q2 : Int) by rw [hq2]]
          refine ⟨rfl, yes_ite ?_⟩
          refine ⟨.int (x : Nat), rfl, _, rfl, _, _, rfl, rfl, ⟨is_pos jp.1, (show (q2 : Int) < 1073741824 by omega)⟩, _, _, rfl, rfl, (show (0 : Int) < 2 by decide), .ref a, rfl, a, _, 2, _, rfl, rfl, SqT.mk (sF _ _ (g1 _ _ ha)), atI_nat (j := 2) rfl, _, rfl, _, _, rfl, rfl, ⟨is_pos jp.1, (show (q2 : Int) < 1073741824 by omega)⟩, _, _, rfl, rfl, (show (0 : Int) < 2 by decide), _, _, rfl, rfl, .inl ⟨by omega, by omega⟩, ?_⟩
          refine ⟨_, hD, by rw [List.length_map, List.length_map, List.length_range]; omega, same_newer sF nD, ?_⟩
          dsimp only
          rw [upd_same, List.range_succ, List.map_append, List.map_append, ← Int.natCast_ediv, ← Int.natCast_ediv, ← hq2]
          rfl
        obtain ⟨sF, hD⟩ := h
        rw [List.length_map, powP_len] at hD
        refine ⟨D, _, rfl, SqL.mk hD, _, _, rfl, rfl, (show (0 : Int) < 2 by decide), ?_⟩
        have eo : ((List.range w').map fun j => (((x / 2 ^ j % 2 : Nat) : Int) * ((p' / 2 ^ j % 2 : Nat) : Int))).sum % 2 = ((par (x &&& p') : Nat) : Int) := odd_eq hw xl
        try dsimp only
        rw [eo]
        refine ⟨.int (x : Nat), rfl, _, _, rfl, rfl, .inl ⟨by decide, by decide⟩, rfl, fun F1 l3 g3 nl3 hl3 => ?_⟩
        refine ⟨.ref a, rfl, a, _, 1, _, rfl, rfl, SqT.mk (g3 _ _ (sF _ _ (g1 _ _ ha))), atI_nat (j := 1) rfl, l3, _, _, _, rfl, rfl, SqL.mk hl3, at_pow w2, _, _, rfl, rfl, is_pos tp.1, _, rfl, _, _, rfl, rfl, ?_⟩
        try dsimp only
        rw [step_eq]
        exact ⟨per w' p' s' - (k + 1), by omega, k + 1, _, _, rfl, by omega, by
          have : regA w' p' s' (k + 1) = regS w' p' x := by rw [← hx]; rfl
          rw [this]
          rfl, g1.trans (sF.trans g3), g3 _ _ (sF _ _ hb1), g3 _ _ (sF _ _ hf1)⟩
      · have ke : k = per w' p' s' := by omega
        have inn : ((regA w' p' s' k : Nat) : Int) ∈ (List.range k).map fun k => ((regA w' p' s' k : Nat) : Int) := by
          refine List.mem_map.mpr ⟨0, List.mem_range.mpr (by have := ip.pos; omega), ?_⟩
          show ((regA w' p' s' 0 : Nat) : Int) = _
          rw [ke, ip.back]
          rfl
        rw [decide_eq_true inn]
        refine iteF ?_
        refine ⟨.ref f, rfl, q G f sG nf0 ?_⟩
        rw [hfG, ke]
        rfl
    | _ => exact bs.elim
/-! the law's own numbers -/
def sp__law_inner (_ : PySem.W.Frag) : Sp := fun vs H Q _ => ∃ m v, vs = [v] ∧ MkAt H m v ∧ ∀ H' u, Same H H' → MkAt H' m.inn u → Q u H'
def spr__law_round (d : Nat) (_ : PySem.W.Frag) : Sp := fun vs H Q _ => ∃ m v, vs = [v] ∧ MkAt H m v ∧ m.Ok ∧ m.inn.Bs ∧ m.dep < d ∧ ∀ H', Same H H' → Q (.int (m.rnd : Nat)) H'
theorem no__law_round {K : PySem.W.Frag} {vs : List V} {H : Hp} {Q : VK} {E : XK} (h : spr__law_round 0 K vs H Q E) : False := by
  obtain ⟨m, v, _, _, _, _, z, _⟩ := h
  exact Nat.not_lt_zero _ z
theorem rnd_plain {m : Mk} (h : m.dep = 0) : m.rnd = m.pl.length := by
  cases m with
  | slow n m => cases h
  | slip n m => cases h
  | late n m => cases h
  | _ => rfl
theorem ok_plain {m : Mk} (h : m.dep = 0) (ok : m.Ok) : m.Pl := by
  have := ok.inn
  rw [Mk.inn_self h] at this
  exact this
theorem ne_late_slow : ¬ (V.str "slow" = V.str "late") := by decide +kernel
theorem ne_late_slip : ¬ (V.str "slip" = V.str "late") := by decide +kernel
theorem ne_slip_slow : ¬ (V.str "slow" = V.str "slip") := by decide +kernel
theorem okr__law_round (T : Defs K mg) (TT : Tabs T base) : ∀ d : Nat, FnOk P w K mg base CX0 (4 + d) T.f__law_round T.fd__law_round ["_law_maker_here"] (spr__law_round d K)
  | 0 => ⟨fun _ _ _ _ z => (no__law_round z).elim, fun _ _ _ _ _ _ _ _ _ _ _ _ _ z => (no__law_round z).elim⟩
  | d + 1 => by
    have G__law_round : FnOk P w K mg base CX0 (4 + d) T.f__law_round T.fd__law_round ["_law_maker_here"] (spr__law_round d K) := okr__law_round T TT d
    have G__law_base : FnOk P w K mg base CX0 2 T.f__law_base T.fd__law_base ["_law_maker_here"] (sp__law_base K) := ok__law_base T TT
    have G__law_divisor : FnOk P w K mg base CX0 1 T.f__law_divisor T.fd__law_divisor ["_law_one", "_law_other"] (sp__law_divisor K) := ok__law_divisor T TT
    show FnOk P w K mg base CX0 ((4 + d) + 1) T.f__law_round T.fd__law_round ["_law_maker_here"] (spr__law_round (d + 1) K)
    refine T.F__law_round.ok sc__law_round (fun vs H Q E h => ?_) (fun cdv A outer s H vs Q E hr h => ?_)
    · obtain ⟨m, v, rfl, hm, ok, bs, dp, q⟩ := h
      rfl
    · obtain ⟨m, v, rfl, hm, ok, bs, dp, q⟩ := h
      refine ⟨_, PSs.nox (pss_cons (ps_if (pt_cmpR op_notIn_seq (pe_ix ix_tup (pv 0) pe_int (fun _ _ => rfl)) (pe_tup (pa_cons pe_str (pa_cons pe_str (pa_cons pe_str pa_nil)))) rfl) (pss_one (ps_ret (pe_callB call_len_seq (by rfl) T.m_len bt_len (pa_cons (pe_call G__law_base (hr.mono (by omega)) (by rfl) T.g__law_base T.F__law_base.kp T.b__law_base .nil pass0 (pa_cons (pv 0) pa_nil)) pa_nil)))) pss_nil)
    (pss_cons (ps_set (i := 1) sc__law_round.nd rfl (.inl rfl) (pe_call G__law_round (hr.mono (by omega)) (by rfl) T.g__law_round T.F__law_round.kp T.b__law_round .nil pass0 (pa_cons (pe_ix ix_tup (pv 0) pe_int (fun _ _ => rfl)) pa_nil)))
    (pss_cons (ps_if (pt_cmpR op_eq (pe_ix ix_tup (pv 0) pe_int (fun _ _ => rfl)) pe_str (nomark _)) (pss_one (ps_ret (pv 1))) pss_nil)
    (pss_one (ps_ret (pe_op op_fdiv (pe_op op_mul (pe_ix ix_tup (pv 0) pe_int (fun _ _ => rfl)) (pv 1)) (pe_ifExp (pt_cmpR op_eq (pe_ix ix_tup (pv 0) pe_int (fun _ _ => rfl)) pe_str (nomark _)) (pe_call G__law_divisor (hr.mono (by omega)) (by rfl) T.g__law_divisor T.F__law_divisor.kp T.b__law_divisor .nil pass0 (pa_cons (pv 1) (pa_cons (pe_op op_add (pe_ix ix_tup (pv 0) pe_int (fun _ _ => rfl)) pe_int) pa_nil))) pe_int))))))), ?_⟩
      rcases hm.shape with ⟨z, n, m2, a, x, rfl, ha, hx, ar, iw⟩ | ⟨d0, a, z, xs, rfl, ha, iw⟩
      · refine ⟨.ref a, rfl, a, _, 0, _, rfl, rfl, SqT.mk ha, atI_nat (j := 0) rfl, (show 3 ≤ sizeLine by decide), fun t nt => ⟨t, _, rfl, .inr (SqT.mk upd_same), rfl, rfl, _, rfl, ?_⟩⟩
        have s2 := same_upd nt (o := .tup [.str "slow", .str "slip", .str "late"])
        have ha2 := s2 _ _ ha
        have hx2 := hx.same s2
        rw [if_pos rfl, show inV (.str z) [.str "slow", .str "slip", .str "late"] = true from iw]
        generalize upd H t (.tup [.str "slow", .str "slip", .str "late"]) = H2 at s2 ha2 hx2 ⊢
        refine iteF ?_
        have dd := ar.dep
        have okd : m2.Ok ∧ n ≤ 64 := by
          rcases ar.word with ⟨rfl, rfl⟩ | ⟨rfl, rfl⟩ | ⟨rfl, rfl⟩
          · exact ⟨ok.2.2, ok.2.1⟩
          · exact ⟨ok.2.2, ok.2.1⟩
          · exact ⟨ok.2, ok.1⟩
        refine ⟨.ref a, rfl, a, _, 2, _, rfl, rfl, SqT.mk ha2, atI_nat (j := 2) rfl, m2, x, rfl, hx2, okd.1, by rw [← dd.2]; exact bs, by omega, fun H3 s3 => ?_⟩
        have ha3 := s3 _ _ ha2
        have s23 := s2.trans s3
        refine ⟨.ref a, rfl, a, _, 0, _, rfl, rfl, SqT.mk ha3, atI_nat (j := 0) rfl, rfl, _, rfl, ?_⟩
        have bn : -(2 ^ 64) < (n : Int) ∧ (n : Int) < 2 ^ 64 := ⟨by omega, by omega⟩
        rcases ar.word with ⟨rfl, rfl⟩ | ⟨rfl, rfl⟩ | ⟨rfl, rfl⟩
        · rw [decide_eq_false ne_late_slow]
          refine iteF ?_
          refine ⟨.ref a, rfl, a, _, 1, _, rfl, rfl, SqT.mk ha3, atI_nat (j := 1) rfl, .int (m2.rnd : Nat), rfl, _, _, rfl, rfl, .inl bn, .ref a, rfl, a, _, 0, _, rfl, rfl, SqT.mk ha3, atI_nat (j := 0) rfl, rfl, _, rfl, ?_⟩
          rw [decide_eq_false ne_slip_slow]
          refine iteF ?_
          refine ⟨_, _, rfl, rfl, ⟨by decide, by decide⟩, ?_⟩
          have e : (n : Int) * (m2.rnd : Int) / 1 = (((Mk.slow n m2).rnd : Nat) : Int) := by
            rw [Int.ediv_one, ← Int.natCast_mul]
            rfl
          try dsimp only
          rw [e]
          exact q H3 s23
        · rw [decide_eq_false ne_late_slip]
          refine iteF ?_
          refine ⟨.ref a, rfl, a, _, 1, _, rfl, rfl, SqT.mk ha3, atI_nat (j := 1) rfl, .int (m2.rnd : Nat), rfl, _, _, rfl, rfl, .inl bn, .ref a, rfl, a, _, 0, _, rfl, rfl, SqT.mk ha3, atI_nat (j := 0) rfl, rfl, _, rfl, ?_⟩
          rw [decide_eq_true rfl]
          refine iteT ?_
          refine ⟨.int (m2.rnd : Nat), rfl, .ref a, rfl, a, _, 1, _, rfl, rfl, SqT.mk ha3, atI_nat (j := 1) rfl, _, _, rfl, rfl, _, _, rfl, ?_⟩
          have g := gcd_le (a := m2.rnd) (n := n)
          have eg : (Int.gcd (m2.rnd : Int) ((n : Int) + 1) : Int) = ((Nat.gcd m2.rnd (n + 1) : Nat) : Int) := rfl
          rw [eg]
          refine ⟨_, _, rfl, rfl, ⟨(show (0 : Int) < ((Nat.gcd m2.rnd (n + 1) : Nat) : Int) by omega), (show ((Nat.gcd m2.rnd (n + 1) : Nat) : Int) < 1073741824 by omega)⟩, ?_⟩
          have e : (n : Int) * (m2.rnd : Int) / ((Nat.gcd m2.rnd (n + 1) : Nat) : Int) = (((Mk.slip n m2).rnd : Nat) : Int) := by
            rw [← Int.natCast_mul, ← Int.natCast_ediv]
            rfl
          try dsimp only
          rw [e]
          exact q H3 s23
        · rw [decide_eq_true rfl]
          refine iteT ?_
          exact ⟨.int (m2.rnd : Nat), rfl, q H3 s23⟩
      · refine ⟨.ref a, rfl, a, _, 0, _, rfl, rfl, SqT.mk ha, atI_nat (j := 0) rfl, (show 3 ≤ sizeLine by decide), fun t nt => ⟨t, _, rfl, .inr (SqT.mk upd_same), rfl, rfl, _, rfl, ?_⟩⟩
        have s2 := same_upd nt (o := .tup [.str "slow", .str "slip", .str "late"])
        rw [if_pos rfl, show inV (.str z) [.str "slow", .str "slip", .str "late"] = false from iw]
        refine iteT ?_
        refine ⟨.ref a, rfl, m, _, rfl, hm.same s2, ok_plain d0 ok, by rw [← Mk.inn_self d0]; exact bs, fun H3 p s3 np hp => ⟨p, _, rfl, .inl (SqL.mk hp), ?_⟩⟩
        rw [List.length_map, ← rnd_plain d0]
        exact q H3 (s2.trans s3)
def sp__law_round (K : PySem.W.Frag) : Sp := spr__law_round 5 K
theorem ok__law_round (T : Defs K mg) (TT : Tabs T base) : FnOk P w K mg base CX0 9 T.f__law_round T.fd__law_round ["_law_maker_here"] (sp__law_round K) := okr__law_round T TT 5
def spr__law_beat (d : Nat) (_ : PySem.W.Frag) : Sp := fun vs H Q _ => ∃ m v b t, vs = [v, .ref b, .int t] ∧ MkAt H m v ∧ m.Ok ∧ m.dep < d ∧ ∃ k : Mk, k.Pl ∧ H b = some (.lst (k.pl.map V.int)) ∧ Q (.int (k.pl.getD ((m.bt t) % (k.pl.length : Int)).toNat 0)) H
theorem no__law_beat {K : PySem.W.Frag} {vs : List V} {H : Hp} {Q : VK} {E : XK} (h : spr__law_beat 0 K vs H Q E) : False := by
  obtain ⟨m, v, b, t, _, _, _, z, _⟩ := h
  exact Nat.not_lt_zero _ z
theorem str_ne {z y : Str} (h : inW z = false) (k : inW y = true) : decide (V.str z = V.str y) = false := decide_eq_false fun e => by
  rw [V.str.inj e, k] at h
  cases h
/-! heaps with tables -/
theorem trip0 : TriplesOk (#[] : Array Value).toList := trivial
structure Sam (H H' : Hp) : Prop where
  obj : ∀ b o, (∀ ps, o ≠ .tbl ps) → H b = some o → H' b = some o
  tab : ∀ b ps, H b = some (.tbl ps) → ∃ ps', H' b = some (.tbl ps') ∧ (TriplesOk ps.toList → TriplesOk ps'.toList)
theorem Sam.of {H H' : Hp} (s : Same H H') : Sam H H' := ⟨fun b o _ e => s b o e, fun b ps e => ⟨ps, s b _ e, fun z => z⟩⟩
theorem Sam.refl (H : Hp) : Sam H H := .of (Same.refl H)
theorem Sam.trans {H H1 H2 : Hp} (a : Sam H H1) (b : Sam H1 H2) : Sam H H2 := ⟨fun c o n e => b.obj c o n (a.obj c o n e), fun c ps e => by
  obtain ⟨p1, e1, t1⟩ := a.tab c ps e
  obtain ⟨p2, e2, t2⟩ := b.tab c p1 e1
  exact ⟨p2, e2, fun z => t2 (t1 z)⟩⟩
theorem Sam.tabG {H H' : Hp} {P : Addr} (a : Sam H H') (t : GxR.TabG H P) : GxR.TabG H' P := by
  obtain ⟨ps, e, z⟩ := t
  obtain ⟨p1, e1, t1⟩ := a.tab P ps e
  exact ⟨p1, e1, t1 z⟩
theorem Sam.tup {H H' : Hp} {a : Addr} {xs : List V} (s : Sam H H') (h : H a = some (.tup xs)) : H' a = some (.tup xs) := s.obj _ _ (fun _ z => by cases z) h
theorem Sam.lst {H H' : Hp} {a : Addr} {xs : List V} (s : Sam H H') (h : H a = some (.lst xs)) : H' a = some (.lst xs) := s.obj _ _ (fun _ z => by cases z) h
theorem Sam.free {H H' : Hp} (s : Sam H H') {l : Addr} (h : H' l = none) : H l = none := by
  cases q : H l with
  | none => rfl
  | some o =>
    cases o with
    | tbl ps =>
      obtain ⟨p1, e1, _⟩ := s.tab l ps q
      rw [e1] at h
      cases h
    | _ =>
      rw [s.obj l _ (fun _ z => by cases z) q] at h
      cases h
theorem Sam.tabbed {P : Addr} {H H' : Hp} (g : GxR.TabG H P) (t : GxR.Tabbed P H H') : Sam H H' := by
  obtain ⟨⟨p1, e1, z1⟩, k⟩ := t
  obtain ⟨p0, e0, _⟩ := g
  refine ⟨fun b o n e => ?_, fun b ps e => ?_⟩
  · by_cases hb : b = P
    · rw [hb, e0] at e
      exact absurd (Option.some.inj e).symm (n p0)
    · rw [k b hb]
      exact e
  · by_cases hb : b = P
    · rw [hb]
      exact ⟨p1, e1, fun _ => z1⟩
    · exact ⟨ps, by rw [k b hb]; exact e, fun z => z⟩
theorem sam_newer {H H' : Hp} {q : Addr} {o : HO} (a : Sam H H') (n : H q = none) : Sam H (upd H' q o) := ⟨fun c x hx e => by
    rw [upd_ne (ne_of_none e n)]
    exact a.obj c x hx e, fun c ps e => by
    obtain ⟨p1, e1, t1⟩ := a.tab c ps e
    exact ⟨p1, by rw [upd_ne (ne_of_none e n)]; exact e1, t1⟩⟩
/-- all but the box stays, tables grow -/
structure Bus (p : Addr) (H H' : Hp) : Prop where
  obj : ∀ b o, b ≠ p → (∀ ps, o ≠ .tbl ps) → H b = some o → H' b = some o
  tab : ∀ b ps, b ≠ p → H b = some (.tbl ps) → ∃ ps', H' b = some (.tbl ps') ∧ (TriplesOk ps.toList → TriplesOk ps'.toList)
theorem Bus.of {p : Addr} {H H' : Hp} (s : But p H H') : Bus p H H' := ⟨fun b o n _ e => s b o n e, fun b ps n e => ⟨ps, s b _ n e, fun z => z⟩⟩
theorem Bus.sam {p : Addr} {H H' : Hp} (s : Sam H H') : Bus p H H' := ⟨fun b o _ n e => s.obj b o n e, fun b ps _ e => s.tab b ps e⟩
theorem Bus.refl (p : Addr) (H : Hp) : Bus p H H := .of (But.refl p H)
theorem Bus.trans {p : Addr} {H H1 H2 : Hp} (a : Bus p H H1) (b : Bus p H1 H2) : Bus p H H2 := ⟨fun c o h n e => b.obj c o h n (a.obj c o h n e), fun c ps h e => by
  obtain ⟨p1, e1, t1⟩ := a.tab c ps h e
  obtain ⟨p2, e2, t2⟩ := b.tab c p1 h e1
  exact ⟨p2, e2, fun z => t2 (t1 z)⟩⟩
theorem Bus.tup {p : Addr} {H H' : Hp} {n : Nat} {a : Addr} {xs : List V} (s : Bus p H H') (B : Bx H p n) (h : H a = some (.tup xs)) : H' a = some (.tup xs) := s.obj _ _ (B.ne_tup h) (fun _ z => by cases z) h
theorem Bus.lst {p : Addr} {H H' : Hp} {a : Addr} {xs : List V} (s : Bus p H H') (ne : a ≠ p) (h : H a = some (.lst xs)) : H' a = some (.lst xs) := s.obj _ _ ne (fun _ z => by cases z) h
theorem Bus.tabG {p : Addr} {H H' : Hp} {n : Nat} {P : Addr} (s : Bus p H H') (B : Bx H p n) (t : GxR.TabG H P) : GxR.TabG H' P := by
  obtain ⟨ps, e, z⟩ := t
  obtain ⟨a, b, c, hp, _⟩ := B
  obtain ⟨p1, e1, t1⟩ := s.tab P ps (ne_of e hp (fun z => by cases z)) e
  exact ⟨p1, e1, t1 z⟩
theorem Bus.new {p q : Addr} {H H' : Hp} {o : HO} (a : Bus p H H') (n : H' q = none) : Bus p H (upd H' q o) := a.trans (.of ((But.refl p H').new n))
/-- a thing made since H may change -/
theorem bus_newer {p q : Addr} {H H' : Hp} {o : HO} (a : Bus p H H') (n : H q = none) : Bus p H (upd H' q o) := ⟨fun c x h hx e => by
    rw [upd_ne (ne_of_none e n)]
    exact a.obj c x h hx e, fun c ps h e => by
    obtain ⟨p1, e1, t1⟩ := a.tab c ps h e
    exact ⟨p1, by rw [upd_ne (ne_of_none e n)]; exact e1, t1⟩⟩
theorem Bus.free {p : Addr} {H H' : Hp} {n : Nat} (s : Bus p H H') (B : Bx H p n) (B' : ∃ m, Bx H' p m) {l : Addr} (h : H' l = none) : H l = none := by
  cases q : H l with
  | none => rfl
  | some o =>
    have nl : l ≠ p := fun z => by
      obtain ⟨m, _, _, _, hp, _⟩ := B'
      rw [z, hp] at h
      cases h
    cases o with
    | tbl ps =>
      obtain ⟨p1, e1, _⟩ := s.tab l ps nl q
      rw [e1] at h
      cases h
    | _ =>
      rw [s.obj l _ nl (fun _ z => by cases z) q] at h
      cases h
theorem Bx.sam {H H' : Hp} {p : Addr} {n : Nat} (h : Bx H p n) (s : Sam H H') : Bx H' p n := by
  obtain ⟨a, b, c, hp, r⟩ := h
  exact ⟨a, b, c, s.lst hp, r⟩
theorem bus_same {p : Addr} {H H1 H2 : Hp} (n : H p = none) (a : Sam H H1) (b : Bus p H1 H2) : Sam H H2 := ⟨fun c x h e => b.obj c x (ne_of_none e n) h (a.obj c x h e), fun c ps e => by
  obtain ⟨p1, e1, t1⟩ := a.tab c ps e
  obtain ⟨p2, e2, t2⟩ := b.tab c p1 (ne_of_none e n) e1
  exact ⟨p2, e2, fun z => t2 (t1 z)⟩⟩
theorem ne_new {H : Hp} {p q : Addr} {n : Nat} (B : Bx H p n) (nq : H q = none) : q ≠ p := fun e => by
  obtain ⟨_, _, _, hp, _⟩ := B
  rw [e, hp] at nq
  cases nq
theorem nat_of {x : Int} (h : 0 ≤ x) : ∃ m : Nat, x = (m : Nat) := Int.eq_ofNat_of_zero_le h
theorem listK {X : Cx} {K : PySem.W.Frag} {tg e : Expr} {t : TE} (h : X.K = K) (he : PE X e t) : PI X tg e (iList K t) := by
  subst h
  exact pi_list he
theorem nx_via {t u : TS} {D : Ends} {r : VK} {k c : L2.St → Hp → Prop} {σ : L2.St} {H : Hp} (R : L2.St → Hp → Prop) (h1 : ∀ N : L2.St → Hp → Prop, (∀ σ H, R σ H → N σ H) → t { D with nx := N } σ H) (h2 : ∀ σ H, R σ H → u D σ H) : Ends.nx { nx := tSeq t u D, rt := r, bk := k, ct := c } σ H := h1 _ h2
theorem seq_via {t u : TS} {D : Ends} {σ : L2.St} {H : Hp} (R : L2.St → Hp → Prop) (h1 : ∀ N : L2.St → Hp → Prop, (∀ σ H, R σ H → N σ H) → t { D with nx := N } σ H) (h2 : ∀ σ H, R σ H → u D σ H) : tSeq t u D σ H := h1 _ h2
theorem u1 {k : Nat} {A : Around} (r : Room k A) : A.units + 1 < cLine := by
  have := r.un
  omega
theorem lcK {X : Cx} {K : PySem.W.Frag} (h : X.K = K) : MtR X "list.count" (rCntI K) := by
  subst h
  exact mt_lcount
theorem pe_bmK {X : Cx} {K : PySem.W.Frag} {T id : String} {name : Str} {r : V → List V → Hp → VK → Prop} {o e : Expr} {es : List Expr} {to : TE} {t : TA} {apos cpos : Pos} (pa : PlainAttrs T) (slot : Slot T name id) (hty : typeOf (.builtin id) = pure (.type "method_descriptor")) (hm : MtR X id r) (ho : PE X o to) (ha : PA X (e :: es) t) (hk : X.K = K := by rfl)
    (hbase : attributeBase o name X.env (eval o X.env) = eval o X.env := by rfl)
    (hfew : ((backTo cpos (starEach (e :: es) X.env)).all (fun x => !x.1) && (backToKw cpos (keywordEach [] X.env)).all (fun x => x.1.isSome) && decide ((e :: es).length + ([] : List Keyword).length + (if ([] : List Keyword).isEmpty then 0 else 1) < 30)) = true := by rfl)
    (hline : (apos.endLine == cpos.line) = true := by rfl) (hs : starEach (e :: es) X.env = (false, eval e X.env) :: starEach es X.env := by rfl) (hplain : (backTo cpos (starEach es X.env)).any (·.1) = false := by rfl) :
    PE X (.Call (.Attribute o name apos) (e :: es) [] cpos) (tBM K T r to t) := by
  subst hk
  exact pe_bm pa slot hty hm ho ha hbase hfew hline hs hplain
/-! generator expressions whose element is anything that PE serves: the generator's own frame as a context -/
abbrev Cx.gblk (X : Cx) (s : Shared) (H : Hp) (scope : Scope) (C : Addr) (code : Value) (fp : List Addr) : Cx :=
  { X with A := X.A.in1.in1.in1.in1.deeper (genEnv scope (cloFrom X.env.cells scope.names []) C code builtinsNs X.env), s_0 := s, H_0 := H, env := genEnv scope (cloFrom X.env.cells scope.names []) C code builtinsNs X.env, outer := X.stack, stack := (genEnv scope (cloFrom X.env.cells scope.names []) C code builtinsNs X.env) :: X.stack, ex := fp, fn := fun x => scope.names.lookup x == some .cell, pn := [], xe := fun _ _ => False }
theorem over_gen {A : Around} {elt : Expr} {gs : List Comprehension} {sc : Scope} {pos : Pos} {it acc : Value} {env : Env} : A.over (.compLoop (.GeneratorExp elt gs sc pos) 0 it acc env) [] = A.deeper env := by
  first
    | rfl
    | (obtain ⟨hd, d, fr, gd, u⟩ := A; simp [Around.over, Around.deeper, marksOver, frameCount, unitsOf, envsOf, guardsOf, pushEnvs, pushGuards, Code.envs, Code.env?, Code.isFrame, Code.guards, Code.isGuard, Code.weight, Code.frames, Code.isCreation, Code.isCaller, Code.cUnits])
theorem over_gen0 {A : Around} {elt : Expr} {gs : List Comprehension} {sc : Scope} {pos : Pos} {it acc : Value} {env : Env} : A.over (.compStart (.GeneratorExp elt gs sc pos) 0 it acc env) [] = A.deeper env := by
  first
    | rfl
    | (obtain ⟨hd, d, fr, gd, u⟩ := A; simp [Around.over, Around.deeper, marksOver, frameCount, unitsOf, envsOf, guardsOf, pushEnvs, pushGuards, Code.envs, Code.env?, Code.isFrame, Code.guards, Code.isGuard, Code.weight, Code.frames, Code.isCreation, Code.isCaller, Code.cUnits])
theorem Room.gen {k : Nat} {A : Around} (r : Room (k + 1) A) (env : Env) : Room k (A.in1.in1.in1.in1.deeper env) :=
  ⟨r.hd, by have := r.dp; show A.depth + 1 + 3 * k + 5 < _; omega, by have := r.un; show A.units + 1 + 1 + 1 + 1 + 3 + 16 * k + 200 < _; omega⟩
/-- the names of a generator expression: as a block's, none of them a cell of its own -/
structure GenOk (N : List Str) (sc scope : Scope) (own : List (Str × Nat)) : Prop where
  blk : BlkOk N sc scope own
  co : scope.isCoroutine = false
  cel : ∀ y ∈ scope.names, y.2 ≠ .cell
  dot : scope.names.lookup (".0" : Str) = some NameKind.local
theorem genOk_by {N : List Str} {sc scope : Scope} {own : List (Str × Nat)} (h : blkC N sc scope own = true) (co : scope.isCoroutine = false) (cel : (scope.names.all fun y => y.2 != .cell) = true) (dot : scope.names.lookup (".0" : Str) = some NameKind.local) : GenOk N sc scope own := by
  refine ⟨blkOk_by h, co, fun y hy e => ?_, dot⟩
  have := List.all_eq_true.mp cel y hy
  rw [e] at this
  cases this
section
variable {X : Cx} {pins : List (Addr × Obj)} {σ : L2.St} {H : Hp} {s : Shared}
theorem gen_start {scope : Scope} {own : List (Str × Nat)} {fp : List Addr} {code : Value} {h' : Heap} {go : Obj} {G : Array GenState} {tk : Nat} {it : Value} (I : Inv X pins σ H s) (ok : GenOk X.N X.env.scope scope own) (hN : X.N.Nodup) (hfp : ∀ b ∈ fp, FpOk X pins H b ∧ b < s.heap.objs.size)
    (hns : h'.Ns s.heap.objs.size (fun y => if y = ".0" then some it else none)) (sb : Heap.SameBut s.heap.objs.size (s.heap.push { cls := .type "frame", data := .dict #[] }) h') (hG : AllBare G) (hgo : (h'.push go).get? h'.objs.size = some go) (hgd : ∀ v, go.data ≠ .cell v) :
    Inv (Cx.gblk X s H scope s.heap.objs.size code fp) [(h'.objs.size, go)] (wipe σ (own.map (·.2))) H { s with gens := G, toks := tk, heap := h'.push go } := by
  have hfree : ∀ y ∈ scope.names, y.2 = .free → ∃ c, X.env.cells.lookup y.1 = some c := fun y hy e => by
    rcases ok.blk.free y hy e with k | k
    · exact I.ok.has _ (.inl k)
    · exact I.ok.has _ (.inr k)
  have szh : h'.objs.size = s.heap.objs.size + 1 := by rw [sb.1, Heap.size_push]
  have kp : ∀ b o, s.heap.get? b = some o → (h'.push go).get? b = some o := fun b o e => Heap.get?_push_of_some _ (sb.extBut b o (Nat.ne_of_lt (Heap.lt_size e)) (Heap.get?_push_of_some _ e))
  have cm : ∀ {y c}, (cloFrom X.env.cells scope.names []).lookup y = some c → X.env.cells.lookup y = some c ∧ c < s.heap.objs.size ∧ (y, NameKind.free) ∈ scope.names := fun {y c} e => by
    rcases cloFrom_mem (PySem.mem_of_lookup e) with hm | ⟨h1, rfl⟩
    · cases hm
    · obtain ⟨c, hc⟩ := hfree _ h1 rfl
      rw [hc]
      obtain ⟨w, z⟩ := I.cell _ _ hc
      exact ⟨rfl, z.lt, h1⟩
  have look : ∀ {y}, scope.names.lookup y = some .free → ∃ c, (cloFrom X.env.cells scope.names []).lookup y = some c ∧ X.env.cells.lookup y = some c := fun {y} hl => by
    have hy : (y, NameKind.free) ∈ scope.names := PySem.mem_of_lookup hl
    obtain ⟨c', e'⟩ := mem_lookup (cloFrom_has (cells := X.env.cells) (acc := []) hy)
    exact ⟨c', e', (cm e').1⟩
  have okB : (Cx.gblk X s H scope s.heap.objs.size code fp).Ok := by
    refine ⟨I.ok.mod, ok.blk.kind, I.ok.glob, rfl, Nat.le_refl _, fun y z c e1 e2 => I.ok.inj y z c (cm e1).1 (cm e2).1, fun y hy => ?_, fun y c z e => ?_, I.ok.hd, ?_, .inr ⟨rfl, rfl⟩, fun b hb => ⟨?_, fun y c e z => ?_⟩, I.bs, Nat.le_trans I.ok.bsz I.sz, fun b o e hb => ?_, fun b hb z => ?_, I.stack, I.stkFree⟩
    · rcases hy with hy | hy
      · have hy : scope.names.lookup y = some .cell := hy
        exact absurd rfl (ok.cel _ (PySem.mem_of_lookup hy))
      · obtain ⟨c, h1, _⟩ := look (y := y) hy
        exact ⟨c, h1⟩
    · have z : (scope.names.lookup y == some NameKind.cell) = true := z
      have z : scope.names.lookup y = some .cell := by simpa using z
      exact absurd rfl (ok.cel _ (PySem.mem_of_lookup z))
    · show (X.A.frames.map (_ :: ·)) = some (_ :: X.stack)
      rw [I.ok.frames]
      rfl
    · exact Nat.ne_of_lt (hfp b hb).2
    · exact (hfp b hb).1.2.2.2.2.1 y c (cm e).1 z
    · rcases (hfp b hb).1.2.2.2.1 with z | z
      · exact I.ok.noex b o e z
      · exact absurd (Nat.lt_of_lt_of_le (Heap.lt_size e) (Nat.le_trans I.ok.bsz z)) (Nat.lt_irrefl _)
    · rcases List.mem_cons.mp (I.stkSub b z) with z | z
      · exact (hfp b hb).1.2.1 z
      · exact (hfp b hb).1.2.2.1 z
  refine ⟨okB, rfl, hG, Un.kept kp, ⟨_, hns.push go, fun i y av e1 e2 e3 => ?_⟩, fun y c e => ?_, I.hok.fresh (Nat.le_refl _), fun y c e => I.freeC y c (cm e).1, fun p hp => ?_, I.hok.kept kp, by rw [wipe_length]; exact I.len⟩
  · obtain ⟨e2, hne⟩ := wipe_some e2
    have e3 : Vis scope y := e3
    have hfr : scope.names.lookup y = some .free := by
      have no : ∀ k, scope.names.lookup y = some k → (k = .local ∨ k = .cell) → False := fun k e hh => by
        rcases ok.blk.own _ (PySem.mem_of_lookup e) hh with e' | e'
        · obtain ⟨p, hp, hpy⟩ := List.mem_map.mp e'
          have e3 := ok.blk.ix p hp
          have : p.1 = y := hpy
          rw [this] at e3
          exact hne (List.mem_map.mpr ⟨p, hp, nodup_ix hN e3 e1⟩)
        · exact e' (List.mem_of_getElem? e1)
      rcases e3 with e3 | e3 | e3
      · exact (no _ e3 (.inl rfl)).elim
      · exact (no _ e3 (.inr rfl)).elim
      · exact e3
    obtain ⟨m, hn, hl⟩ := I.loc
    have hvis : Vis X.env.scope y := (ok.blk.free _ (PySem.mem_of_lookup hfr) rfl).elim (fun k => .inr (.inl k)) (fun k => .inr (.inr k))
    obtain ⟨w, r, q⟩ := hl i y av e1 e2 hvis
    refine ⟨w, r, .inr ⟨.inr hfr, ?_⟩⟩
    obtain ⟨c, h1, h2⟩ := look hfr
    rcases q with ⟨k, _⟩ | ⟨_, c', e', z⟩
    · have k : X.env.scope.names.lookup y = some .local := k
      rcases ok.blk.free _ (PySem.mem_of_lookup hfr) rfl with k' | k' <;> rw [show X.env.scope.names.lookup y = _ from k'] at k <;> cases k
    · rw [h2] at e'; cases e'
      exact ⟨c, h1, z.keeps kp⟩
  · obtain ⟨w, z⟩ := I.cell y c (cm e).1
    exact ⟨w, z.keeps kp⟩
  · have hp : p = (h'.objs.size, go) := by simpa using hp
    subst hp
    have ge : s.heap.objs.size ≤ h'.objs.size := by omega
    refine ⟨hgo, I.hok.fresh ge, by show h'.objs.size ≠ s.heap.objs.size; omega, fun z => ?_, hgd⟩
    rcases List.mem_cons.mp (I.stkSub _ z) with z | z
    · have z : h'.objs.size = X.env.locals := z
      exact Nat.ne_of_lt (Nat.lt_of_lt_of_le I.lt ge) z.symm
    · exact I.nofs ge z
end
section
/-- what the consumer holds beside, what it is told, where it goes on, the end -/
structure GPar where
  ext : List V → List (Addr × Obj) → Prop
  yld : List V → V → Hp → Prop
  go : List V → V → Hp → Prop
  fin : List V → Hp → Prop
def YG (Y : Cx) (ga : Addr) (go : Obj) (p : GPar) : Protocol := fun _ _ v s kap => ∃ (ys : List V) (y : V) (H' : Hp) (ps pf : List (Addr × Obj)) (σ' : L2.St), RelV y v ∧ p.ext ys ps ∧ (∀ q ∈ pf, q.1 < Y.env.locals) ∧ Inv Y (((ga, go) :: ps) ++ pf) σ' H' s ∧ p.yld ys y H' ∧
  ∀ s' ps', p.ext (ys ++ [y]) ps' → Inv Y (((ga, go) :: ps') ++ pf) σ' H' s' → p.go ys y H' → kap (.send .none) s'
def RG (Y : Cx) (ga : Addr) (go : Obj) (p : GPar) : Shared → Prop := fun s => ∃ (ys : List V) (H' : Hp) (ps : List (Addr × Obj)) (σ' : L2.St), p.ext ys ps ∧ Inv Y ((ga, go) :: ps) σ' H' s ∧ p.fin ys H'
theorem gen_loop {Y : Cx} {A : Around} {ga : Addr} {go : Obj} {p : GPar} {elt tg iter : Expr} {ifs : List Expr} {scope : Scope} {pos : Pos} {it : Addr} {fp : List Addr} {tn : Nat → Heap → Prop} {J : It} {g : TG} {tt : TT} {te : TE} {σ : L2.St} {vs : List Nat} {W : List V → Nat → Nat → Hp → Prop}
    (hcal : Y.calm = true) (hpn : Y.pn = []) (T : Turn Y.prog Y.w Y.K tg J fp it tn) (hpg : PG Y tg g) (hpt : PTs Y ifs tt) (hpe : PE Y elt te) (hxe : Y.xe = fun _ _ => False)
    (hA : A.over (.compLoop (.GeneratorExp elt [⟨tg, iter, ifs, 0⟩] scope pos) 0 (.ref it) .none Y.env) [] = Y.A) (hex : ∀ b ∈ fp, b ∈ Y.ex) (hga : ∀ b ∈ fp, ga ≠ b) (hext : ∀ ys ps, p.ext ys ps → ∀ q ∈ ps, ∀ b ∈ fp, q.1 ≠ b) (hco : Y.env.scope.isCoroutine = false) (hfl : ∀ b ∈ fp, b < Y.env.locals)
    (step : ∀ ys i m H, W ys i m H → (J.stop i H ∧ p.fin ys H) ∨ (J.go i H ∧ ∃ Nx : List V → Hp → Prop, (∀ ys' H', Nx ys' H' → ∃ m', m' < m ∧ W ys' (i + 1) m' H') ∧ ∀ x H', J.yld i H x H' → g x (wipe σ vs) H' fun σ2 H2 => wipe σ2 vs = wipe σ vs ∧ tt σ2 H2 fun b H3 =>
      if b = true then te σ2 H3 fun y H4 => p.yld ys y H4 ∧ (p.go ys y H4 → Nx (ys ++ [y]) H4) else Nx ys H3)) :
    ∀ (m n i : Nat) (ys : List V) (H : Hp) (ps : List (Addr × Obj)) (s₀ s : Shared), m < n → W ys i m H → p.ext ys ps → Inv Y ((ga, go) :: ps) (wipe σ vs) H s → tn i s.heap → (∀ b ∈ fp, H b = none) →
      Seg (model Y.prog Y.w) A (fun n s₀ r s₁ => r = .ok .next ∧ (fun _ _ s => RG Y ga go p s) n s₀ s₁) (YG Y ga go p) n s₀ (.compLoop (.GeneratorExp elt [⟨tg, iter, ifs, 0⟩] scope pos) 0 (.ref it) .none Y.env)
        ((model Y.prog Y.w).den (.compLoop (.GeneratorExp elt [⟨tg, iter, ifs, 0⟩] scope pos) 0 (.ref it) .none Y.env)) [] s := by
  intro m
  induction m using Nat.strongRecOn with
  | ind m ih =>
  intro n i ys H ps s₀ s hmn w0 ex0 I0 st0 n0
  have stat : ∀ {σ' : L2.St} {H' : Hp} {s' : Shared} {ys' ps'}, p.ext ys' ps' → Inv Y ((ga, go) :: ps') σ' H' s' → (∀ b ∈ fp, H' b = none) → ∀ b ∈ fp, FpOk Y ((ga, go) :: ps') H' b := fun {σ' H' s' ys' ps'} e' I' hn b hb =>
    ⟨hn b hb, (I'.ok.exf b (hex b hb)).1, I'.ok.exfs b (hex b hb), .inl (hex b hb), fun x c e => (I'.ok.exf b (hex b hb)).2 x c e, fun q hq => by
      rw [hpn, List.nil_append] at hq
      rcases List.mem_cons.mp hq with z | z
      · rw [z]; exact hga b hb
      · exact hext _ _ e' q z b hb⟩
  show Seg _ A _ _ _ s₀ _ ((compTurn (.GeneratorExp elt [⟨tg, iter, ifs, 0⟩] scope pos) 0 (.ref it) .none Y.env).onRaise (leaving Y.env)) [] s
  rw [compTurn_gen, Sem.onRaise_eq_wrap]
  refine seg_bind_wrap (wpAny_standAt ?_)
  rcases step ys i m H w0 with ⟨stop, qf⟩ | ⟨gon, Nx, hNx, turn⟩
  · refine seg_bind_wrap ?_
    rw [hA]
    refine thnF (T.done Y rfl rfl rfl hcal i _ s _ H (fun _ _ => False) I0 (stat ex0 I0 n0) st0 stop) fun r s6 ⟨hr, I6⟩ => ?_
    subst hr
    exact seg_end (.ok .next) ⟨rfl, ys, H, ps, _, ex0, I6, qf⟩
  · refine seg_bind_wrap ?_
    rw [hA]
    refine thnF (T.item Y rfl rfl rfl hcal i _ s _ H (fun _ _ => False) I0 (stat ex0 I0 n0) st0 gon) fun r s6 ⟨u, hr, h6⟩ => ?_
    subst hr
    refine seg_bind_wrap ?_
    rw [hA]
    refine thnF h6 fun _ s7 ⟨x, H7, I7, r7, y7, st7, n7⟩ => ?_
    have I7' := I7.pinned (stat ex0 I7 n7) (T.obj _ _ st7)
    refine seg_bind_wrap ?_
    rw [hA]
    have fx : ∀ {α : Type} {t : Sem α} {Q : α → Shared → Prop} {s : Shared}, wpAny (model Y.prog Y.w) Y.A t Q Y.xe s → wpAny (model Y.prog Y.w) Y.A t Q (fun _ _ => False) s := fun h => by rw [hxe] at h; exact h
    refine thnF (fx (hpg.run _ s7 _ H7 x u _ I7' r7 (turn x H7 y7))) fun _ s8 ⟨σ8, H8, I8, hw8, q8⟩ => ?_
    refine seg_bind_wrap ?_
    rw [hA]
    refine thnF (fx (hpt.run _ s8 σ8 H8 _ I8 q8)) fun b s9 ⟨H9, I9, q9⟩ => ?_
    have fin : ∀ {s' : Shared} {H' : Hp} {ys' ps' m'}, m' < m → ∀ {n' : Nat} {s₀' : Shared}, m' < n' → p.ext ys' ps' → Inv Y (((ga, go) :: ps') ++ pinsAt fp s7.heap) σ8 H' s' → W ys' (i + 1) m' H' → Seg (model Y.prog Y.w) A (fun n s₀ r s₁ => r = .ok .next ∧ (fun _ _ s => RG Y ga go p s) n s₀ s₁) (YG Y ga go p) n' s₀' (.compLoop (.GeneratorExp elt [⟨tg, iter, ifs, 0⟩] scope pos) 0 (.ref it) .none Y.env)
        ((model Y.prog Y.w).den (.compLoop (.GeneratorExp elt [⟨tg, iter, ifs, 0⟩] scope pos) 0 (.ref it) .none Y.env)) [] s' := fun {s' H' ys' ps' m'} hm {n' s₀'} hn e' I' w' => by
      have pin' : ∀ b ∈ fp, ∀ o, s7.heap.get? b = some o → s'.heap.get? b = some o ∧ H' b = none := fun b hb o e =>
        let z := I'.pin (b, o) (List.mem_append_right _ (List.mem_append_right _ (mem_pinsAt hb e)))
        ⟨z.1, z.2.1⟩
      have hl : (wipe σ vs).length = σ8.length := by rw [← hw8, wipe_length]
      have I2 : Inv Y ((ga, go) :: ps') σ8 H' s' := I'.pins_of fun q hq => I'.pin q (List.mem_append_right _ (List.mem_append_left _ hq))
      refine ih m' hm n' (i + 1) ys' H' ps' s₀' s' hn w' e' (I2.weak hl fun j v e => ?_) (T.keep _ _ _ st7 fun b hb o e => (pin' b hb o e).1) fun b hb => ?_
      · rw [← hw8] at e
        exact (wipe_some e).1
      · obtain ⟨o, e, _⟩ := T.obj _ _ st7 b hb
        exact (pin' b hb o e).2
    cases b with
    | false =>
      simp only [Bool.false_eq_true, if_false] at q9 ⊢
      obtain ⟨m', hm, w'⟩ := hNx _ _ q9
      exact seg_again rfl (fin hm (by omega) ex0 I9 w')
    | true =>
      simp only [if_true] at q9 ⊢
      have hy : ∀ v, yieldOut Y.env v = yieldValue v := fun v => by simp only [yieldOut, hco, Bool.false_eq_true, if_false]
      simp only [hy]
      rw [Sem.bind_eq_wrap', Sem.bind_eq_wrap', Sem.wrap_wrap, Sem.wrap_wrap]
      refine seg_wrap ?_
      rw [hA]
      refine thnF (fx (hpe.run _ s9 σ8 H9 _ I9 q9)) fun z s10 ⟨yv, H10, I10, r10, yl, cont⟩ => ?_
      obtain ⟨n, rfl⟩ : ∃ k, n = k + 1 := ⟨n - 1, by omega⟩
      refine seg_at (seg_yield rfl rfl rfl ⟨ys, yv, H10, ps, pinsAt fp s7.heap, σ8, r10, ex0, fun q hq => hfl _ (of_pinsAt hq).1, I10, yl, fun s' ps' e' I' go' => ?_⟩)
      obtain ⟨m', hm, w'⟩ := hNx _ _ (cont go')
      exact seg_again rfl (fin hm (by omega) e' I' w')
theorem gen_begin {Y : Cx} {A : Around} {elt tg iter : Expr} {ifs : List Expr} {scope : Scope} {pos : Pos} {it : Addr} {R : GenEnd} {Yp : Protocol} {n : Nat} {s₀ s : Shared} {cenv : Env}
    (self : ∀ (B : Around) (Q : Value → Shared → Prop) (E : Value → Shared → Prop), Q (.ref it) s → wpAny (model Y.prog Y.w) B (pyIter (.ref it)) Q E s)
    (loop : Seg (model Y.prog Y.w) A R Yp n s₀ (.compLoop (.GeneratorExp elt [⟨tg, iter, ifs, 0⟩] scope pos) 0 (.ref it) .none cenv) ((model Y.prog Y.w).den (.compLoop (.GeneratorExp elt [⟨tg, iter, ifs, 0⟩] scope pos) 0 (.ref it) .none cenv)) [] s) :
    Seg (model Y.prog Y.w) A R Yp n s₀ (.compStart (.GeneratorExp elt [⟨tg, iter, ifs, 0⟩] scope pos) 0 (.ref it) .none cenv) ((model Y.prog Y.w).den (.compStart (.GeneratorExp elt [⟨tg, iter, ifs, 0⟩] scope pos) 0 (.ref it) .none cenv)) [] s := by
  show Seg _ A _ _ _ s₀ _ ((compStart (.GeneratorExp elt [⟨tg, iter, ifs, 0⟩] scope pos) 0 (.ref it) .none cenv).onRaise (leaving cenv)) [] s
  unfold compStart
  rw [Sem.onRaise_eq_wrap]
  show Seg _ A _ _ _ s₀ _ ((ask >>= _).wrap _ _ _ _) [] s
  refine seg_bind_wrap (wpAny_askSetting ?_)
  split
  · exact seg_again rfl loop
  · first
      | exact seg_bind_wrap (wpAny_rule (seg_bind_wrap (wpAny_standAt (seg_bind_wrap (self _ _ _ (seg_again rfl loop))))))
      | (refine seg_bind_wrap (wpAny_rule ?_); show Seg _ A _ _ _ s₀ _ ((standAt iter.pos >>= _).wrap _ _ _ _) [] s; exact seg_bind_wrap (wpAny_standAt (seg_bind_wrap (self _ _ _ (seg_again rfl loop)))))
end
section
def GAt (X Y : Cx) (ga : Addr) (gi : Nat) (go : Obj) (p : GPar) (n : Nat) (s : Shared) : Prop := s.heap.IsGen ga gi ∧ s.heap.NoLimit ∧ ∃ gs, s.gens[gi]? = some gs ∧
  gs.Goes (model X.prog X.w) X.A.in1.in1.in1.in1 (fun n s₀ r s₁ => r = .ok .next ∧ (fun _ _ s => RG Y ga go p s) n s₀ s₁) (YG Y ga go p) n (.send .none) (s.setGen gi .running)
theorem inv_gens {Y : Cx} {pins : List (Addr × Obj)} {σ : L2.St} {H : Hp} {s : Shared} {G : Array GenState} (I : Inv Y pins σ H s) (hG : AllBare G) : Inv Y pins σ H { s with gens := G } :=
  I.call (g' := G) (t' := s.toks) (d' := s.drawn) (ch := []) Un.refl I.hok hG (fun b z => by simp at z)
theorem inv_setGen {Y : Cx} {pins : List (Addr × Obj)} {σ : L2.St} {H : Hp} {s : Shared} {gi : Nat} {x : GenState} (I : Inv Y pins σ H s) (hx : x.bare = true) : Inv Y pins σ H (s.setGen gi x) :=
  inv_gens I (allBare_setGen I.bare hx)
theorem gat_next {X Y : Cx} {ga : Addr} {gi : Nat} {go : Obj} {p : GPar} {n : Nat} {s : Shared} {E : Value → Shared → Prop} (hh : X.A.handled = none) (hroom : X.A.depth < recursionLimit) (hpr : Y.prog = X.prog) (hw : Y.w = X.w)
    (hgo : ∀ h : Heap, h.get? ga = some go → h.IsGen ga gi) (h : GAt X Y ga gi go p n s) :
    wpAny (model X.prog X.w) X.A.in1.in1.in1 (pyNext (.ref ga)) (fun r s' =>
      (∃ v, r = some v ∧ ∃ (ys : List V) (y : V) (H' : Hp) (ps pf : List (Addr × Obj)) (σ' : L2.St), RelV y v ∧ p.ext ys ps ∧ (∀ q ∈ pf, q.1 < Y.env.locals) ∧ Inv Y (((ga, go) :: ps) ++ pf) σ' H' s' ∧ p.yld ys y H' ∧
        ∀ s'' ps', p.ext (ys ++ [y]) ps' → Inv Y (((ga, go) :: ps') ++ pf) σ' H' s'' → s''.gens = s'.gens → p.go ys y H' → ∃ m, n = m + 1 ∧ GAt X Y ga gi go p m s'') ∨
      (r = none ∧ RG Y ga go p s')) E s := by
  obtain ⟨hg, hl, gs, hgs, hgoes⟩ := h
  have hgl : gi < s.gens.size := (Array.getElem?_eq_some_iff.mp hgs).1
  refine wpAny_mono (GenW.wpAny_gsz (n := gi + 1) hgl (wpAny_pyNext_genexpQ (A := X.A.in1.in1.in1) (P := fun _ _ s => RG Y ga go p s) (Q := fun r s' => gi + 1 ≤ s'.gens.size → _) hh hl hroom hg hgs hgoes (fun v s₁ gs' hb hv => ?_) (fun s₁ hp h' hk => ?_))) (fun r s' z => z) (fun _ _ z => z)
  · intro hsz
    obtain ⟨ys, y, H', ps, pf, σ', rv, ex, pl, I, yl, kap⟩ := hv
    refine .inl ⟨v, rfl, ys, y, H', ps, pf, σ', rv, ex, pl, inv_setGen I hb, yl, fun s'' ps' ex' I' eg go' => ?_⟩
    have hsz1 : gi < s₁.gens.size := by
      have q : (s₁.setGen gi gs').gens.size = s₁.gens.size := GenW.setGen_size _ _ _
      have hsz' : gi + 1 ≤ (s₁.setGen gi gs').gens.size := hsz
      omega
    have k := kap (s''.setGen gi .running) ps' ex' (inv_setGen I' rfl) go'
    cases n with
    | zero => exact k.elim
    | succ m =>
      refine ⟨m, rfl, hgo _ (I'.pin (ga, go) (List.mem_append_right _ (List.mem_append_left _ List.mem_cons_self))).1, I'.nolimit, gs', ?_, k⟩
      rw [eg]
      exact setGen_at hsz1
  · intro _
    obtain ⟨ys, H', ps, σ', ex, I, fi⟩ := hp
    refine .inr ⟨rfl, ys, H', ps, σ', ex, ?_, fi⟩
    exact I.call' (s' := { s₁.setGen gi .finished with heap := h' }) (ch := []) rfl (Un.kept hk) (I.hok.kept hk) (allBare_setGen I.bare rfl) (fun b z => by simp at z)
theorem entry_all2 : entryFor table "all" = some Builtin.«all» := PySem.F.entry_all
/-- all(g): the consumer's loop -/
theorem all_loop {X Y : Cx} {ga : Addr} {gi : Nat} {go : Obj} {p : GPar} {R : Result → Shared → Prop} (hh : X.A.handled = none) (hroom : X.A.depth < recursionLimit) (hpr : Y.prog = X.prog) (hw : Y.w = X.w) (hgo : ∀ h : Heap, h.get? ga = some go → h.IsGen ga gi)
    (hext : ∀ ys, p.ext ys []) (hext2 : ∀ ys ps, p.ext ys ps → ps = []) (hy : ∀ ys y H, p.yld ys y H → ∃ b, y = .bl b ∧ (b = true → p.go ys y H))
    (hno : ∀ ys H' pf σ' s', p.yld ys (.bl false) H' → Inv Y ((ga, go) :: pf) σ' H' s' → R (.ok (.ret (.bool false))) s') (hyes : ∀ ys H' σ' s', p.fin ys H' → Inv Y [(ga, go)] σ' H' s' → R (.ok (.ret (.bool true))) s') :
    ∀ (n : Nat) (s : Shared), GAt X Y ga gi go p n s → codeAny (model X.prog X.w) X.A (.builtin "all.loop" ⟨[.ref ga], []⟩) R s := by
  intro n
  induction n with
  | zero =>
    intro s h
    refine codeAny_builtin PySem.F.entry_all_loop ?_
    rw [Around.under_plainId PySem.F.plain_all_loop _]
    show wpAny _ X.A.in1 (pyNext (.ref ga) >>= _) _ _ s
    refine wpAny_bind (wpAny_of_in1 (wpAny_of_in1 (wpAny_mono (gat_next hh hroom hpr hw hgo h) (fun r s' z => ?_) fun _ _ e => e)))
    rcases z with ⟨v, rfl, ys, y, H', ps, pf, σ', rv, ex, _, I, yl, k⟩ | ⟨rfl, ys, H', ps, σ', ex, I, fi⟩
    · obtain ⟨b, rfl, gob⟩ := hy _ _ _ yl
      obtain rfl : v = Value.bool b := rv
      obtain rfl := hext2 _ _ ex
      refine wpAny_bind (wpAny_holding (wpAny_truthy_bool ?_))
      refine wpAny_bind (wpAny_letGo ?_)
      cases b with
      | true =>
        obtain ⟨m, hm, _⟩ := k s' [] (hext _) I rfl (gob rfl)
        exact absurd hm (by omega)
      | false =>
        simp only [Bool.false_eq_true, if_false]
        exact wpAny_bind (wpAny_rule (wpAny_pure (hno _ _ _ _ _ yl I)))
    · obtain rfl := hext2 _ _ ex
      exact wpAny_bind (wpAny_rule (wpAny_pure (hyes _ _ _ _ fi I)))
  | succ n ih =>
    intro s h
    refine codeAny_builtin PySem.F.entry_all_loop ?_
    rw [Around.under_plainId PySem.F.plain_all_loop _]
    show wpAny _ X.A.in1 (pyNext (.ref ga) >>= _) _ _ s
    refine wpAny_bind (wpAny_of_in1 (wpAny_of_in1 (wpAny_mono (gat_next hh hroom hpr hw hgo h) (fun r s' z => ?_) fun _ _ e => e)))
    rcases z with ⟨v, rfl, ys, y, H', ps, pf, σ', rv, ex, _, I, yl, k⟩ | ⟨rfl, ys, H', ps, σ', ex, I, fi⟩
    · obtain ⟨b, rfl, gob⟩ := hy _ _ _ yl
      obtain rfl : v = Value.bool b := rv
      obtain rfl := hext2 _ _ ex
      refine wpAny_bind (wpAny_holding (wpAny_truthy_bool ?_))
      refine wpAny_bind (wpAny_letGo ?_)
      cases b with
      | true =>
        obtain ⟨m, hm, g2⟩ := k s' [] (hext _) I rfl (gob rfl)
        obtain rfl : m = n := by omega
        simp only [if_true]
        exact wpAny_pure ⟨plainId_quiet PySem.F.plain_all_loop _, ih _ g2⟩
      | false =>
        simp only [Bool.false_eq_true, if_false]
        exact wpAny_bind (wpAny_rule (wpAny_pure (hno _ _ _ _ _ yl I)))
    · obtain rfl := hext2 _ _ ex
      exact wpAny_bind (wpAny_rule (wpAny_pure (hyes _ _ _ _ fi I)))
end
section
variable {X : Cx} {pins : List (Addr × Obj)} {σ : L2.St} {H : Hp} {s : Shared}
theorem gen_mk {c P : Addr} {elt tg iter : Expr} {ifs : List Expr} {scope : Scope} {own : List (Str × Nat)} {gpos : Pos} {wi : TI} {g : TG} {tt : TT} {te : TE} {k : Nat} {R : It → Hp → Prop} {Q' : Value → Shared → Prop}
    (hr : Room (k + 1) X.A) (hc : X.calm = true) (hN : X.N.Nodup) (TB : GxR.TabB X.base X.mg c P) (hcode : X.env.code = .ref c) (ok : GenOk X.N X.env.scope scope own) (hi : PI X tg iter wi)
    (hg : ∀ (s : Shared) (H : Hp) (C : Addr) (code : Value) (fp : List Addr), Room k (Cx.gblk X s H scope C code fp).A → PG (Cx.gblk X s H scope C code fp) tg g)
    (ht : ∀ (s : Shared) (H : Hp) (C : Addr) (code : Value) (fp : List Addr), Room k (Cx.gblk X s H scope C code fp).A → PTs (Cx.gblk X s H scope C code fp) ifs tt)
    (he : ∀ (s : Shared) (H : Hp) (C : Addr) (code : Value) (fp : List Addr), Room k (Cx.gblk X s H scope C code fp).A → PE (Cx.gblk X s H scope C code fp) elt te)
    (hs : ∀ x, genFold iter X.env x = pure x) (I : Inv X pins σ H s) (h : wi σ H fun J H1 => GxR.TabG H1 P ∧ R J H1)
    (fin : ∀ (J : It) (H1 H4 : Hp) (Y : Cx) (s5 : Shared) (pf : List (Addr × Obj)) (ga : Addr) (gi : Nat) (go : Obj), R J H1 → GxR.Tabbed P H1 H4 → Y.prog = X.prog → Y.w = X.w → (∀ h : Heap, h.get? ga = some go → h.IsGen ga gi) → s5.heap.objs.size = ga + 1 → Y.s_0.heap.objs.size ≤ Y.env.locals → Y.pn = [] →
      Inv Y ([(ga, go)] ++ pf) (wipe σ (own.map (·.2))) H4 s5 → (∀ {pins' σ' H' s'}, Inv Y pins' σ' H' s' → Inv X pins σ H' s') →
      (∀ (p : GPar) (W : List V → Nat → Nat → Hp → Prop) (m : Nat), (∀ ys ps, p.ext ys ps → ∀ q ∈ ps, s5.heap.objs.size ≤ q.1) →
        (∀ ys i m H, W ys i m H → (J.stop i H ∧ p.fin ys H) ∨ (J.go i H ∧ ∃ Nx : List V → Hp → Prop, (∀ ys' H', Nx ys' H' → ∃ m', m' < m ∧ W ys' (i + 1) m' H') ∧ ∀ x H', J.yld i H x H' → g x (wipe σ (own.map (·.2))) H' fun σ2 H2 => wipe σ2 (own.map (·.2)) = wipe σ (own.map (·.2)) ∧ tt σ2 H2 fun b H3 =>
          if b = true then te σ2 H3 fun y H4 => p.yld ys y H4 ∧ (p.go ys y H4 → Nx (ys ++ [y]) H4) else Nx ys H3)) →
        W [] 0 m H4 → ∀ s' ps, p.ext [] ps → Inv Y (((ga, go) :: ps) ++ pf) (wipe σ (own.map (·.2))) H4 s' → s'.gens = s5.gens → GAt X Y ga gi go p (m + 1) s') →
      Q' (.ref ga) s5) :
    wpAny (model X.prog X.w) X.A (eval (.GeneratorExp elt [⟨tg, iter, ifs, 0⟩] scope gpos) X.env) Q' X.xe s := by
  have hfree : ∀ y ∈ scope.names, y.2 = .free → ∃ c, X.env.cells.lookup y.1 = some c := fun y hy e => by
    rcases ok.blk.free y hy e with k | k
    · exact I.ok.has _ (.inl k)
    · exact I.ok.has _ (.inr k)
  refine wpAny_GeneratorExp_make ok.co (closure_ok hfree) ok.cel ok.dot ok.blk.kind (by have := hr.dp; omega) (thn (hi.run pins s σ H _ I h) fun xv s1 hx => thn hx fun itv s2 h2 => ?_) hs
  obtain ⟨it, fp, tn, J, H2, rfl, I2, T, st2, f2, ⟨ps, hP, trip⟩, r⟩ := h2
  refine ⟨I2.nolimit, ?_⟩
  have hPs : s2.heap.get? P = some { cls := .none, data := .fields ps } := I2.hok P _ hP
  have cd : PySem.W.CodeHd s2.heap c P := TB.code.keeps fun b u e => I2.bk b u e
  have nfP : ∀ b ∈ fp, b ≠ P := fun b hb z => by
    have := (f2 b hb).1
    rw [z, hP] at this
    cases this
  have go2 : ∀ (code : Value) (h3 : Heap) (tk : Nat) (more : Array Value), Heap.ExtBut P s2.heap h3 → h3.get? P = some { cls := .none, data := .fields (ps ++ more) } → TriplesOk (ps ++ more).toList →
      wpAny (model X.prog X.w) X.A (builtinsFor X.env.globals X.env.builtins) (fun bi s₄ => ∀ h', h'.Ns s₄.heap.objs.size (fun y => if y = ".0" then some (.ref it) else none) → Heap.SameBut s₄.heap.objs.size (s₄.heap.push { cls := .type "frame", data := .dict #[] }) h' →
          Q' (.ref h'.objs.size) { s₄ with
            gens := s₄.gens.push (.fresh (.compStart (.GeneratorExp elt [⟨tg, iter, ifs, 0⟩] scope gpos) 0 (.ref it) .none (genEnv scope (cloFrom X.env.cells scope.names []) s₄.heap.objs.size code bi X.env))),
            toks := s₄.toks + 1 + 1 + 1,
            heap := h'.push { cls := .type "generator", data := .fields #[.int s₄.gens.size 0, .str "<genexpr>" (s₄.toks + 1), .str (X.env.qual ++ "<genexpr>") (s₄.toks + 1 + 1)] } }) X.xe { s2 with heap := h3, toks := tk } := by
    intro code h3 tk more hx hP3 trip3
    obtain ⟨bm, ob, e1, e2, e3, e4, e5, e6, e7, e8⟩ := TB.bm
    have I4 : Inv X pins σ (upd H2 P (.tbl (ps ++ more))) { s2 with heap := h3, toks := tk } := GxR.inv_tab (g' := s2.gens) (d' := s2.drawn) (t' := tk) I2 hP (fun b u hb e => hx b u hb e) hP3 I2.bare
    have tb4 : GxR.Tabbed P H2 (upd H2 P (.tbl (ps ++ more))) := ⟨⟨_, upd_same, trip3⟩, fun b hb => upd_ne hb⟩
    refine wpAny_builtinsFor (m := X.mg) (by rw [I2.ok.glob]; exact (I2.mod.glob.keeps I2.bk).extBut hx TB.gP) e1 e2 (hx _ _ e4 (I2.bk _ _ e5)) e6 e7 e8 ?_
    intro h' hn' hs'
    have f4 : ∀ b ∈ fp, FpOk X pins (upd H2 P (.tbl (ps ++ more))) b ∧ b < h3.objs.size := fun b hb => by
      obtain ⟨o, e, _⟩ := T.obj _ _ st2 b hb
      exact ⟨⟨(upd_ne (nfP b hb)).trans (f2 b hb).1, (f2 b hb).2⟩, Heap.lt_size (hx b o (nfP b hb) e)⟩
    have st4 : tn 0 h3 := T.keep _ _ _ st2 fun b hb o e => hx b o (nfP b hb) e
    generalize upd H2 P (.tbl (ps ++ more)) = H4 at I4 tb4 f4
    have szh : h'.objs.size = h3.objs.size + 1 := by rw [hs'.1]; exact Heap.size_push ..
    have main : ∀ (go : Obj) (G : Array GenState) (tk5 gi : Nat), (∀ h : Heap, h.get? h'.objs.size = some go → h.IsGen h'.objs.size gi) → (h'.push go).get? h'.objs.size = some go → (∀ v, go.data ≠ .cell v) → AllBare G →
        G[gi]? = some (.fresh (.compStart (.GeneratorExp elt [⟨tg, iter, ifs, 0⟩] scope gpos) 0 (.ref it) .none (genEnv scope (cloFrom X.env.cells scope.names []) h3.objs.size code builtinsNs X.env))) →
        Q' (.ref h'.objs.size) { s2 with gens := G, toks := tk5, heap := h'.push go } := by
      intro go G tk5 gi hgo hgo1 hgd hG hgi
      have Is := gen_start (s := { s2 with heap := h3, toks := tk }) (code := code) (tk := tk5) I4 ok hN f4 hn' hs' hG hgo1 hgd
      have hY := hg { s2 with heap := h3, toks := tk } H4 h3.objs.size code fp (Room.gen hr _)
      have tY := ht { s2 with heap := h3, toks := tk } H4 h3.objs.size code fp (Room.gen hr _)
      have eY := he { s2 with heap := h3, toks := tk } H4 h3.objs.size code fp (Room.gen hr _)
      have kp5 : ∀ b o, h3.get? b = some o → (h'.push go).get? b = some o := fun b o e => Heap.get?_push_of_some _ (hs'.extBut b o (Nat.ne_of_lt (Heap.lt_size e)) (Heap.get?_push_of_some _ e))
      have st5 : tn 0 (h'.push go) := T.keep _ _ _ st4 fun b hb o e => kp5 b o e
      have sz5 : (h'.push go).objs.size = h'.objs.size + 1 := Heap.size_push ..
      have gab : ∀ b ∈ fp, h'.objs.size ≠ b := fun b hb z => by
        have l := (f4 b hb).2
        have z : h'.objs.size = b := z
        have l2 : h3.objs.size < h'.objs.size := by rw [szh]; exact Nat.lt_succ_self _
        rw [z] at l2
        exact Nat.lt_irrefl _ (Nat.lt_trans l l2)
      have stat : ∀ b ∈ fp, FpOk (Cx.gblk X { s2 with heap := h3, toks := tk } H4 scope h3.objs.size code fp) [(h'.objs.size, go)] H4 b := fun b hb =>
        ⟨(f4 b hb).1.1, (Is.ok.exf b hb).1, Is.ok.exfs b hb, .inl hb, fun x c e => (Is.ok.exf b hb).2 x c e, fun q hq => by
          have hq : q = (h'.objs.size, go) := by simpa using hq
          rw [hq]
          exact gab b hb⟩
      have Ip := Is.pinned stat (T.obj _ _ st5)
      refine fin J H2 H4 (Cx.gblk X { s2 with heap := h3, toks := tk } H4 scope h3.objs.size code fp) _ (pinsAt fp (h'.push go)) h'.objs.size gi go r tb4 rfl rfl hgo sz5 (Nat.le_refl _) rfl Ip (fun {pins' σ' H' s'} I' => ?_) fun p W m hext step w0 s' ps' ex' I' eg => ?_
      · exact I4.call' (ch := fp) I'.os I'.base I'.hok I'.bare fun b hb => ⟨(f4 b hb).1.2.2.2.1, (f4 b hb).1.2.1, (f4 b hb).1.2.2.2.2.1, (f4 b hb).1.2.2.2.2.2⟩
      · have I2' : Inv (Cx.gblk X { s2 with heap := h3, toks := tk } H4 scope h3.objs.size code fp) ((h'.objs.size, go) :: ps') (wipe σ (own.map (·.2))) H4 s' := I'.pins_of fun q hq => I'.pin q (List.mem_append_right _ (List.mem_append_left _ hq))
        have pin' : ∀ b ∈ fp, ∀ o, (h'.push go).get? b = some o → s'.heap.get? b = some o := fun b hb o e => (I'.pin (b, o) (List.mem_append_right _ (List.mem_append_right _ (mem_pinsAt hb e)))).1
        have stn : tn 0 s'.heap := T.keep _ _ _ st5 fun b hb o e => pin' b hb o e
        have eg : s'.gens = G := eg
        rw [← eg] at hgi
        refine ⟨hgo _ (I'.pin (h'.objs.size, go) (List.mem_append_right _ (List.mem_append_left _ List.mem_cons_self))).1, I'.nolimit, _, hgi, rfl, ?_⟩
        refine gen_begin (Y := X) (fun B Q E q => T.self B 0 _ _ _ stn q) ?_
        exact gen_loop (Y := Cx.gblk X { s2 with heap := h3, toks := tk } H4 scope h3.objs.size code fp) (A := X.A.in1.in1.in1.in1) (σ := σ) (vs := own.map (·.2)) hc rfl T hY tY eY rfl over_gen (fun b hb => hb) gab
          (fun ys ps e q hq b hb z => by
            have l1 : (h'.push go).objs.size ≤ q.1 := hext ys ps e q hq
            have l2 := (f4 b hb).2
            rw [sz5, szh, z] at l1
            exact Nat.lt_irrefl _ (Nat.lt_of_lt_of_le l2 (Nat.le_of_succ_le (Nat.le_of_succ_le l1)))) ok.co (fun b hb => (f4 b hb).2) step m (m + 1) 0 [] H4 ps' _ _ (Nat.lt_succ_self m) w0 ex' (inv_setGen I2' rfl) stn fun b hb => (f4 b hb).1.1
    exact main _ _ _ _ (fun h e => ⟨_, _, _, e, rfl, rfl, rfl⟩) (Heap.get?_push_size _ rfl) (fun v z => by cases z) (AllBare.push I2.bare rfl) (Array.getElem?_push_size ..)
  cases hf : codeAmong gpos ps.toList with
  | none =>
    refine wpAny_genexprCodeX hcode (cd.code hPs trip) (cd.tab hPs) hf fun c' h' tk hx hge hlt hco' _ htab' _ => ?_
    obtain ⟨o1, vs, f1, tf, fl, tg, inF, tx, tt, op, _, _, _, _, _, _, _, _, _, htr, _⟩ := hco'
    exact go2 _ h' tk _ hx htab'.2 htr
  | some cv =>
    refine wpAny_genexprCode_hit hcode (cd.code hPs trip) hf ?_
    exact go2 cv s2.heap s2.toks #[] (Heap.ExtBut.refl _ _) (by rw [Array.append_empty]; exact hPs) (by rw [Array.append_empty]; exact trip)
/-- all(elt for tg in iter if ..) -/
def tAllE (P : Addr) (wi : TI) (g : TG) (tt : TT) (te : TE) (vs : List Nat) : TE := fun σ H Q => wi σ H fun J H1 => GxR.TabG H1 P ∧ ∀ H2, GxR.Tabbed P H1 H2 → ∃ W : Nat → Nat → Hp → Prop, (∃ m, W 0 m H2) ∧ ∀ i m H, W i m H →
  (J.stop i H ∧ Q (.bl true) H) ∨ (J.go i H ∧ ∃ Nx : Hp → Prop, (∀ H', Nx H' → ∃ m', m' < m ∧ W (i + 1) m' H') ∧ ∀ x H', J.yld i H x H' → g x (wipe σ vs) H' fun σ2 H3 => wipe σ2 vs = wipe σ vs ∧ tt σ2 H3 fun b H4 =>
    if b = true then te σ2 H4 fun y H5 => (∃ c : Bool, y = .bl c ∧ (c = false → Q (.bl false) H5)) ∧ (y = .bl true → Nx H5) else Nx H4)
theorem pe_allE {c P : Addr} {elt tg iter : Expr} {ifs : List Expr} {scope : Scope} {own : List (Str × Nat)} {p pos gpos : Pos} {wi : TI} {g : TG} {tt : TT} {te : TE} {k : Nat}
    (hr : Room (k + 1) X.A) (hgl : Gl X "all") (hm : X.mg "all" = none) (hb : bootBuiltins "all" = some (.builtin "all")) (hc : X.calm = true) (hN : X.N.Nodup) (TB : GxR.TabB X.base X.mg c P) (hcode : X.env.code = .ref c) (ok : GenOk X.N X.env.scope scope own) (hi : PI X tg iter wi)
    (hg : ∀ (s : Shared) (H : Hp) (C : Addr) (code : Value) (fp : List Addr), Room k (Cx.gblk X s H scope C code fp).A → PG (Cx.gblk X s H scope C code fp) tg g)
    (ht : ∀ (s : Shared) (H : Hp) (C : Addr) (code : Value) (fp : List Addr), Room k (Cx.gblk X s H scope C code fp).A → PTs (Cx.gblk X s H scope C code fp) ifs tt)
    (he : ∀ (s : Shared) (H : Hp) (C : Addr) (code : Value) (fp : List Addr), Room k (Cx.gblk X s H scope C code fp).A → PE (Cx.gblk X s H scope C code fp) elt te)
    (hs : ∀ x, genFold iter X.env x = pure x := by intro _; rfl)
    (hst : starEach [.GeneratorExp elt [⟨tg, iter, ifs, 0⟩] scope gpos] X.env = (false, eval (.GeneratorExp elt [⟨tg, iter, ifs, 0⟩] scope gpos) X.env) :: starEach [] X.env := by rfl) :
    PE X (.Call (.Name "all" p) [.GeneratorExp elt [⟨tg, iter, ifs, 0⟩] scope gpos] [] pos) (tAllE P wi g tt te (own.map (·.2))) := by
  constructor
  intro pins s σ H Q I h
  refine wpAny_Call_Name_kw (ld_blt I hgl hm hb (PyProof.Rows.callWith_builtin1 ?_ hst (by rfl)))
  rw [hst]
  show wpAny _ _ (spliced ((false, eval (.GeneratorExp elt [⟨tg, iter, ifs, 0⟩] scope gpos) X.env) :: backTo pos (starEach [] X.env))) _ _ s
  refine Calls.spliced_cons (gen_mk hr hc hN TB hcode ok hi hg ht he hs I h fun J H1 H4 Y s5 pf ga gi go r tb hpr hw hgo sz sl hpn I5 back goes => ?_)
  refine Calls.spliced_nil ?_
  obtain ⟨W, ⟨m, w0⟩, step⟩ := r H4 tb
  have hgen : s5.heap.IsGen ga gi := hgo _ (I5.pin (ga, go) (List.mem_append_right _ (List.mem_append_left _ List.mem_cons_self))).1
  have g0 := goes ⟨fun _ ps => ps = [], fun _ y H' => ∃ b : Bool, y = .bl b ∧ (b = false → Q (.bl false) H'), fun _ y _ => y = .bl true, fun _ H' => Q (.bl true) H'⟩ (fun _ i m H => W i m H) m (fun ys ps e q hq => by
      have e : ps = [] := e
      rw [e] at hq
      cases hq) (fun ys i m H w => (step i m H w).imp id fun ⟨a, Nx, hNx, b⟩ => ⟨a, fun _ H => Nx H, fun _ H' z => hNx H' z, fun x H' y => b x H' y⟩) w0 s5 [] rfl I5 rfl
  refine call_function_tree PySem.F.kind_all PySem.F.plain_all PySem.F.entry_all (PySem.F.args_all1 _) ?_
  unfold Builtin.«all»
  refine wpAny_bind (m := oneArg "all" _) (wpAny_pure ?_)
  refine wpAny_bind (wpAny_pyIter_gen hgen ?_)
  refine wpAny_pure ⟨plainId_quiet PySem.F.plain_all_loop _, all_loop (X := X) hr.hd (by have := hr.dp; omega) hpr hw hgo (fun _ => rfl) (fun _ _ e => e) (fun ys y H' (z : ∃ b : Bool, y = .bl b ∧ (b = false → Q (.bl false) H')) => ?_) (fun ys H' pf' σ' s' (z : ∃ b : Bool, V.bl false = .bl b ∧ (b = false → Q (.bl false) H')) I' => ?_) (fun ys H' σ' s' q I' => ?_) (m + 1) s5 g0⟩
  · obtain ⟨b, e, q⟩ := z
    exact ⟨b, e, fun z => by rw [e, z]⟩
  · obtain ⟨b, e, q⟩ := z
    cases e
    exact ⟨.bl false, H', back I', rfl, q rfl⟩
  · exact ⟨.bl true, H', back I', rfl, q⟩
end
/-- .. over what is walked as a Walk says -/
theorem ga_it {J : It} {n : Nat} {G : Hp → Prop} {Y : Nat → Hp → V → Hp → Prop} (w : Walk J n G Y) {g : TG} {tt : TT} {te : TE} {vs : List Nat} {σ : L2.St} {H2 : Hp} {Q : VK} (Pv : Nat → Hp → Prop) (h0 : Pv 0 H2) (hG : ∀ i H, i ≤ n → Pv i H → G H)
    (hs : ∀ i x H H', i < n → Pv i H → Y i H x H' → g x (wipe σ vs) H' fun σ2 H3 => wipe σ2 vs = wipe σ vs ∧ tt σ2 H3 fun b H4 => if b = true then te σ2 H4 fun y H5 => (∃ c : Bool, y = .bl c ∧ (c = false → Q (.bl false) H5)) ∧ (y = .bl true → Pv (i + 1) H5) else Pv (i + 1) H4) (hd : ∀ H, Pv n H → Q (.bl true) H) :
    ∃ W : Nat → Nat → Hp → Prop, (∃ m, W 0 m H2) ∧ ∀ i m H, W i m H →
      (J.stop i H ∧ Q (.bl true) H) ∨ (J.go i H ∧ ∃ Nx : Hp → Prop, (∀ H', Nx H' → ∃ m', m' < m ∧ W (i + 1) m' H') ∧ ∀ x H', J.yld i H x H' → g x (wipe σ vs) H' fun σ2 H3 => wipe σ2 vs = wipe σ vs ∧ tt σ2 H3 fun b H4 =>
        if b = true then te σ2 H4 fun y H5 => (∃ c : Bool, y = .bl c ∧ (c = false → Q (.bl false) H5)) ∧ (y = .bl true → Nx H5) else Nx H4) := by
  refine ⟨fun i m H => m = n - i ∧ i ≤ n ∧ Pv i H, ⟨n, by simp, Nat.zero_le _, h0⟩, ?_⟩
  rintro i m H ⟨rfl, hi, p⟩
  have q := hG i H hi p
  by_cases hlt : i < n
  · refine .inr ⟨w.goes i H hlt q, Pv (i + 1), fun H' p' => ⟨n - (i + 1), by omega, rfl, hlt, p'⟩, fun x H' y => hs i x H H' hlt p (w.yields i H x H' hlt q y)⟩
  · have e : i = n := by omega
    subst e
    exact .inl ⟨w.stops H q, hd H p⟩
/-! things whose text is short -/
mutual
def lvs (k : Nat) : PyData → Bool
  | .none | .bool _ => true
  | .int i => decide (i.natAbs < 10 ^ k)
  | .str x => x.cps.toList.all fun c => decide (c < 16 ^ 8)
  | .list xs | .tuple xs => lvsA k xs
  | .dict _ => false
def lvsA (k : Nat) : List PyData → Bool
  | [] => true
  | x :: xs => lvs k x && lvsA k xs
end
theorem log_sm {n k : Nat} (hk : k ≤ 400) (h : n < 10 ^ k) : n.log2 < 1920 := by
  by_cases z : n = 0
  · rw [z]
    decide
  · rw [Nat.log2_lt z]
    refine Nat.lt_of_lt_of_le h (Nat.le_trans (Nat.pow_le_pow_left (show 10 ≤ 2 ^ 4 by decide) k) ?_)
    rw [← Nat.pow_mul]
    exact Nat.pow_le_pow_right (by decide) (by omega)
theorem shown_k {i : Int} {k : Nat} (k0 : 0 < k) (h : i.natAbs < 10 ^ k) : (PyData.shown (.int i)).length ≤ k + 1 := by
  have e := int_text_length_le10 (k := k) k0 h
  show (Str.ofString (toString i)).length ≤ k + 1
  rw [PySem.ofString_length]
  exact e
mutual
theorem lvs_show {k : Nat} (k0 : 0 < k) (hk : k ≤ 400) : ∀ d : PyData, lvs k d = true → d.showable = true ∧ d.hasDict = false ∧ d.leavesShort (k + 1) = true
  | .none, _ => ⟨rfl, rfl, rfl⟩
  | .bool _, _ => ⟨rfl, rfl, rfl⟩
  | .int i, h => by
    have h1 : i.natAbs < 10 ^ k := by simpa only [lvs, decide_eq_true_eq] using h
    refine ⟨?_, rfl, ?_⟩
    · simp only [PyData.showable]
      exact decide_eq_true (log_sm hk h1)
    · simp only [PyData.leavesShort]
      exact decide_eq_true (shown_k k0 h1)
  | .str x, h => ⟨rfl, rfl, by simpa only [PyData.leavesShort, lvs] using h⟩
  | .list xs, h => by
    have := lvsA_show k0 hk xs (by simpa only [lvs] using h)
    simpa only [PyData.showable, PyData.hasDict, PyData.leavesShort] using this
  | .tuple xs, h => by
    have := lvsA_show k0 hk xs (by simpa only [lvs] using h)
    simpa only [PyData.showable, PyData.hasDict, PyData.leavesShort] using this
  | .dict _, h => by simp only [lvs] at h; exact nomatch h
theorem lvsA_show {k : Nat} (k0 : 0 < k) (hk : k ≤ 400) : ∀ xs : List PyData, lvsA k xs = true → PyData.showableAll xs = true ∧ PyData.hasDictAll xs = false ∧ PyData.leavesShortAll (k + 1) xs = true
  | [], _ => ⟨rfl, rfl, rfl⟩
  | x :: xs, h => by
    have h' : lvs k x = true ∧ lvsA k xs = true := by simpa only [lvsA, Bool.and_eq_true] using h
    obtain ⟨a1, a2, a3⟩ := lvs_show k0 hk x h'.1
    obtain ⟨b1, b2, b3⟩ := lvsA_show k0 hk xs h'.2
    simp only [PyData.showableAll, PyData.hasDictAll, PyData.leavesShortAll, a1, a2, a3, b1, b2, b3]
    exact ⟨rfl, rfl, rfl⟩
end
structure Sho (d : PyData) : Prop where
  s : d.showable = true
  n : d.hasDict = false
  dp : d.depth ≤ 60
  len : d.shown.length ≤ sizeLine
theorem sho_of {k : Nat} {d : PyData} (k0 : 7 ≤ k) (hk : k ≤ 400) (h : lvs k d = true) (dp : d.depth ≤ 60) (w : (k + 3) * d.weight ≤ 16000000) : Sho d := by
  obtain ⟨a, b, c⟩ := lvs_show (by omega) hk d h
  refine ⟨a, b, dp, ?_⟩
  have e : d.shown.length ≤ (k + 3) * d.weight + (k + 1) := PyData.shown_le (k + 1) (by omega) d c
  rw [sizeLine_eq]
  omega
theorem lvsA_of {k : Nat} : ∀ ds : List PyData, (∀ d, d ∈ ds → lvs k d = true) → lvsA k ds = true
  | [], _ => rfl
  | d :: ds, h => by
    simp only [lvsA, Bool.and_eq_true]
    exact ⟨h d List.mem_cons_self, lvsA_of ds fun x hx => h x (List.mem_cons_of_mem _ hx)⟩
theorem depA_of {n : Nat} : ∀ ds : List PyData, (∀ d, d ∈ ds → d.depth ≤ n) → PyData.depthAll ds ≤ n
  | [], _ => Nat.zero_le _
  | d :: ds, h => by
    have := h d List.mem_cons_self
    have := depA_of ds fun x hx => h x (List.mem_cons_of_mem _ hx)
    simp only [PyData.depthAll]
    omega
theorem weiA_of {n : Nat} : ∀ ds : List PyData, (∀ d, d ∈ ds → d.weight ≤ n) → PyData.weightAll ds ≤ ds.length * (n + 1)
  | [], _ => Nat.zero_le _
  | d :: ds, h => by
    have := h d List.mem_cons_self
    have := weiA_of ds fun x hx => h x (List.mem_cons_of_mem _ hx)
    simp only [PyData.weightAll, List.length_cons, Nat.add_mul, Nat.one_mul]
    omega
/-- short things: their leaves, depth and weight -/
structure Shs (k n w : Nat) (d : PyData) : Prop where
  l : lvs k d = true
  dp : d.depth ≤ n
  wt : d.weight ≤ w
theorem shs_all {k n w : Nat} {ds : List PyData} (h : ∀ d, d ∈ ds → Shs k n w d) : Shs k (n + 1) (ds.length * (w + 1)) (.list ds) ∧ Shs k (n + 1) (ds.length * (w + 1)) (.tuple ds) := by
  have a := lvsA_of ds fun d hd => (h d hd).l
  have b := depA_of ds fun d hd => (h d hd).dp
  have c := weiA_of ds fun d hd => (h d hd).wt
  refine ⟨⟨by simpa only [lvs] using a, ?_, by simpa only [PyData.weight] using c⟩, ⟨by simpa only [lvs] using a, ?_, by simpa only [PyData.weight] using c⟩⟩
  · simp only [PyData.depth]
    omega
  · simp only [PyData.depth]
    omega
theorem Shs.mono {k n m w v : Nat} {d : PyData} (h : Shs k n w d) (a : n ≤ m) (b : w ≤ v) : Shs k m v d := ⟨h.l, Nat.le_trans h.dp a, Nat.le_trans h.wt b⟩
theorem Shs.sho {k n w : Nat} {d : PyData} (h : Shs k n w d) (k0 : 7 ≤ k) (hk : k ≤ 400) (hn : n ≤ 60) (hw : (k + 3) * w ≤ 16000000) : Sho d := sho_of k0 hk h.l (Nat.le_trans h.dp hn) (Nat.le_trans (Nat.mul_le_mul_left _ h.wt) hw)
theorem shs_int {k : Nat} {i : Int} (h : i.natAbs < 10 ^ k) : Shs k 0 (4 * k + 1) (.int i) := by
  refine ⟨?_, ?_, ?_⟩
  · simp only [lvs]
    exact decide_eq_true h
  · simp only [PyData.depth]
    decide
  · simp only [PyData.weight]
    split
    · exact Nat.zero_le _
    · rename_i z
      have z1 : i.natAbs ≠ 0 := fun e => z (by rw [Int.natAbs_eq_zero.mp e]; rfl)
      have := (Nat.log2_lt (k := 4 * k) z1).mpr (Nat.lt_of_lt_of_le h (by
        rw [Nat.pow_mul]
        exact Nat.pow_le_pow_left (by decide) k))
      omega
theorem sho_ints {ns : List Int} (h : ∀ n, n ∈ ns → n.natAbs < 10 ^ 12) (l : ns.length ≤ 20000) : Sho (.list (ns.map .int)) ∧ Sho (.tuple (ns.map .int)) := by
  obtain ⟨a, b⟩ := shs_all (k := 12) (n := 0) (w := 49) (ds := ns.map .int) (fun d hd => by
    obtain ⟨n, hn, rfl⟩ := List.mem_map.mp hd
    exact shs_int (h n hn))
  rw [List.length_map] at a b
  exact ⟨a.sho (by decide) (by decide) (by decide) (by omega), b.sho (by decide) (by decide) (by decide) (by omega)⟩
theorem shs_str {k : Nat} {x : Str} (h : (x.cps.toList.all fun c => decide (c < 16 ^ 8)) = true) (w : x.cps.size ≤ 12) : Shs k 0 12 (.str x) := ⟨by simpa only [lvs] using h, by simp only [PyData.depth]; decide, by simpa only [PyData.weight] using w⟩
theorem shs_non {k : Nat} : Shs k 0 0 .none := ⟨rfl, by simp only [PyData.depth]; decide, by simp only [PyData.weight]; decide⟩
/-! a promise where no text of a thing is being made -/
structure GOk (P : Program) (w : World) (K : PySem.W.Frag) (mg : Str → Option Value) (base : Heap) (CX : CXT) (k : Nat) (f : Addr) (fd : FuncData) (ps : List Str) (sp : Sp) : Prop where
  len : ∀ vs H Q E, sp vs H Q E → vs.length = ps.length
  run : ∀ (A : Around) (outer : List Env) (s : Shared) (H : Hp) (args : Args) (us : List Value) (vs : List V) (Q : VK) (E : XK), A.guards = some [] → Room k A → Env0 P w K mg base A outer s H → BindsTo s fd args (ps.zip us) → Vals vs us → sp vs H Q E →
    codeAny (model P w) A (.call (.ref f) args) (CR CX outer P w H s Q E) s
theorem gok_of {CX : CXT} {P : Program} {w : World} {K : PySem.W.Frag} {mg : Str → Option Value} {base : Heap} {k : Nat} {x : Str} {st : Stmt} {f : Addr} {fd : FuncData} {N ps : List Str} {sp : Sp} (F : FnP K x st f fd) (S : FnScope N ps (defScope st)) (len : ∀ vs H Q E, sp vs H Q E → vs.length = ps.length)
    (hb : ∀ (cdv : Value) (A : Around) (outer : List Env) (s : Shared) (H : Hp) (vs : List V) (Q : VK) (E : XK), A.guards = some [] → Room k (A.deeper (envOfC x (defScope st) s.heap.objs.size f cdv)) → sp vs H Q E →
      ∃ t, PSs (cxOf CX P w K mg base N x (defScope st) f cdv A outer s H E) (defBody st) t ∧ t { nx := fun _ H' => Q .non H', rt := Q } (L2.start N vs) H) : GOk P w K mg base CX (k + 1) f fd ps sp := by
  obtain ⟨oc, od, dV, kV, doc, pm, an, cdv, ct, osl, rfl, lk, hcd, _, _⟩ := F.ex
  refine ⟨len, fun A outer s H args us vs Q E hg hr e0 bd rv hsp => ?_⟩
  have kept : ∀ b o, base.get? b = some o → s.heap.get? b = some o := fun b o e => (e0.bs b o e).1
  have KX : K.In s.heap := e0.mod.kin.keeps kept
  have kinds : ∀ y ∈ ps.zip us, (defScope st).names.lookup y.1 = some .local ∨ ((defScope st).names.lookup y.1 = some .cell ∧ ((cellsFrom (s.heap.objs.size + 1) (defScope st).names []).lookup y.1).isSome = true) := fun y hy =>
    (S.par y.1 (List.of_mem_zip (show (y.1, y.2) ∈ ps.zip us from hy)).1).imp id fun q => ⟨q, PySem.W.cellsFrom_some _ _ _ (.inl q)⟩
  refine codeAny_call_function hr.depth (KX _ _ lk) rfl S.co S.gen rfl (PySem.W.codeRec_of KX hcd) (bd _ _ _ _ (wpAny_newFunctionEnv_cells S.kind kinds fun env he s1 x1 => ?_))
  subst he
  refine ⟨(e0.mod.nolimit.keeps kept).keeps x1.toInCall.keep, codeAny_func ?_⟩
  obtain ⟨t, ht, hq⟩ := hb cdv A outer s H vs Q E hg (hr.deeper _) hsp
  have I := inv_start (CX := CX) (E := E) S hr.hd e0 (len _ _ _ _ hsp) rv x1
  refine wpAny_mono (ht.run [] s1 (L2.start N vs) H _ I hq) (fun fl s' hs => ?_) fun e s' hs => hs
  cases fl with
  | ret u =>
    obtain ⟨v, σ', H', J, r', q⟩ := hs
    exact ⟨v, H', J.os, J.bare, J.base, J.hok, r', q⟩
  | next =>
    obtain ⟨σ', H', J, q⟩ := hs
    exact ⟨V.non, H', J.os, J.bare, J.base, J.hok, rfl, q⟩
  | brk =>
    obtain ⟨_, _, _, q⟩ := hs
    exact q.elim
  | cont =>
    obtain ⟨_, _, _, q⟩ := hs
    exact q.elim
/-- the state ahead of the law's call: the script is tracked, or one of the module's own things -/
theorem env_ahead {P : Program} {w : World} {K : PySem.W.Frag} {mg mb : Str → Option Value} {a : Addr} {s : Shared} {vs : List Value} {ns : List Int} (KX : K.In s.heap) (hns : s.heap.Ns mainGlobals mg) (hb : s.heap.Ns builtinsNs mb)
    (hbb : ∀ x : Str, x ≠ "__name__" → mb x = bootBuiltins x) (hlim : s.heap.NoLimit) (hg : s.gens = #[]) (ha : s.heap.get? a = some { cls := .type "list", data := .seq vs.toArray }) (hi : IntsAre vs ns) (hl : ns.length ≤ sizeLine) :
    ∃ H : Hp, Only H ∧ SqL K H a (ns.map V.int) ∧ HOk P w H s.heap ∧ K.In (hidT s.heap H) ∧ (hidT s.heap H).Ns mainGlobals mg ∧ Env0 P w K mg (hidT s.heap H) callerA [] s H := by
  have rv := vals_ints hi
  have go : ∀ H : Hp, Only H → SqL K H a (ns.map V.int) → HOk P w H s.heap → (∀ b, H b ≠ none → b = a ∧ K.lookup a = none) → ∃ H : Hp, Only H ∧ SqL K H a (ns.map V.int) ∧ HOk P w H s.heap ∧ K.In (hidT s.heap H) ∧ (hidT s.heap H).Ns mainGlobals mg ∧ Env0 P w K mg (hidT s.heap H) callerA [] s H := fun H hO hS hok hA => by
    have free : ∀ {b : Addr}, (b = a → False) → H b = none := fun {b} nb => Classical.byContradiction fun z => nb (hA b z).1
    have Kb : K.In (hidT s.heap H) := fun b o e => hidT_get (KX b o e) (Classical.byContradiction fun z => by
      obtain ⟨rfl, n⟩ := hA b z
      rw [n] at e
      cases e)
    have nsb : ∀ {b : Addr} {m : Str → Option Value}, s.heap.Ns b m → (hidT s.heap H).Ns b m := fun {b m} h => by
      obtain ⟨o, es, ep, e, d, r⟩ := h
      refine ⟨o, es, ep, hidT_get e (free fun z => ?_), d, r⟩
      rw [z, ha] at e
      cases e
      cases d
    refine ⟨H, hO, hS, hok, Kb, nsb hns, rfl, ⟨Kb, nsb hns, ⟨mb, nsb hb, hbb⟩, ?_⟩, fun b o e => of_hidT e, Nat.le_of_eq (hidT_size _ _), trivial, fun b z => (by cases z), hok, .of_eq hg⟩
    obtain ⟨mc, h1, h2⟩ := hlim
    exact ⟨mc, nsb h1, h2⟩
  cases hk : K.lookup a with
  | some o =>
    have e := KX a o hk
    rw [ha] at e
    cases e
    exact go (fun _ => none) (fun _ => .inl rfl) (.inr ⟨_, vs.toArray, _, hk, rfl, rfl, rfl, by rw [List.size_toArray, hi.length]; exact hl, by simpa using rv⟩) (fun b u z => by cases z) (fun b z => absurd rfl z)
  | none =>
    refine go (fun b => if b = a then some (.frz { cls := .type "list", data := .seq vs.toArray } (.lst (ns.map V.int))) else none) (fun b => ?_) (.inl (.inr ⟨_, if_pos rfl⟩)) (fun b u z => ?_) (fun b z => ?_)
    · by_cases e : b = a
      · exact .inr ⟨_, _, if_pos e⟩
      · exact .inl (if_neg e)
    · by_cases e : b = a
      · cases (if_pos e).symm.trans z
        subst e
        exact ⟨ha, by rw [List.length_map]; exact hl, vs, _, rv, ha⟩
      · cases (if_neg e).symm.trans z
    · by_cases e : b = a
      · exact ⟨e, hk⟩
      · exact absurd (if_neg e) z
theorem walk_ofG {l : PySem.W.OpenLaw} {n k : Nat} {q : Program} {loose : List Str} {XP : (Str → Option Value) → Heap → Prop} {YP : World → Heap → Prop} {d : DefRec} {x : Str}
    (hn : l.most = some n) (hn2 : n ≤ sizeLine) (hdf : d.params.defaults = []) (hr : Room k callerA)
    (F : ∀ (w : World) (mg : Str → Option Value) (fa : Addr) (h : Heap), YP w h → h.Ns mainGlobals mg → mg d.name = some (.ref fa) →
      ∃ (K : PySem.W.Frag) (fd : FuncData) (sp : Sp), K.In h ∧ (∀ (s : Shared) (u : Value), BindsTo s fd ⟨[u], []⟩ [(x, u)]) ∧
        (∀ (H : Hp) (a : Addr) (ns : List Int), ns.length ≤ n → Only H → SqL K H a (ns.map V.int) → sp [.ref a] H (fun v _ => v = .bl true) fun _ _ _ => False) ∧
        ∀ base : Heap, K.In base → base.Ns mainGlobals mg → GOk l.prog w K mg base CX0 k fa fd [x] sp) :
    PySem.W.WalkO q loose XP YP l.row.toRowW d [] (fun f vs => PySem.call f vs) := by
  refine Att.attach_call hn hdf fun w s₀ s₁ mg mb fa o pm cd doc a vs ns G Y ho hd hcd hmg hobj hints hlen hg => ?_
  obtain ⟨K, fd, sp, KX, hbd, hsp, hF⟩ := F w mg fa _ Y G.T.g hmg
  obtain ⟨H, hO, hS, hok, Kb, nb, e0⟩ := env_ahead (P := l.prog) (w := w) KX G.T.g G.T.b G.T.builtins G.T.nolimit hg hobj hints (Nat.le_trans hlen hn2)
  refine codeAny_mono ((hF _ Kb nb).run callerA [] s₁ H ⟨[.ref a], []⟩ [.ref a] [.ref a] _ _ rfl hr e0 (hbd s₁ (.ref a)) (.cons rfl .nil) (hsp H a ns hlen hO hS)) fun r s' h => ?_
  match r, h with
  | .ok (.ret u), h =>
    obtain ⟨v, H', os, bare, un, hok', r', q⟩ := h
    have q : v = .bl true := q
    subst q
    obtain rfl : u = Value.bool true := r'
    refine ⟨rfl, OldK.of_keep fun b o e => ?_, os, bare⟩
    rcases hO b with z | ⟨ob, xs, z⟩
    · exact un.keep b o e z (by intro y; cases y) (by simp)
    · obtain ⟨e1, _⟩ := hok b _ z
      obtain ⟨e2, _⟩ := hok' b _ (un.frzs b ob _ z)
      rw [e] at e1
      cases e1
      exact e2
  | .ok .next, h => exact False.elim h
  | .ok .brk, h => exact False.elim h
  | .ok .cont, h => exact False.elim h
  | .error e, h => exact False.elim h
/-- repr(x) of a list or tuple -/
def rRepr (K : PySem.W.Frag) : List V → Hp → VK → Prop := fun xs H Q => ∃ a d, xs = [.ref a] ∧ Dp K H (.ref a) d ∧ Sho d ∧ Q (.str d.shown) H
theorem cr_repr {X : Cx} (hg : X.A.guards = some []) (hu : X.A.units + 65 < cLine) : CallR X (.builtin "repr") (rRepr X.K) := by
  intro pins s σ H vs us Q I r h
  obtain ⟨a, d, rfl, hd, ⟨sh, nd, dd, sz⟩, q⟩ := h
  rw [Vals.ref1 r]
  obtain ⟨as, rd⟩ := Dp.reads I d (.ref a) (.ref a) hd rfl
  refine repr_of_reads' rd sh (fun z => by rw [nd] at z; cases z) hg (by omega) (fun _ _ e => e) (fun h' u tk hk => ?_) sz
  exact ⟨.str d.shown, H, I.kept (t' := tk) hk, ⟨_, rfl⟩, q⟩
theorem u65g {k : Nat} {A : Around} (r : Room k A) : A.units + 65 < cLine := by
  have := r.un
  omega
/-! the state ahead of the law's call, with the tables of code objects -/
def ahT (K : PySem.W.Frag) (a : Addr) (ts : List Addr) (o : Obj) (xs : List V) : Hp := fun b => if b = a then (if (K.lookup a).isSome = true then none else some (.frz o (.lst xs))) else if b ∈ ts then some (.tbl #[]) else none
theorem ahT_tab {K : PySem.W.Frag} {a : Addr} {ts : List Addr} {o : Obj} {xs : List V} (na : ¬ a ∈ ts) {b : Addr} (hb : b ∈ ts) : ahT K a ts o xs b = some (.tbl #[]) := by
  unfold ahT
  rw [if_neg (fun z : b = a => na (z ▸ hb)), if_pos hb]
theorem ahT_any {K : PySem.W.Frag} {a : Addr} {ts : List Addr} {o : Obj} {xs : List V} {b : Addr} {u : HO} (h : ahT K a ts o xs b = some u) : (b = a ∧ K.lookup a = none ∧ u = .frz o (.lst xs)) ∨ (b ∈ ts ∧ u = .tbl #[]) := by
  unfold ahT at h
  by_cases e : b = a
  · rw [if_pos e] at h
    cases k : K.lookup a with
    | none =>
      rw [k, if_neg (fun z => by cases z)] at h
      exact .inl ⟨e, rfl, (Option.some.inj h).symm⟩
    | some y =>
      rw [k] at h
      simp at h
  · rw [if_neg e] at h
    by_cases z : b ∈ ts
    · rw [if_pos z] at h
      exact .inr ⟨z, (Option.some.inj h).symm⟩
    · rw [if_neg z] at h
      cases h
/-- a code object, its table, and where they stand -/
structure TbAt (K : PySem.W.Frag) (h : Heap) (q : Addr × Addr) : Prop where
  ob : h.get? q.2 = some { cls := .none, data := .fields #[] }
  nk : K.lookup q.2 = none
  hd : PySem.W.CodeHd h q.1 q.2
theorem env_aheadT {P : Program} {w : World} {K : PySem.W.Frag} {mg mb : Str → Option Value} {a : Addr} {cs : List (Addr × Addr)} {s : Shared} {vs : List Value} {ns : List Int} (KX : K.In s.heap) (gl : s.heap.Ns mainGlobals mg) (bl : s.heap.Ns builtinsNs mb)
    (bb : ∀ x : Str, x ≠ "__name__" → mb x = bootBuiltins x) (nl : s.heap.NoLimit) (hg : s.gens = #[]) (tb : ∀ q, q ∈ cs → TbAt K s.heap q)
    (bm : ∃ (m : Addr) (om : Obj), mg "__builtins__" = some (.ref m) ∧ m ≠ builtinsNs ∧ s.heap.get? m = some om ∧ om.cls = .type "module" ∧ om.dict = some builtinsNs ∧ om.data = .plain)
    (ha : s.heap.get? a = some { cls := .type "list", data := .seq vs.toArray }) (hi : IntsAre vs ns) (hl : ns.length ≤ sizeLine) :
    ∃ H : Hp, (∀ q, q ∈ cs → H q.2 = some (.tbl #[])) ∧ (∀ b u, H b = some u → (∃ o xs, u = .frz o (.lst xs)) ∨ b ∈ cs.map Prod.snd) ∧ SqL K H a (ns.map V.int) ∧ HOk P w H s.heap ∧ K.In (hidT s.heap H) ∧ (hidT s.heap H).Ns mainGlobals mg ∧ (∀ q, q ∈ cs → GxR.TabB (hidT s.heap H) mg q.1 q.2) ∧ Env0 P w K mg (hidT s.heap H) callerA [] s H := by
  have tin : ∀ b, b ∈ cs.map Prod.snd → ∃ q, q ∈ cs ∧ q.2 = b := fun b h => List.mem_map.mp h
  have tob : ∀ b, b ∈ cs.map Prod.snd → s.heap.get? b = some { cls := .none, data := .fields #[] } := fun b h => by
    obtain ⟨q, hq, rfl⟩ := tin b h
    exact (tb q hq).ob
  have na : ¬ a ∈ cs.map Prod.snd := fun z => by
    have y := (tob a z).symm.trans ha
    cases y
  obtain ⟨H, eH⟩ : ∃ H : Hp, H = ahT K a (cs.map Prod.snd) { cls := .type "list", data := .seq vs.toArray } (ns.map V.int) := ⟨_, rfl⟩
  have any : ∀ {b u}, H b = some u → (b = a ∧ K.lookup a = none ∧ u = .frz { cls := .type "list", data := .seq vs.toArray } (.lst (ns.map V.int))) ∨ (b ∈ cs.map Prod.snd ∧ u = .tbl #[]) := fun {b u} h => ahT_any (by rw [← eH]; exact h)
  have ta : ∀ q, q ∈ cs → H q.2 = some (.tbl #[]) := fun q hq => by
    rw [eH]
    exact ahT_tab na (List.mem_map.mpr ⟨q, hq, rfl⟩)
  have hS : SqL K H a (ns.map V.int) := by
    cases k : K.lookup a with
    | none =>
      refine .inl (.inr ⟨{ cls := .type "list", data := .seq vs.toArray }, ?_⟩)
      rw [eH]
      unfold ahT
      rw [if_pos rfl, k]
      rfl
    | some o =>
      have e := KX a o k
      rw [ha] at e
      cases e
      exact .inr ⟨_, vs.toArray, _, k, rfl, rfl, rfl, by rw [List.size_toArray, hi.length]; exact hl, by simpa using vals_ints hi⟩
  -- what is neither a sequence nor a table stands untouched
  have free : ∀ {b : Addr} {o : Obj}, s.heap.get? b = some o → (∀ ys n, o.data ≠ .seq ys n) → o.data ≠ .fields #[] → H b = none := fun {b o} e n1 n2 => by
    cases k : H b with
    | none => rfl
    | some u =>
      rcases any k with ⟨rfl, _⟩ | ⟨z, _⟩
      · rw [ha] at e
        cases e
        exact absurd rfl (n1 _ _)
      · rw [tob b z] at e
        cases e
        exact absurd rfl n2
  have nsb : ∀ {b : Addr} {m : Str → Option Value}, s.heap.Ns b m → (hidT s.heap H).Ns b m := fun {b m} h => by
    obtain ⟨o, es, ep, e, d, r⟩ := h
    exact ⟨o, es, ep, hidT_get e (free e (fun ys n z => by rw [d] at z; cases z) (fun z => by rw [d] at z; cases z)), d, r⟩
  have Kb : K.In (hidT s.heap H) := fun b o e => hidT_get (KX b o e) (by
    cases k : H b with
    | none => rfl
    | some u =>
      rcases any k with ⟨rfl, n, _⟩ | ⟨z, _⟩
      · rw [n] at e
        cases e
      · obtain ⟨q, hq, rfl⟩ := tin b z
        rw [(tb q hq).nk] at e
        cases e)
  have hok : HOk P w H s.heap := fun b u z => by
    rcases any z with ⟨rfl, _, rfl⟩ | ⟨y, rfl⟩
    · exact ⟨ha, by rw [List.length_map]; exact hl, vs, _, vals_ints hi, ha⟩
    · exact tob b y
  refine ⟨H, ta, fun b u z => ?_, hS, hok, Kb, nsb gl, fun q hq => ⟨?_, ?_, fun z => ?_⟩, rfl, ⟨Kb, nsb gl, ⟨mb, nsb bl, bb⟩, ?_⟩, fun b o e => of_hidT e, Nat.le_of_eq (hidT_size _ _), trivial, fun b z => (by cases z), hok, .of_eq hg⟩
  · rcases any z with ⟨_, _, rfl⟩ | ⟨y, _⟩
    · exact .inl ⟨_, _, rfl⟩
    · exact .inr y
  · obtain ⟨o, us, fl, tf, gs, tg, iF, tx, tt, e1, r1, r2, r3, rest⟩ := (tb q hq).hd
    refine ⟨o, us, fl, tf, gs, tg, iF, tx, tt, hidT_get e1 (free e1 (fun ys n z => by rw [r2] at z; cases z) (fun z => ?_)), r1, r2, r3, rest⟩
    rw [r2] at z
    cases z
    simp at r3
  · obtain ⟨m, om, b1, b2, b3, b4, b5, b6⟩ := bm
    refine ⟨m, om, b1, b2, fun z => ?_, fun z => ?_, hidT_get b3 (free b3 (fun ys n z => by rw [b6] at z; cases z) (fun z => by rw [b6] at z; cases z)), b4, b5, b6⟩
    · obtain ⟨o, es, ep, e, d, _⟩ := gl
      rw [z, e] at b3
      cases b3
      rw [d] at b6
      cases b6
    · have y := (tb q hq).ob
      rw [← z, b3] at y
      cases y
      cases b6
  · obtain ⟨o, es, ep, e, d, _⟩ := gl
    rw [z, (tb q hq).ob] at e
    cases e
    cases d
  · obtain ⟨mc, h1, h2⟩ := nl
    exact ⟨mc, nsb h1, h2⟩
theorem walk_ofGT {l : PySem.W.OpenLaw} {n k : Nat} {q : Program} {loose : List Str} {XP : (Str → Option Value) → Heap → Prop} {YP : World → Heap → Prop} {d : DefRec} {x : Str}
    (hn : l.most = some n) (hn2 : n ≤ sizeLine) (hdf : d.params.defaults = []) (hr : Room k callerA)
    (F : ∀ (w : World) (mg : Str → Option Value) (fa : Addr) (h : Heap), YP w h → h.Ns mainGlobals mg → mg d.name = some (.ref fa) →
      ∃ (K : PySem.W.Frag) (fd : FuncData) (cs : List (Addr × Addr)) (sp : Sp), K.In h ∧ (∀ q, q ∈ cs → TbAt K h q) ∧ (∀ (s : Shared) (u : Value), BindsTo s fd ⟨[u], []⟩ [(x, u)]) ∧
        (∀ (H : Hp) (a : Addr) (ns : List Int), ns.length ≤ n → (∀ q, q ∈ cs → H q.2 = some (.tbl #[])) → SqL K H a (ns.map V.int) → sp [.ref a] H (fun v _ => v = .bl true) fun _ _ _ => False) ∧
        ∀ base : Heap, K.In base → base.Ns mainGlobals mg → (∀ q, q ∈ cs → GxR.TabB base mg q.1 q.2) → GOk l.prog w K mg base CX0 k fa fd [x] sp) :
    PySem.W.WalkO q loose XP YP l.row.toRowW d [] (fun f vs => PySem.call f vs) := by
  refine Att.attach_call hn hdf fun w s₀ s₁ mg mb fa o pm cd doc a vs ns G Y ho hd hcd hmg hobj hints hlen hg => ?_
  obtain ⟨K, fd, cs, sp, KX, tb, hbd, hsp, hF⟩ := F w mg fa _ Y G.T.g hmg
  obtain ⟨H, ta, hO, hS, hok, Kb, nb, TB, e0⟩ := env_aheadT (P := l.prog) (w := w) KX G.T.g G.T.b G.T.builtins G.T.nolimit hg tb G.T.bmain hobj hints (Nat.le_trans hlen hn2)
  refine codeAny_mono ((hF _ Kb nb TB).run callerA [] s₁ H ⟨[.ref a], []⟩ [.ref a] [.ref a] _ _ rfl hr e0 (hbd s₁ (.ref a)) (.cons rfl .nil) (hsp H a ns hlen ta hS)) fun r s' h => ?_
  match r, h with
  | .ok (.ret u), h =>
    obtain ⟨v, H', os, bare, un, hok', r', q⟩ := h
    have q : v = .bl true := q
    subst q
    obtain rfl : u = Value.bool true := r'
    have grow : ∀ t, t ∈ cs → ∃ more : Array Value, s'.heap.get? t.2 = some { cls := .none, data := .fields more } := fun t ht => by
      obtain ⟨more, z⟩ := un.tbls _ _ (ta t ht)
      exact ⟨_, hok' _ _ z⟩
    have stay : ∀ b o, ¬ b ∈ cs.map Prod.snd → s₁.heap.get? b = some o → s'.heap.get? b = some o := fun b o nb e => by
      cases k : H b with
      | none => exact un.keep b o e k (by intro y; cases y) (by simp)
      | some u =>
        rcases hO b u k with ⟨ob, xs, rfl⟩ | z
        · obtain ⟨e1, _⟩ := hok b _ k
          obtain ⟨e2, _⟩ := hok' b _ (un.frzs b ob _ k)
          rw [e] at e1
          cases e1
          exact e2
        · exact absurd z nb
    refine ⟨rfl, ⟨fun b o e => ?_, fun b o e => ?_⟩, os, bare⟩
    · by_cases z : b ∈ cs.map Prod.snd
      · obtain ⟨t, ht, rfl⟩ := List.mem_map.mp z
        obtain ⟨more, gm⟩ := grow t ht
        have y := (tb t ht).ob
        rw [e] at y
        cases y
        exact .inr (.inl ⟨((tb t ht).hd.tab (tb t ht).ob).isCodeTable, rfl, #[], more, rfl, by rw [Array.empty_append]; exact gm⟩)
      · exact .inl (stay b o z e)
    · by_cases z : b ∈ cs.map Prod.snd
      · obtain ⟨t, ht, rfl⟩ := List.mem_map.mp z
        obtain ⟨more, gm⟩ := grow t ht
        exact ⟨_, gm⟩
      · exact ⟨o, stay b o z e⟩
  | .ok .next, h => exact False.elim h
  | .ok .brk, h => exact False.elim h
  | .ok .cont, h => exact False.elim h
  | .error e, h => exact False.elim h
/-! things that are small enough -/
mutual
def gd (k : Nat) : PyData → Bool
  | .none | .bool _ => true
  | .int i => decide (i.natAbs < 10 ^ k)
  | .str x => PyData.strOk x
  | .list xs | .tuple xs => gdA k xs
  | .dict _ => false
def gdA (k : Nat) : List PyData → Bool
  | [] => true
  | x :: xs => gd k x && gdA k xs
end
mutual
theorem gd_lvs {k : Nat} : ∀ d : PyData, gd k d = true → lvs k d = true ∧ d.canLay0 = true
  | .none, _ => ⟨rfl, rfl⟩
  | .bool b, _ => ⟨rfl, rfl⟩
  | .int i, h => ⟨by simpa only [lvs, gd] using h, rfl⟩
  | .str x, h => by
    have h1 : PyData.strOk x = true := by simpa only [gd] using h
    refine ⟨?_, by simpa only [PyData.canLay0] using h1⟩
    simp only [lvs, List.all_eq_true, decide_eq_true_eq]
    intro c hc
    unfold PyData.strOk at h1
    have := Array.all_eq_true_iff_forall_mem.mp h1 c (Array.mem_toList_iff.mp hc)
    have : c < 0x110000 := by simpa using this
    exact Nat.lt_trans this (by decide)
  | .list xs, h => by
    have := gdA_lvs xs (by simpa only [gd] using h)
    simpa only [lvs, PyData.canLay0] using this
  | .tuple xs, h => by
    have := gdA_lvs xs (by simpa only [gd] using h)
    simpa only [lvs, PyData.canLay0] using this
  | .dict _, h => by simp only [gd] at h; exact nomatch h
theorem gdA_lvs {k : Nat} : ∀ xs : List PyData, gdA k xs = true → lvsA k xs = true ∧ PyData.canLayAll0 xs = true
  | [], _ => ⟨rfl, rfl⟩
  | x :: xs, h => by
    have h' : gd k x = true ∧ gdA k xs = true := by simpa only [gdA, Bool.and_eq_true] using h
    have a := gd_lvs x h'.1
    have b := gdA_lvs xs h'.2
    simp only [lvsA, PyData.canLayAll0, a.1, a.2, b.1, b.2]
    exact ⟨rfl, rfl⟩
end
theorem gdA_all {k : Nat} : ∀ {xs : List PyData}, gdA k xs = true ↔ ∀ x, x ∈ xs → gd k x = true
  | [] => ⟨fun _ x hx => (by cases hx), fun _ => rfl⟩
  | x :: xs => by
    simp only [gdA, Bool.and_eq_true, gdA_all (xs := xs)]
    exact ⟨fun h y hy => by
      rcases List.mem_cons.mp hy with rfl | hy
      · exact h.1
      · exact h.2 y hy, fun h => ⟨h x List.mem_cons_self, fun y hy => h y (List.mem_cons_of_mem _ hy)⟩⟩
mutual
theorem gd_mono {k m : Nat} (h : k ≤ m) : ∀ d : PyData, gd k d = true → gd m d = true
  | .none, _ => rfl
  | .bool b, _ => rfl
  | .int i, g => by
    simp only [gd, decide_eq_true_eq] at g ⊢
    exact Nat.lt_of_lt_of_le g (Nat.pow_le_pow_right (by decide) h)
  | .str x, g => by simpa only [gd] using g
  | .list xs, g => by
    have := gdA_mono h xs (by simpa only [gd] using g)
    simpa only [gd] using this
  | .tuple xs, g => by
    have := gdA_mono h xs (by simpa only [gd] using g)
    simpa only [gd] using this
  | .dict _, g => by simp only [gd] at g; exact nomatch g
theorem gdA_mono {k m : Nat} (h : k ≤ m) : ∀ xs : List PyData, gdA k xs = true → gdA m xs = true
  | [], _ => rfl
  | x :: xs, g => by
    have h' : gd k x = true ∧ gdA k xs = true := by simpa only [gdA, Bool.and_eq_true] using g
    simp only [gdA, gd_mono h x h'.1, gdA_mono h xs h'.2]
    rfl
end
structure Bd (k n w : Nat) (d : PyData) : Prop where
  g : gd k d = true
  dp : d.depth ≤ n
  wt : d.weight ≤ w
theorem Bd.mono {k n w m v j : Nat} {d : PyData} (h : Bd k n w d) (c : k ≤ j) (a : n ≤ m) (b : w ≤ v) : Bd j m v d := ⟨gd_mono c d h.g, Nat.le_trans h.dp a, Nat.le_trans h.wt b⟩
theorem Bd.shs {k n w : Nat} {d : PyData} (h : Bd k n w d) : Shs k n w d := ⟨(gd_lvs d h.g).1, h.dp, h.wt⟩
theorem Bd.shaped {k n w : Nat} {d : PyData} (h : Bd k n w d) (hn : n ≤ 64) : SeqAt.shaped d = true := by
  unfold SeqAt.shaped
  rw [(gd_lvs d h.g).2, decide_eq_true (Nat.le_trans h.dp hn)]
  rfl
theorem depA_mem {n : Nat} : ∀ {ds : List PyData} {d : PyData}, d ∈ ds → PyData.depthAll ds ≤ n → d.depth ≤ n
  | x :: xs, d, hd, h => by
    simp only [PyData.depthAll] at h
    rcases List.mem_cons.mp hd with rfl | hd
    · omega
    · exact depA_mem hd (by omega)
theorem weiA_mem : ∀ {ds : List PyData} {d : PyData}, d ∈ ds → d.weight + 1 ≤ PyData.weightAll ds
  | x :: xs, d, hd => by
    simp only [PyData.weightAll]
    rcases List.mem_cons.mp hd with rfl | hd
    · omega
    · have := weiA_mem hd
      omega
/-- the items of a list or tuple that is small enough -/
structure BdA (k n w : Nat) (ds : List PyData) : Prop where
  g : gdA k ds = true
  dp : PyData.depthAll ds ≤ n
  wt : PyData.weightAll ds ≤ w
theorem BdA.get {k n w : Nat} {ds : List PyData} (h : BdA k n w ds) {d : PyData} (hd : d ∈ ds) : Bd k n w d := ⟨gdA_all.mp h.g d hd, depA_mem hd h.dp, by have := weiA_mem hd; have := h.wt; omega⟩
theorem BdA.tup {k n w : Nat} {ds : List PyData} (h : BdA k n w ds) : Bd k (n + 1) w (.tuple ds) := ⟨by simpa only [gd] using h.g, by have := h.dp; simp only [PyData.depth]; omega, by simpa only [PyData.weight] using h.wt⟩
theorem BdA.lst {k n w : Nat} {ds : List PyData} (h : BdA k n w ds) : Bd k (n + 1) w (.list ds) := ⟨by simpa only [gd] using h.g, by have := h.dp; simp only [PyData.depth]; omega, by simpa only [PyData.weight] using h.wt⟩
theorem Bd.itemsT {k n w : Nat} {ds : List PyData} (h : Bd k n w (.tuple ds)) : 1 ≤ n ∧ BdA k (n - 1) w ds := by
  have := h.dp
  simp only [PyData.depth] at this
  exact ⟨by omega, ⟨by simpa only [gd] using h.g, by omega, by simpa only [PyData.weight] using h.wt⟩⟩
theorem Bd.itemsL {k n w : Nat} {ds : List PyData} (h : Bd k n w (.list ds)) : 1 ≤ n ∧ BdA k (n - 1) w ds := by
  have := h.dp
  simp only [PyData.depth] at this
  exact ⟨by omega, ⟨by simpa only [gd] using h.g, by omega, by simpa only [PyData.weight] using h.wt⟩⟩
theorem weiA_app : ∀ (xs ys : List PyData), PyData.weightAll (xs ++ ys) = PyData.weightAll xs + PyData.weightAll ys
  | [], ys => by simp [PyData.weightAll]
  | x :: xs, ys => by
    simp only [List.cons_append, PyData.weightAll, weiA_app xs ys]
    omega
theorem depA_app : ∀ (xs ys : List PyData), PyData.depthAll (xs ++ ys) = max (PyData.depthAll xs) (PyData.depthAll ys)
  | [], ys => by simp [PyData.depthAll]
  | x :: xs, ys => by
    simp only [List.cons_append, PyData.depthAll, depA_app xs ys]
    omega
theorem BdA.app {k n w m v : Nat} {xs ys : List PyData} (h : BdA k n w xs) (g : BdA k m v ys) : BdA k (max n m) (w + v) (xs ++ ys) := by
  refine ⟨gdA_all.mpr fun x hx => ?_, ?_, ?_⟩
  · rcases List.mem_append.mp hx with hx | hx
    · exact gdA_all.mp h.g x hx
    · exact gdA_all.mp g.g x hx
  · have := h.dp
    have := g.dp
    rw [depA_app]
    omega
  · have := h.wt
    have := g.wt
    rw [weiA_app]
    omega
theorem BdA.one {k n w : Nat} {x : PyData} (h : Bd k n w x) : BdA k n (w + 1) [x] := ⟨by simp only [gdA, h.g]; rfl, by have := h.dp; simp only [PyData.depthAll]; omega, by have := h.wt; simp only [PyData.weightAll]; omega⟩
/-- part of the items -/
theorem BdA.part {k n w : Nat} {xs ys zs : List PyData} (h : BdA k n w (xs ++ ys ++ zs)) : BdA k n (PyData.weightAll xs) xs ∧ BdA k n (PyData.weightAll ys) ys ∧ BdA k n (PyData.weightAll zs) zs ∧ PyData.weightAll xs + PyData.weightAll ys + PyData.weightAll zs ≤ w := by
  have a := h.dp
  have b := h.wt
  rw [depA_app, depA_app] at a
  rw [weiA_app, weiA_app] at b
  have c := gdA_all.mp h.g
  exact ⟨⟨gdA_all.mpr fun x hx => c x (List.mem_append_left _ (List.mem_append_left _ hx)), by omega, Nat.le_refl _⟩,
    ⟨gdA_all.mpr fun x hx => c x (List.mem_append_left _ (List.mem_append_right _ hx)), by omega, Nat.le_refl _⟩,
    ⟨gdA_all.mpr fun x hx => c x (List.mem_append_right _ hx), by omega, Nat.le_refl _⟩, b⟩
theorem BdA.mono {k n w m v j : Nat} {d : List PyData} (h : BdA k n w d) (c : k ≤ j) (a : n ≤ m) (b : w ≤ v) : BdA j m v d := ⟨gdA_mono c d h.g, Nat.le_trans h.dp a, Nat.le_trans h.wt b⟩
/-- repr(x) of any thing -/
def rReprX (K : PySem.W.Frag) : List V → Hp → VK → Prop := fun xs H Q => ∃ v d, xs = [v] ∧ Dp K H v d ∧ Sho d ∧ Q (.str d.shown) H
theorem cr_reprX {X : Cx} (hg : X.A.guards = some []) (hu : X.A.units + 65 < cLine) : CallR X (.builtin "repr") (rReprX X.K) := by
  intro pins s σ H vs us Q I r h
  obtain ⟨v, d, rfl, hd, sh, q⟩ := h
  cases hd with
  | non =>
    obtain ⟨u, rfl, r1⟩ := vals1 r
    cases r1
    exact PySem.P.repr_of_none ⟨.str _, H, I.tok _, ⟨_, rfl⟩, q⟩
  | bl b =>
    obtain ⟨u, rfl, r1⟩ := vals1 r
    cases r1
    exact PySem.P.repr_of_bool ⟨.str _, H, I.tok _, ⟨_, rfl⟩, by cases b <;> exact q⟩
  | int i =>
    obtain ⟨u, rfl, t, rfl⟩ := vals1 r
    have hs := sh.s
    simp only [PyData.showable] at hs
    exact PySem.P.repr_of_int (of_decide_eq_true hs) ⟨.str _, H, I.tok _, ⟨_, rfl⟩, q⟩
  | str z =>
    obtain ⟨u, rfl, t, rfl⟩ := vals1 r
    exact PySem.P.repr_of_str ⟨.str _, H, I.tok _, ⟨_, rfl⟩, q⟩ sh.len
  | lst h1 h2 => exact cr_repr hg hu pins s σ H _ us Q I r ⟨_, _, rfl, .lst h1 h2, sh, q⟩
  | tup h1 h2 => exact cr_repr hg hu pins s σ H _ us Q I r ⟨_, _, rfl, .tup h1 h2, sh, q⟩
/-! things, standing away from some lists -/
mutual
inductive Tg (p : Addr → Prop) (H : Hp) : V → PyData → Prop
  | non : Tg p H .non .none
  | bl (b : Bool) : Tg p H (.bl b) (.bool b)
  | int (i : Int) : Tg p H (.int i) (.int i)
  | str (x : Str) : Tg p H (.str x) (.str x)
  | lst {a : Addr} {xs : List V} {ds : List PyData} : ¬ p a → H a = some (.lst xs) → TgA p H xs ds → Tg p H (.ref a) (.list ds)
  | tup {a : Addr} {xs : List V} {ds : List PyData} : ¬ p a → H a = some (.tup xs) → TgA p H xs ds → Tg p H (.ref a) (.tuple ds)
inductive TgA (p : Addr → Prop) (H : Hp) : List V → List PyData → Prop
  | nil : TgA p H [] []
  | cons {v : V} {vs : List V} {d : PyData} {ds : List PyData} : Tg p H v d → TgA p H vs ds → TgA p H (v :: vs) (d :: ds)
end
mutual
theorem Tg.to {p q : Addr → Prop} {H H' : Hp} (s : ∀ a o, ¬ p a → H a = some o → H' a = some o ∧ ¬ q a) : ∀ (d : PyData) (v : V), Tg p H v d → Tg q H' v d
  | .none, _, h => by cases h; exact .non
  | .bool b, _, h => by cases h; exact .bl b
  | .int i, _, h => by cases h; exact .int i
  | .str x, _, h => by cases h; exact .str x
  | .list ds, _, h => by
    cases h with
    | lst n e t => exact .lst (s _ _ n e).2 (s _ _ n e).1 (TgA.to s ds _ t)
  | .tuple ds, _, h => by
    cases h with
    | tup n e t => exact .tup (s _ _ n e).2 (s _ _ n e).1 (TgA.to s ds _ t)
  | .dict _, _, h => by cases h
theorem TgA.to {p q : Addr → Prop} {H H' : Hp} (s : ∀ a o, ¬ p a → H a = some o → H' a = some o ∧ ¬ q a) : ∀ (ds : List PyData) (vs : List V), TgA p H vs ds → TgA q H' vs ds
  | [], _, h => by cases h; exact .nil
  | d :: ds, _, h => by
    cases h with
    | cons a b => exact .cons (Tg.to s d _ a) (TgA.to s ds _ b)
end
theorem Tg.keep {p : Addr → Prop} {H H' : Hp} {v : V} {d : PyData} (h : Tg p H v d) (s : ∀ a o, ¬ p a → H a = some o → H' a = some o) : Tg p H' v d := h.to fun a o n e => ⟨s a o n e, n⟩
theorem TgA.keep {p : Addr → Prop} {H H' : Hp} {v : List V} {d : List PyData} (h : TgA p H v d) (s : ∀ a o, ¬ p a → H a = some o → H' a = some o) : TgA p H' v d := h.to fun a o n e => ⟨s a o n e, n⟩
theorem Tg.but {l : Addr} {H H' : Hp} {v : V} {d : PyData} (h : Tg (· = l) H v d) (s : But l H H') : Tg (· = l) H' v d := h.keep s
theorem Tg.same {p : Addr → Prop} {H H' : Hp} {v : V} {d : PyData} (h : Tg p H v d) (s : Same H H') : Tg p H' v d := h.keep fun a o _ e => s a o e
theorem TgA.same {p : Addr → Prop} {H H' : Hp} {v : List V} {d : List PyData} (h : TgA p H v d) (s : Same H H') : TgA p H' v d := h.keep fun a o _ e => s a o e
theorem TgA.but {l : Addr} {H H' : Hp} {v : List V} {d : List PyData} (h : TgA (· = l) H v d) (s : But l H H') : TgA (· = l) H' v d := h.keep s
/-- away from a list that is new -/
theorem Tg.new {p : Addr → Prop} {l : Addr} {H : Hp} {v : V} {d : PyData} {o : HO} (h : Tg p H v d) (n : H l = none) : Tg (· = l) (upd H l o) v d := h.to fun a x _ e => ⟨same_upd n a x e, ne_of_none e n⟩
mutual
theorem Tg.dp {K : PySem.W.Frag} {p : Addr → Prop} {H : Hp} : ∀ (d : PyData) (v : V), Tg p H v d → Dp K H v d
  | .none, _, h => by cases h; exact .non
  | .bool b, _, h => by cases h; exact .bl b
  | .int i, _, h => by cases h; exact .int i
  | .str x, _, h => by cases h; exact .str x
  | .list ds, _, h => by
    cases h with
    | lst n e t => exact .lst (SqL.mk e) (TgA.dp ds _ t)
  | .tuple ds, _, h => by
    cases h with
    | tup n e t => exact .tup (SqT.mk e) (TgA.dp ds _ t)
  | .dict _, _, h => by cases h
theorem TgA.dp {K : PySem.W.Frag} {p : Addr → Prop} {H : Hp} : ∀ (ds : List PyData) (vs : List V), TgA p H vs ds → DpAll K H vs ds
  | [], _, h => by cases h; exact .nil
  | d :: ds, _, h => by
    cases h with
    | cons a b => exact .cons (Tg.dp d _ a) (TgA.dp ds _ b)
end
theorem TgA.len {p : Addr → Prop} {H : Hp} : ∀ {ds : List PyData} {vs : List V}, TgA p H vs ds → vs.length = ds.length
  | [], _, h => by cases h; rfl
  | d :: ds, _, h => by
    cases h with
    | cons a b => rw [List.length_cons, List.length_cons, TgA.len b]
theorem TgA.get {p : Addr → Prop} {H : Hp} : ∀ {ds : List PyData} {vs : List V}, TgA p H vs ds → ∀ {i : Nat} {v : V}, vs[i]? = some v → ∃ d, ds[i]? = some d ∧ Tg p H v d
  | [], _, h, i, v, e => by cases h; cases e
  | d :: ds, _, h, i, v, e => by
    cases h with
    | cons a b =>
      cases i with
      | zero => cases e; exact ⟨d, rfl, a⟩
      | succ i => exact TgA.get b (by simpa using e)
theorem TgA.app {p : Addr → Prop} {H : Hp} {ds es : List PyData} {vs us : List V} (h : TgA p H vs ds) (g : TgA p H us es) : TgA p H (vs ++ us) (ds ++ es) := by
  induction ds generalizing vs with
  | nil => cases h; exact g
  | cons d ds ih =>
    cases h with
    | cons a b => exact .cons a (ih b)
theorem TgA.split {p : Addr → Prop} {H : Hp} : ∀ {ds : List PyData} {vs : List V}, TgA p H vs ds → ∀ i : Nat, TgA p H (vs.take i) (ds.take i) ∧ TgA p H (vs.drop i) (ds.drop i)
  | [], _, h, i => by cases h; simp only [List.take_nil, List.drop_nil]; exact ⟨.nil, .nil⟩
  | d :: ds, _, h, i => by
    cases h with
    | cons a b =>
      cases i with
      | zero => exact ⟨.nil, .cons a b⟩
      | succ i => exact ⟨.cons a (TgA.split b i).1, (TgA.split b i).2⟩
def isIntD : PyData → Bool
  | .int _ => true
  | _ => false
def isBlD : PyData → Bool
  | .bool _ => true
  | _ => false
def isStrD : PyData → Bool
  | .str _ => true
  | _ => false
def isTupD : PyData → Bool
  | .tuple _ => true
  | _ => false
def isLstD : PyData → Bool
  | .list _ => true
  | _ => false
theorem kit2 {K : PySem.W.Frag} {t : String} {a b : Bool} (h1 : kitB t "tuple" = some a) (h2 : kitB t "list" = some b) : PySem.W.kitAny K (.type t) [.type "tuple", .type "list"] = some (a || b) :=
  kitAny_cons (kit_ty h1) (fun e => by subst e; exact kitAny_cons (r := b) (kit_ty h2) (fun e => by subst e; exact kitAny_nil) (fun e => e)) (fun e => by rw [e]; rfl)
theorem Tg.ty {K : PySem.W.Frag} {p : Addr → Prop} {H : Hp} {v : V} {d : PyData} (h : Tg p H v d) : ∃ t, TyX K H v t ∧ PySem.W.kitOne K t (.type "int") = some (isIntD d || isBlD d) ∧ PySem.W.kitOne K t (.type "bool") = some (isBlD d) ∧ PySem.W.kitOne K t (.type "tuple") = some (isTupD d) ∧
    PySem.W.kitOne K t (.type "str") = some (isStrD d) ∧ PySem.W.kitAny K t [.type "tuple", .type "list"] = some (isTupD d || isLstD d) := by
  cases h with
  | non => exact ⟨_, .base .non, kit_ty (by show _ = some false; decide +kernel), kit_ty (by show _ = some false; decide +kernel), kit_ty (by show _ = some false; decide +kernel), kit_ty (by show _ = some false; decide +kernel), kit2 (a := false) (b := false) (by decide +kernel) (by decide +kernel)⟩
  | bl b => exact ⟨_, .base (.bl b), kit_ty (by show _ = some true; decide +kernel), kit_ty (by show _ = some true; decide +kernel), kit_ty (by show _ = some false; decide +kernel), kit_ty (by show _ = some false; decide +kernel), kit2 (a := false) (b := false) (by decide +kernel) (by decide +kernel)⟩
  | int b => exact ⟨_, .base (.int b), kit_ty (by show _ = some true; decide +kernel), kit_ty (by show _ = some false; decide +kernel), kit_ty (by show _ = some false; decide +kernel), kit_ty (by show _ = some false; decide +kernel), kit2 (a := false) (b := false) (by decide +kernel) (by decide +kernel)⟩
  | str b => exact ⟨_, .base (.str b), kit_ty (by show _ = some false; decide +kernel), kit_ty (by show _ = some false; decide +kernel), kit_ty (by show _ = some false; decide +kernel), kit_ty (by show _ = some true; decide +kernel), kit2 (a := false) (b := false) (by decide +kernel) (by decide +kernel)⟩
  | lst ne h => exact ⟨_, .base (.lst h), kit_ty (by show _ = some false; decide +kernel), kit_ty (by show _ = some false; decide +kernel), kit_ty (by show _ = some false; decide +kernel), kit_ty (by show _ = some false; decide +kernel), kit2 (a := false) (b := true) (by decide +kernel) (by decide +kernel)⟩
  | tup ne h => exact ⟨_, .base (.tup h), kit_ty (by show _ = some false; decide +kernel), kit_ty (by show _ = some false; decide +kernel), kit_ty (by show _ = some true; decide +kernel), kit_ty (by show _ = some false; decide +kernel), kit2 (a := true) (b := false) (by decide +kernel) (by decide +kernel)⟩
/-! a tuple so many times -/
theorem tuple_once (l : Addr) (items : Array Value) (n : Nat) (dd : Option Addr) (sl : Array (Option Value)) (u : Tok) :
    Meets (Builtin.«tuple.__mul__» ⟨[.ref l, .int 1 u], []⟩) (fun _ R s => s.heap.get? l = some { cls := .type "tuple", dict := dd, data := .seq items n, slots := sl } ∧ R (.ok (.ret (Value.ref l))) { s with toks := s.toks }) :=
  .of_wp fun prog w A R s h => by
    obtain ⟨hp, g, d, tk, os⟩ := s
    obtain ⟨hl, h⟩ := h
    have f1 := AutoSeq1.idx_int
    have c1 : (items.isEmpty || (1 : Int) == 1) = true := by simp
    wp_walk using wpAny_loadPart' hl
    repeat (first
      | (refine wpAny_ite_true (decide_eq_true c1) ?_; wp_walk using wpAny_loadPart' hl)
      | (refine wpAny_ite_false (decide_eq_false (by decide)) ?_; wp_walk using wpAny_loadPart' hl))
    exact ⟨_, rfl, h⟩
def rRepA (K : PySem.W.Frag) : R2 := fun x y H Q => ∃ (l : Addr) (k : Nat) (xs : List V), x = .ref l ∧ y = .int (k : Nat) ∧ SqT K H l xs ∧ xs ≠ [] ∧ 1 ≤ k ∧ xs.length * k ≤ 1000000 ∧ (k = 1 → Q (.ref l) H) ∧
  (2 ≤ k → ∀ p, H p = none → Q (.ref p) (upd H p (.tup (List.replicate k xs).flatten)))
theorem op_repA {X : Cx} : OpR X (binaryOp .Mult) (rRepA X.K) := by
  intro pins s σ H x y v u Q I rx ry h
  obtain ⟨l, k, xs, rfl, rfl, hT, hne, h1, hz, q1, q2⟩ := h
  cases rx
  obtain ⟨t, rfl⟩ := ry
  obtain ⟨its, r, ⟨⟨cls, dd, data, sl⟩, ho, hc, n, hd⟩, hs⟩ := I.tuple hT
  simp only at hc hd
  subst hc hd
  have lx : 0 < xs.length := List.length_pos_iff.mpr hne
  have le : its.length = xs.length := r.length.symm
  have ke : k * xs.length ≤ 1000000 := by
    rw [Nat.mul_comm]
    exact hz
  have kl : k ≤ 1000000 := Nat.le_trans (Nat.le_mul_of_pos_right k lx) ke
  have ne : its.toArray.isEmpty = false := by
    cases its with
    | nil =>
      rw [← le] at lx
      cases lx
    | cons a b => rfl
  by_cases k1 : k = 1
  · subst k1
    refine wpAny_binaryOp_repeat_ref (T := "tuple") (U := "int") (by decide) ⟨_, ho, rfl⟩ (fun s' => typeIs_int s' _ t) noFill_tuple_mul F.fills_int_mul F.slot_int_rmul repeat_tuple F.slot_int_index.lookup
      (call_meets F.slot_int_rmul (typeIs_int s _ t) F.entry_int_rmul (F.args_int_rmul_2 _ _) (int_rmul_tuple _ t l its.toArray n dd sl)
        ⟨ho, rfl, ⟨_, ho, rfl⟩, call_meets F.slot_tuple_mul ⟨_, ho, rfl⟩ F.entry_tuple_mul (F.args_tuple_mul_2 _ _) (tuple_once l its.toArray n dd sl t) ⟨ho, ?_⟩⟩)
    exact ⟨.ref l, H, I, rfl, q1 rfl⟩
  · have k2 : 2 ≤ k := by omega
    have sz : its.toArray.size = xs.length := by rw [List.size_toArray, le]
    have pr : ((its.toArray.size : Nat) : Int) * (k : Int) ≤ 1000000 := by
      rw [sz, ← Int.natCast_mul]
      omega
    have fl : (List.replicate k its).flatten.length ≤ sizeLine := by
      rw [PyProof.Rows.lm_len_rep_flat, le, sizeLine_eq]
      omega
    have d0 : (decide ((k : Int) < -(2 ^ 63)) || decide ((k : Int) ≥ 2 ^ 63)) = false := by
      rw [decide_eq_false (show ¬ (k : Int) < -(2 ^ 63) by omega), decide_eq_false (show ¬ (k : Int) ≥ 2 ^ 63 by omega)] <;> rfl
    have d1 : (its.toArray.isEmpty || (k : Int) == 1) = false := by
      rw [ne, Bool.false_or]
      exact beq_eq_false_iff_ne.mpr (by omega)
    have d2 : (decide ((k : Int) ≤ 0) || its.toArray.isEmpty) = false := by
      rw [ne, Bool.or_false]
      exact decide_eq_false (by omega)
    have d4 : Builtin.Tuple.tupleTooMany (((its.toArray.size : Nat) : Int) * (k : Int)) = false := by
      unfold Builtin.Tuple.tupleTooMany
      rw [sizeLine_eq]
      exact decide_eq_false (by omega)
    refine wpAny_binaryOp_repeat_ref (T := "tuple") (U := "int") (by decide) ⟨_, ho, rfl⟩ (fun s' => typeIs_int s' _ t) noFill_tuple_mul F.fills_int_mul F.slot_int_rmul repeat_tuple F.slot_int_index.lookup
      (call_meets F.slot_int_rmul (typeIs_int s _ t) F.entry_int_rmul (F.args_int_rmul_2 _ _) (int_rmul_tuple _ t l its.toArray n dd sl)
        ⟨ho, rfl, ⟨_, ho, rfl⟩, call_meets F.slot_tuple_mul ⟨_, ho, rfl⟩ F.entry_tuple_mul (F.args_tuple_mul_2 _ _) (tuple_mulW l its.toArray n dd sl (k : Int) t d0 d1 d2 (by omega) d4 (by rw [Int.toNat_natCast, size_rep, List.size_toArray]; exact fl)) ⟨ho, ?_⟩⟩)
    rw [Int.toNat_natCast, size_rep]
    refine ⟨.ref s.heap.objs.size, _, I.laid (t' := s.toks) (o := .tup (List.replicate k xs).flatten) (fun b ob q => Heap.get?_push_of_some _ q) (Nat.le_refl _) ⟨?_, _, r.rep k, IsTup.new _ _⟩, rfl, q2 k2 _ (I.hok.fresh (Nat.le_refl _))⟩
    rw [PyProof.Rows.lm_len_rep_flat, sizeLine_eq]
    omega
/-! the law's own rows -/
def Bits (rs : List Int) : Prop := ∀ x, x ∈ rs → x = 0 ∨ x = 1
theorem Bits.snoc {rs : List Int} {x : Int} (h : Bits rs) (hx : x = 0 ∨ x = 1) : Bits (rs ++ [x]) := fun y hy => by
  rcases List.mem_append.mp hy with hy | hy
  · exact h y hy
  · rw [List.mem_singleton] at hy
    rw [hy]
    exact hx
theorem but_newer {p q : Addr} {H H' : Hp} {o : HO} (a : But p H H') (n : H q = none) : But p H (upd H' q o) := fun c x hn e => by
  rw [upd_ne (ne_of_none e n)]
  exact a c x hn e
theorem Bx.other {H : Hp} {p q : Addr} {n : Nat} {o : HO} (h : Bx H p n) (nq : q ≠ p) : Bx (L2.upd H q o) p n := by
  obtain ⟨a, b, c, hp, r⟩ := h
  exact ⟨a, b, c, by rw [upd_ne (Ne.symm nq)]; exact hp, r⟩
def PV (p D : Addr) (HX : Hp) (k i : Nat) (H1 : Hp) : Prop := ∃ rs : List Int, rs.length = i ∧ Bits rs ∧ But p HX H1 ∧ Bx H1 p (k + i) ∧ H1 D = some (.lst (rs.map V.int))
theorem pv_start {p D : Addr} {HX : Hp} {k : Nat} (nD : HX D = none) (B : Bx HX p k) : PV p D HX k 0 (upd HX D (.lst [])) := ⟨[], rfl, fun _ h => (by cases h), (But.refl p HX).new nD, B.new nD, upd_same⟩
theorem pv_step {p D : Addr} {HX H1 H4 : Hp} {k i : Nat} {x : Int} (nD : HX D = none) (Dp : D ≠ p) (h : PV p D HX k i H1) (b : But p H1 H4) (B : Bx H4 p (k + (i + 1))) (hi : i < 100000) (hx : x = 0 ∨ x = 1) :
    ∃ acc, H4 D = some (.lst acc) ∧ acc.length < sizeLine ∧ PV p D HX k (i + 1) (upd H4 D (.lst (acc ++ [.int x]))) := by
  obtain ⟨rs, hl, hb, b1, _, hD⟩ := h
  have hsl : sizeLine = 16777216 := by decide
  refine ⟨_, b _ _ Dp hD, by rw [List.length_map]; omega, rs ++ [x], by rw [List.length_append, hl]; rfl, hb.snoc hx, but_newer (b1.trans b) nD, B.other Dp, ?_⟩
  rw [upd_same, List.map_append]
  rfl
theorem rep_one (m : Nat) (x : Int) : (List.replicate m [V.int x]).flatten = (List.replicate m x).map V.int := by
  rw [List.map_replicate]
  induction m with
  | zero => rfl
  | succ m ih => rw [List.replicate_succ, List.flatten_cons, ih, List.replicate_succ]; rfl
/-! a tuple no times, too -/
theorem tuple_nought (l : Addr) (items : Array Value) (n : Nat) (dd : Option Addr) (sl : Array (Option Value)) (u : Tok) (hi : items.isEmpty = false) :
    Meets (Builtin.«tuple.__mul__» ⟨[.ref l, .int 0 u], []⟩) (fun _ R s => s.heap.get? l = some { cls := .type "tuple", dict := dd, data := .seq items n, slots := sl } ∧ R (.ok (.ret (Value.ref s.heap.objs.size))) { s with heap := s.heap.push { cls := Value.type "tuple", data := Data.seq #[] }, toks := s.toks }) :=
  .of_wp fun prog w A R s h => by
    obtain ⟨hp, g, d, tk, os⟩ := s
    obtain ⟨hl, h⟩ := h
    have f1 := AutoSeq1.idx_int
    have c1 : (items.isEmpty || (0 : Int) == 1) = false := by rw [hi]; rfl
    have c2 : (decide ((0 : Int) ≤ 0) || items.isEmpty) = true := by simp
    wp_walk using wpAny_loadPart' hl
    repeat (first
      | (refine wpAny_ite_false (decide_eq_false (by rw [c1]; exact Bool.false_ne_true)) ?_; wp_walk using wpAny_loadPart' hl)
      | (refine wpAny_ite_true (decide_eq_true c2) ?_; wp_walk using wpAny_loadPart' hl)
      | (refine wpAny_ite_false (decide_eq_false (by decide)) ?_; wp_walk using wpAny_loadPart' hl))
    exact ⟨_, rfl, h⟩
def rRepB (K : PySem.W.Frag) : R2 := fun x y H Q => ∃ (l : Addr) (k : Nat) (xs : List V), x = .ref l ∧ y = .int (k : Nat) ∧ SqT K H l xs ∧ xs ≠ [] ∧ xs.length * k ≤ 1000000 ∧ (k = 1 → Q (.ref l) H) ∧
  (k ≠ 1 → ∀ p, H p = none → Q (.ref p) (upd H p (.tup (List.replicate k xs).flatten)))
theorem op_repB {X : Cx} : OpR X (binaryOp .Mult) (rRepB X.K) := by
  intro pins s σ H x y v u Q I rx ry h
  obtain ⟨l, k, xs, rfl, rfl, hT, hne, hz, q1, q2⟩ := h
  by_cases k0 : k = 0
  · subst k0
    cases rx
    obtain ⟨t, rfl⟩ := ry
    obtain ⟨its, r, ⟨⟨cls, dd, data, sl⟩, ho, hc, n, hd⟩, hs⟩ := I.tuple hT
    simp only at hc hd
    subst hc hd
    have le : its.length = xs.length := r.length.symm
    have ne : its.toArray.isEmpty = false := by
      cases its with
      | nil => exact absurd (List.eq_nil_of_length_eq_zero le.symm) hne
      | cons a b => rfl
    refine wpAny_binaryOp_repeat_ref (T := "tuple") (U := "int") (by decide) ⟨_, ho, rfl⟩ (fun s' => typeIs_int s' _ t) noFill_tuple_mul F.fills_int_mul F.slot_int_rmul repeat_tuple F.slot_int_index.lookup
      (call_meets F.slot_int_rmul (typeIs_int s _ t) F.entry_int_rmul (F.args_int_rmul_2 _ _) (int_rmul_tuple _ t l its.toArray n dd sl)
        ⟨ho, rfl, ⟨_, ho, rfl⟩, call_meets F.slot_tuple_mul ⟨_, ho, rfl⟩ F.entry_tuple_mul (F.args_tuple_mul_2 _ _) (tuple_nought l its.toArray n dd sl t ne) ⟨ho, ?_⟩⟩)
    exact ⟨.ref s.heap.objs.size, _, I.laid (t' := s.toks) (o := .tup []) (fun b ob q => Heap.get?_push_of_some _ q) (Nat.le_refl _) ⟨Nat.zero_le _, [], .nil, IsTup.new _ _⟩, rfl, q2 (by decide) _ (I.hok.fresh (Nat.le_refl _))⟩
  · exact op_repA pins s σ H _ _ v u Q I rx ry ⟨l, k, xs, rfl, rfl, hT, hne, by omega, hz, q1, fun z => q2 (by omega)⟩
/-- (x,) so many times -/
theorem rep_go {K : PySem.W.Frag} {H : Hp} {t : Addr} {x v : Int} {k : Nat} {Q : VK} (hv : v = (k : Nat)) (ht : H t = some (.tup [.int x])) (hk : k ≤ 100000) (q : ∀ H' p, Same H H' → H' p = some (.tup ((List.replicate k x).map V.int)) → Q (.ref p) H') : rRepB K (.ref t) (.int v) H Q := by
  subst hv
  refine ⟨t, k, _, rfl, rfl, SqT.mk ht, by simp, (show 1 * k ≤ 1000000 by omega), fun z => ?_, fun z p np => ?_⟩
  · subst z
    exact q H t (Same.refl H) ht
  · exact q _ p (same_upd np) (by rw [upd_same, rep_one])
theorem cat_go {K : PySem.W.Frag} {H : Hp} {a b : Addr} {rs ss : List Int} {Q : VK} (ha : H a = some (.tup (rs.map V.int))) (hb : H b = some (.tup (ss.map V.int))) (hl : rs.length + ss.length ≤ 100000)
    (q : ∀ H' p, Same H H' → H' p = some (.tup ((rs ++ ss).map V.int)) → Q (.ref p) H') : rCatA K (.ref a) (.ref b) H Q := by
  have hsl : sizeLine = 16777216 := by decide
  refine ⟨a, b, _, _, rfl, rfl, SqT.mk ha, SqT.mk hb, by rw [List.length_map, List.length_map]; omega, fun z => ?_, fun _ z => ?_, fun _ _ p np => ?_⟩
  · rw [List.map_eq_nil_iff.mp z] at q
    exact q H b (Same.refl H) hb
  · rw [List.map_eq_nil_iff.mp z] at q
    exact q H a (Same.refl H) (by rw [List.append_nil]; exact ha)
  · exact q _ p (same_upd np) (by rw [upd_same, List.map_append])
theorem catK {X : Cx} {K : PySem.W.Frag} (h : X.K = K) : OpR X (binaryOp .Add) (rCatA K) := by
  subst h
  exact op_catA
theorem zipAK {X : Cx} {K : PySem.W.Frag} {e e2 : Expr} {ta : TA} {p pos tpos : Pos} {elts : List Expr} {kk : Nat} (h : X.K = K) (hg : Gl X "zip") (hm : X.mg "zip" = none) (ha : PA X [e, e2] ta)
    (hs : starEach [e, e2] X.env = (false, eval e X.env) :: starEach [e2] X.env := by rfl) (hpl : (backTo pos (starEach [e2] X.env)).any (·.1) = false := by rfl) :
    PI X (.Tuple elts kk tpos) (.Call (.Name "zip" p) [e, e2] [] pos) (RZ.iZipA K ta) := by
  subst h
  exact RZ.pi_zipA hg hm ha hs hpl
def sp_is_number (K : PySem.W.Frag) : Sp := fun vs H Q _ => ∃ (p : Addr → Prop) (x : V) (d : PyData), vs = [x] ∧ Tg p H x d ∧ Q (.bl (isIntD d)) H
theorem ok_is_number (T : Defs K mg) (TT : Tabs T base) : FnOk P w K mg base CX0 1 T.f_is_number T.fd_is_number ["thing"] (sp_is_number K) := by
  refine T.F_is_number.ok sc_is_number (fun vs H Q E h => ?_) (fun cdv A outer s H vs Q E hr h => ?_)
  · obtain ⟨p, x, d, rfl, hx, q⟩ := h
    rfl
  · obtain ⟨p, x, d, rfl, hx, q⟩ := h
    refine ⟨_, PSs.nox (pss_one (ps_ret (pe_and (pe_callB call_isi (by rfl) T.m_isinstance bt_isinstance (pa_cons (pv 0) (pa_cons (pe_bltn (v := .ty "int") (by rfl) T.m_int bt_int rfl) pa_nil))) (pe_one (pe_not (pe_callB call_isi (by rfl) T.m_isinstance bt_isinstance (pa_cons (pv 0) (pa_cons (pe_bltn (v := .ty "bool") (by rfl) T.m_bool bt_bool rfl) pa_nil)))))))), ?_⟩
    obtain ⟨t, ty, ki, kb, _⟩ := hx.ty (K := K)
    refine ⟨x, rfl, _, _, _, _, _, rfl, .ty "int", ty, ki, _, rfl, ?_⟩
    refine ite2 (fun e => ?_) (fun e => ?_)
    · refine ⟨x, rfl, _, _, _, _, _, rfl, .ty "bool", ty, kb, _, rfl, ?_⟩
      have ee : (!isBlD d) = isIntD d := by
        cases d <;> first | rfl | cases e
      rw [ee]
      exact q
    · have ee : isIntD d = false := by
        cases d <;> first | rfl | exact absurd rfl e
      rw [ee] at q
      exact q
def withinD (d : PyData) (lo hi : Int) : Bool := match d with
  | .int i => decide (lo ≤ i ∧ i ≤ hi)
  | _ => false
def sp_is_within (K : PySem.W.Frag) : Sp := fun vs H Q _ => ∃ (p : Addr → Prop) (x : V) (d : PyData) (lo hi : Int), vs = [x, .int lo, .int hi] ∧ Tg p H x d ∧ Q (.bl (withinD d lo hi)) H
theorem ok_is_within (T : Defs K mg) (TT : Tabs T base) : FnOk P w K mg base CX0 2 T.f_is_within T.fd_is_within ["thing", "least", "greatest"] (sp_is_within K) := by
  have G_is_number : FnOk P w K mg base CX0 1 T.f_is_number T.fd_is_number ["thing"] (sp_is_number K) := ok_is_number T TT
  refine T.F_is_within.ok sc_is_within (fun vs H Q E h => ?_) (fun cdv A outer s H vs Q E hr h => ?_)
  · obtain ⟨p, x, d, lo, hi, rfl, hx, q⟩ := h
    rfl
  · obtain ⟨p, x, d, lo, hi, rfl, hx, q⟩ := h
    refine ⟨_, PSs.nox (pss_one (ps_ret (pe_and (pe_call G_is_number (hr.mono (by decide)) (by rfl) T.g_is_number T.F_is_number.kp T.b_is_number .nil pass0 (pa_cons (pv 0) pa_nil)) (pe_one (pe_chain op_le op_le (pv 1) (pv 0) (pv 2)))))), ?_⟩
    refine ⟨x, rfl, p, x, d, rfl, hx, _, rfl, ?_⟩
    cases hx with
    | int i =>
      refine iteT ⟨_, rfl, _, rfl, _, _, rfl, rfl, _, rfl, ?_⟩
      by_cases z : lo ≤ i
      · rw [decide_eq_true z]
        refine iteT ⟨_, rfl, _, _, rfl, rfl, ?_⟩
        have e : decide (i ≤ hi) = withinD (.int i) lo hi := decide_eq_decide.mpr ⟨fun y => ⟨z, y⟩, fun y => y.2⟩
        show Q (.bl (decide (i ≤ hi))) H
        rw [e]
        exact q
      · rw [decide_eq_false z]
        refine iteF ?_
        have e : withinD (.int i) lo hi = false := decide_eq_false (fun y => z y.1)
        rw [e] at q
        exact q
    | _ => exact iteF q
/-! tuples joined, cut, repeated: one way on -/
def rCatS (_ : PySem.W.Frag) : R2 := fun x y H Q => ∃ a b xs ys, x = .ref a ∧ y = .ref b ∧ H a = some (.tup xs) ∧ H b = some (.tup ys) ∧ xs.length + ys.length ≤ sizeLine ∧ ∀ G c, Same H G → G c = some (.tup (xs ++ ys)) → Q (.ref c) G
theorem op_catS {X : Cx} : OpR X (binaryOp .Add) (rCatS X.K) := by
  intro pins s σ H x y v u Q I rx ry h
  obtain ⟨a, b, xs, ys, rfl, rfl, ha, hb, hz, q⟩ := h
  refine op_catA pins s σ H _ _ v u Q I rx ry ⟨a, b, xs, ys, rfl, rfl, SqT.mk ha, SqT.mk hb, hz, fun e => ?_, fun _ e => ?_, fun _ _ p np => ?_⟩
  · subst e
    exact q H b (Same.refl H) hb
  · subst e
    exact q H a (Same.refl H) (by rw [List.append_nil]; exact ha)
  · exact q _ p (same_upd np) upd_same
def rSlS (_ : PySem.W.Frag) : V → Option Int → Option Int → Hp → VK → Prop := fun x lo hi H Q => ∃ a xs, x = .ref a ∧ H a = some (.tup xs) ∧ ∀ G c, Same H G → G c = some (.tup (cutV xs lo hi)) → Q (.ref c) G
theorem sl_tupS {X : Cx} : SlR X (rSlS X.K) := by
  intro pins s σ H x v vl vu lo hi sl Q I rx hs pl pu h
  obtain ⟨a, xs, rfl, ha, q⟩ := h
  refine sl_tupA pins s σ H _ v vl vu lo hi sl Q I rx hs pl pu ⟨a, xs, rfl, SqT.mk ha, fun e => ?_, fun _ p np => ?_⟩
  · refine q H a (Same.refl H) ?_
    unfold cutV
    rw [e.1, e.2, List.drop_zero, Nat.sub_zero, List.take_length]
    exact ha
  · exact q _ p (same_upd np) upd_same
def rRepS (_ : PySem.W.Frag) : R2 := fun x y H Q => ∃ (l : Addr) (k : Nat) (v : V), x = .ref l ∧ y = .int (k : Nat) ∧ H l = some (.tup [v]) ∧ k ≤ 1000000 ∧ ∀ G c, Same H G → G c = some (.tup (List.replicate k v)) → Q (.ref c) G
theorem rep_flat {α : Type} (v : α) : ∀ k : Nat, (List.replicate k [v]).flatten = List.replicate k v
  | 0 => rfl
  | k + 1 => by rw [List.replicate_succ, List.flatten_cons, rep_flat v k, List.replicate_succ]; rfl
theorem op_repS {X : Cx} : OpR X (binaryOp .Mult) (rRepS X.K) := by
  intro pins s σ H x y v u Q I rx ry h
  obtain ⟨l, k, z, rfl, rfl, hl, hk, q⟩ := h
  refine op_repB pins s σ H _ _ v u Q I rx ry ⟨l, k, [z], rfl, rfl, SqT.mk hl, by simp, by simpa using hk, fun e => ?_, fun _ p np => ?_⟩
  · refine q H l (Same.refl H) ?_
    rw [e]
    exact hl
  · refine q _ p (same_upd np) ?_
    rw [rep_flat]
    exact upd_same
theorem cut_lo (xs : List V) (m : Nat) (h : m ≤ xs.length) : cutV xs none (some (m : Nat)) = xs.take m := by
  unfold cutV
  show (xs.drop 0).take _ = _
  rw [HT.sIx_nat, List.drop_zero, show HT.sIx xs.length 0 none = 0 from rfl, Nat.sub_zero, Nat.min_eq_left h]
theorem cut_hi (xs : List V) (m : Nat) : cutV xs (some (m : Nat)) none = xs.drop m := by
  unfold cutV
  rw [HT.sIx_nat, show HT.sIx xs.length xs.length none = xs.length from rfl]
  by_cases h : m ≤ xs.length
  · rw [Nat.min_eq_left h]
    exact List.take_of_length_le (by rw [List.length_drop]; exact Nat.le_refl _)
  · rw [Nat.min_eq_right (by omega), List.drop_of_length_le (Nat.le_refl _), List.drop_of_length_le (by omega), List.take_nil]
/-! str(x) of any thing -/
def strD (d : PyData) : Str := match d with
  | .str z => z
  | d => d.shown
def rStrX (K : PySem.W.Frag) : List V → Hp → VK → Prop := fun xs H Q => ∃ v d, xs = [v] ∧ Dp K H v d ∧ ((∃ z, d = .str z) ∨ Sho d) ∧ Q (.str (strD d)) H
theorem u70g {k : Nat} {A : Around} (r : Room k A) : A.units + 70 < cLine := by
  have := r.un
  omega
theorem call_strX {X : Cx} (hg : X.A.guards = some []) (hu : X.A.units + 70 < cLine) : CallR X (.type "str") (rStrX X.K) := by
  intro pins s σ H vs us Q I r h
  obtain ⟨v, d, rfl, hd, sh, q⟩ := h
  cases hd with
  | non =>
    obtain ⟨u, rfl, r1⟩ := vals1 r
    cases r1
    exact PySem.P.str_of_none ⟨.str _, H, I.tok _, ⟨_, rfl⟩, q⟩
  | bl b =>
    obtain ⟨u, rfl, r1⟩ := vals1 r
    cases r1
    exact PySem.P.str_of_bool ⟨.str _, H, I.tok _, ⟨_, rfl⟩, by cases b <;> exact q⟩
  | int i =>
    obtain ⟨u, rfl, t, rfl⟩ := vals1 r
    rcases sh with ⟨z, e⟩ | sh
    · cases e
    have hs := sh.s
    simp only [PyData.showable] at hs
    exact PySem.P.str_of_int (of_decide_eq_true hs) ⟨.str _, H, I.tok _, ⟨_, rfl⟩, q⟩
  | str z =>
    obtain ⟨u, rfl, t, rfl⟩ := vals1 r
    exact PySem.P.str_of_str ⟨.str _, H, I, ⟨_, rfl⟩, q⟩
  | lst h1 h2 =>
    rcases sh with ⟨z, e⟩ | sh
    · cases e
    obtain ⟨shs, nd, dd, sz⟩ := sh
    rw [Vals.ref1 r]
    obtain ⟨as, rd⟩ := Dp.reads I _ (.ref _) (.ref _) (Dp.lst h1 h2) rfl
    refine str_of_reads rd shs (fun z => by rw [nd] at z; cases z) hg (by omega) (fun _ _ e => e) (fun h' u tk hk => ?_) sz
    exact ⟨.str _, H, I.kept (t' := tk) hk, ⟨_, rfl⟩, q⟩
  | tup h1 h2 =>
    rcases sh with ⟨z, e⟩ | sh
    · cases e
    obtain ⟨shs, nd, dd, sz⟩ := sh
    rw [Vals.ref1 r]
    obtain ⟨as, rd⟩ := Dp.reads I _ (.ref _) (.ref _) (Dp.tup h1 h2) rfl
    refine str_of_reads rd shs (fun z => by rw [nd] at z; cases z) hg (by omega) (fun _ _ e => e) (fun h' u tk hk => ?_) sz
    exact ⟨.str _, H, I.kept (t' := tk) hk, ⟨_, rfl⟩, q⟩
/-! things with tables about -/
mutual
theorem Tg.kp {p q : Addr → Prop} {H H' : Hp} (s1 : ∀ a xs, ¬ p a → H a = some (.lst xs) → H' a = some (.lst xs) ∧ ¬ q a) (s2 : ∀ a xs, ¬ p a → H a = some (.tup xs) → H' a = some (.tup xs) ∧ ¬ q a) : ∀ (d : PyData) (v : V), Tg p H v d → Tg q H' v d
  | .none, _, h => by cases h; exact .non
  | .bool b, _, h => by cases h; exact .bl b
  | .int i, _, h => by cases h; exact .int i
  | .str x, _, h => by cases h; exact .str x
  | .list ds, _, h => by
    cases h with
    | lst n e t => exact .lst (s1 _ _ n e).2 (s1 _ _ n e).1 (TgA.kp s1 s2 ds _ t)
  | .tuple ds, _, h => by
    cases h with
    | tup n e t => exact .tup (s2 _ _ n e).2 (s2 _ _ n e).1 (TgA.kp s1 s2 ds _ t)
  | .dict _, _, h => by cases h
theorem TgA.kp {p q : Addr → Prop} {H H' : Hp} (s1 : ∀ a xs, ¬ p a → H a = some (.lst xs) → H' a = some (.lst xs) ∧ ¬ q a) (s2 : ∀ a xs, ¬ p a → H a = some (.tup xs) → H' a = some (.tup xs) ∧ ¬ q a) : ∀ (ds : List PyData) (vs : List V), TgA p H vs ds → TgA q H' vs ds
  | [], _, h => by cases h; exact .nil
  | d :: ds, _, h => by
    cases h with
    | cons a b => exact .cons (Tg.kp s1 s2 d _ a) (TgA.kp s1 s2 ds _ b)
end
theorem Tg.sam {p : Addr → Prop} {H H' : Hp} {v : V} {d : PyData} (h : Tg p H v d) (s : Sam H H') : Tg p H' v d := h.kp (fun a xs n e => ⟨s.lst e, n⟩) (fun a xs n e => ⟨s.tup e, n⟩)
theorem TgA.sam {p : Addr → Prop} {H H' : Hp} {v : List V} {d : List PyData} (h : TgA p H v d) (s : Sam H H') : TgA p H' v d := h.kp (fun a xs n e => ⟨s.lst e, n⟩) (fun a xs n e => ⟨s.tup e, n⟩)
theorem tg_ints {p : Addr → Prop} {H : Hp} : ∀ rs : List Int, TgA p H (rs.map V.int) (rs.map PyData.int)
  | [] => .nil
  | x :: rs => .cons (.int x) (tg_ints rs)
/-! texts and numbers -/
theorem op_addS {X : Cx} : OpR X (binaryOp .Add) (fun x y H Q => ∃ a b, x = .str a ∧ y = .str b ∧ a.length + b.length ≤ sizeLine ∧ Q (.str (a ++ b)) H) := by
  intro pins s σ H x y v u Q I rx ry h
  obtain ⟨a, b, rfl, rfl, hz, q⟩ := h
  obtain ⟨t, rfl⟩ := rx
  obtain ⟨t', rfl⟩ := ry
  exact add_str (fun t' tk => ⟨.str _, H, I.tok _, ⟨_, rfl⟩, q⟩) hz
theorem op_mulS {X : Cx} : OpR X (binaryOp .Mult) (fun x y H Q => ∃ a i, x = .str a ∧ y = .int i ∧ (i = 0 ∨ i = 1) ∧ ∀ b, (b = Str.empty ∨ b = a) → Q (.str b) H) := by
  intro pins s σ H x y v u Q I rx ry h
  obtain ⟨a, i, rfl, rfl, h, q⟩ := h
  obtain ⟨t, rfl⟩ := rx
  obtain ⟨t', rfl⟩ := ry
  rcases h with rfl | rfl
  · exact PySem.P.mul_str_none (by decide) (by decide) ⟨.str _, H, I.tok _, ⟨_, rfl⟩, q _ (.inl rfl)⟩
  · refine PySem.P.mul_str (by decide) (fun _ h => ?_) (fun _ h => ?_) ?_
    · simp at h
    · simp at h
    · rw [if_neg (by decide), if_pos (by rfl)]
      exact ⟨.str _, H, I, ⟨_, rfl⟩, q _ (.inr rfl)⟩
def numV (v : V) (i : Int) : Prop := v = .int i ∨ ∃ b, v = .bl b ∧ i = if b = true then 1 else 0
theorem op_addN1 {X : Cx} : OpR X (binaryOp .Add) (fun x y H Q => ∃ i j, numV x i ∧ y = .int j ∧ Q (.int (i + j)) H) := by
  intro pins s σ H x y v u Q I rx ry h
  obtain ⟨i, j, hx, rfl, q⟩ := h
  obtain ⟨t', rfl⟩ := ry
  rcases hx with rfl | ⟨b, rfl, rfl⟩
  · obtain ⟨t, rfl⟩ := rx
    exact add_int ⟨.int _, H, I.tok _, ⟨_, rfl⟩, q⟩
  · cases rx
    exact PySem.IntBool.add_bool_int ⟨.int _, H, I.tok _, ⟨_, rfl⟩, q⟩
theorem op_subN1 {X : Cx} : OpR X (binaryOp .Sub) (fun x y H Q => ∃ i j, numV x i ∧ y = .int j ∧ Q (.int (i - j)) H) := by
  intro pins s σ H x y v u Q I rx ry h
  obtain ⟨i, j, hx, rfl, q⟩ := h
  obtain ⟨t', rfl⟩ := ry
  rcases hx with rfl | ⟨b, rfl, rfl⟩
  · obtain ⟨t, rfl⟩ := rx
    exact sub_int ⟨.int _, H, I.tok _, ⟨_, rfl⟩, q⟩
  · cases rx
    exact PySem.IntBool.sub_bool_int ⟨.int _, H, I.tok _, ⟨_, rfl⟩, q⟩
theorem op_subN2 {X : Cx} : OpR X (binaryOp .Sub) (fun x y H Q => ∃ i j, x = .int i ∧ numV y j ∧ Q (.int (i - j)) H) := by
  intro pins s σ H x y v u Q I rx ry h
  obtain ⟨i, j, rfl, hy, q⟩ := h
  obtain ⟨t, rfl⟩ := rx
  rcases hy with rfl | ⟨b, rfl, rfl⟩
  · obtain ⟨t', rfl⟩ := ry
    exact sub_int ⟨.int _, H, I.tok _, ⟨_, rfl⟩, q⟩
  · cases ry
    exact PySem.IntBool.sub_int_bool ⟨.int _, H, I.tok _, ⟨_, rfl⟩, q⟩
theorem call_strN {X : Cx} : CallR X (.type "str") (fun xs H Q => ∃ x i, xs = [x] ∧ numV x i ∧ i.natAbs.log2 < 1920 ∧ ∀ z : Str, (z = Str.ofString (toString i) ∨ z = "True" ∨ z = "False") → Q (.str z) H) := by
  intro pins s σ H xs us Q I r h
  obtain ⟨x, i, rfl, hx, hz, q⟩ := h
  rcases hx with rfl | ⟨b, rfl, _⟩
  · obtain ⟨u, rfl, t, rfl⟩ := vals1 r
    exact PySem.P.str_of_int hz ⟨.str _, H, I.tok _, ⟨_, rfl⟩, q _ (.inl rfl)⟩
  · obtain ⟨u, rfl, r1⟩ := vals1 r
    cases r1
    exact PySem.P.str_of_bool ⟨.str _, H, I.tok _, ⟨_, rfl⟩, q _ (by cases b <;> simp)⟩
theorem call_lenX {X : Cx} : CallR X (.builtin "len") (fun xs H Q => (∃ z, xs = [.str z] ∧ z.length ≤ sizeLine ∧ Q (.int z.length) H) ∨ ∃ p ys, xs = [.ref p] ∧ (SqL X.K H p ys ∨ SqT X.K H p ys) ∧ Q (.int ys.length) H) := by
  intro pins s σ H xs us Q I r h
  rcases h with h | h
  · exact call_len_str pins s σ H xs us Q I r h
  · exact call_len_seq pins s σ H xs us Q I r h
/-! texts and things that are small -/
theorem ok_iff {x : Str} : PyData.strOk x = true ↔ ∀ c, c ∈ x.cps.toList → c < 0x110000 := by
  unfold PyData.strOk
  rw [Array.all_eq_true_iff_forall_mem]
  exact ⟨fun h c hc => by simpa using h c (Array.mem_toList_iff.mp hc), fun h c hc => by simpa using h c (Array.mem_toList_iff.mpr hc)⟩
theorem ok_app {a b : Str} (h : PyData.strOk a = true) (g : PyData.strOk b = true) : PyData.strOk (a ++ b) = true := by
  refine ok_iff.mpr fun c hc => ?_
  have hc : c ∈ (a.cps ++ b.cps).toList := hc
  rw [Array.toList_append] at hc
  rcases List.mem_append.mp hc with hc | hc
  · exact ok_iff.mp h c hc
  · exact ok_iff.mp g c hc
theorem ok_cut {a : Str} (lo hi : Option Int) (h : PyData.strOk a = true) : PyData.strOk (cutS a lo hi) = true := by
  refine ok_iff.mpr fun c hc => ?_
  have hc : c ∈ ((a.cps.toList.drop (HT.sIx a.length 0 lo)).take (HT.sIx a.length a.length hi - HT.sIx a.length 0 lo)).toArray.toList := hc
  rw [List.toList_toArray] at hc
  exact ok_iff.mp h c (List.mem_of_mem_drop (List.mem_of_mem_take hc))
theorem ok_of (s : String) : PyData.strOk (Str.ofString s) = true := by
  refine ok_iff.mpr fun c hc => ?_
  rw [Str.ofString_eq_toList] at hc
  simp only [List.toList_toArray, List.mem_map] at hc
  obtain ⟨x, _, rfl⟩ := hc
  have := x.valid
  rcases this with h | ⟨_, h⟩
  · show x.val.toNat < _
    omega
  · exact h
theorem bd_int {k : Nat} {i : Int} (h : i.natAbs < 10 ^ k) : Bd k 0 (4 * k + 1) (.int i) := ⟨by simp only [gd]; exact decide_eq_true h, (shs_int h).dp, (shs_int h).wt⟩
theorem bd_str {k : Nat} {z : Str} (h : PyData.strOk z = true) : Bd k 0 z.length (.str z) := ⟨by simpa only [gd] using h, by simp only [PyData.depth]; decide, by simp only [PyData.weight]; exact Nat.le_refl _⟩
theorem bd_bl {k : Nat} {b : Bool} : Bd k 0 0 (.bool b) := ⟨rfl, by simp only [PyData.depth]; decide, by simp only [PyData.weight]; decide⟩
theorem bd_len {k n w : Nat} {z : Str} (h : Bd k n w (.str z)) : PyData.strOk z = true ∧ z.length ≤ w := ⟨by simpa only [gd] using h.g, by have := h.wt; simp only [PyData.weight] at this; exact this⟩
theorem pow_t {k : Nat} (h : 2 ≤ k) : 100 ≤ 10 ^ k ∧ 10 ^ (k + 1) = 10 * 10 ^ k := ⟨Nat.le_trans (by decide) (Nat.pow_le_pow_right (n := 10) (by decide) h), by rw [Nat.pow_succ]; omega⟩
/-- six numbers and texts near a number -/
theorem num_bd {k : Nat} {i : Int} {b0 : Bool} {z : Str} (hk : 2 ≤ k) (k20 : k ≤ 20) (hi : i.natAbs < 10 ^ k) (hz : z = Str.ofString (toString i) ∨ z = "True" ∨ z = "False") : ∀ d, d ∈ [PyData.int (i + 1), .int (i - 1), .bool b0, .int 6, .str z, .int (5 - i)] → Bd (k + 1) 0 100 d := by
  obtain ⟨t1, t2⟩ := pow_t hk
  have ok : PyData.strOk z = true ∧ z.length ≤ 100 := by
    rcases hz with rfl | rfl | rfl
    · refine ⟨ok_of _, ?_⟩
      rw [PySem.ofString_length]
      have := int_text_length_le10 (k := k) (by omega) hi
      omega
    · exact ⟨ok_of _, by decide +kernel⟩
    · exact ⟨ok_of _, by decide +kernel⟩
  intro d hd
  simp only [List.mem_cons, List.not_mem_nil, or_false] at hd
  rcases hd with rfl | rfl | rfl | rfl | rfl | rfl
  · exact (bd_int (by omega)).mono (Nat.le_refl _) (Nat.le_refl _) (by omega)
  · exact (bd_int (by omega)).mono (Nat.le_refl _) (Nat.le_refl _) (by omega)
  · exact bd_bl.mono (Nat.le_refl _) (Nat.le_refl _) (by omega)
  · exact (bd_int (by omega)).mono (Nat.le_refl _) (Nat.le_refl _) (by omega)
  · exact (bd_str ok.1).mono (Nat.le_refl _) (Nat.le_refl _) ok.2
  · exact (bd_int (by omega)).mono (Nat.le_refl _) (Nat.le_refl _) (by omega)
theorem ix_at {n j : Nat} (h : j < n) : ixN n (j : Int) = some j := by
  unfold ixN
  rw [if_pos (by omega), if_pos (by omega)]
  simp
theorem ix_prev {n j : Nat} (h : j < n) : ∃ m, ixN n ((j : Int) - 1) = some m ∧ m < n := by
  by_cases z : j = 0
  · subst z
    exact ⟨n - 1, by unfold ixN; rw [if_neg (by omega), if_pos (by omega)]; exact congrArg some (by omega), by omega⟩
  · exact ⟨j - 1, by rw [show (j : Int) - 1 = ((j - 1 : Nat) : Int) by omega]; exact ix_at (by omega), by omega⟩
theorem weiA_set : ∀ {ds : List PyData} {i : Nat} {d x : PyData}, ds[i]? = some d → PyData.weightAll (ds.set i x) + d.weight = PyData.weightAll ds + x.weight
  | y :: ds, 0, d, x, h => by
    cases h
    simp only [List.set_cons_zero, PyData.weightAll]
    omega
  | y :: ds, i + 1, d, x, h => by
    have := weiA_set (ds := ds) (i := i) (d := d) (x := x) (by simpa using h)
    simp only [List.set_cons_succ, PyData.weightAll]
    omega
theorem weiA_erase : ∀ (ds : List PyData) (i : Nat), PyData.weightAll (ds.eraseIdx i) ≤ PyData.weightAll ds
  | [], _ => by simp
  | y :: ds, 0 => by
    simp only [List.eraseIdx_cons_zero, PyData.weightAll]
    omega
  | y :: ds, i + 1 => by
    have := weiA_erase ds i
    simp only [List.eraseIdx_cons_succ, PyData.weightAll]
    omega
theorem BdA.of {k n w : Nat} {ds : List PyData} (h : ∀ d, d ∈ ds → gd k d = true ∧ d.depth ≤ n) (l : PyData.weightAll ds ≤ w) : BdA k n w ds := ⟨gdA_all.mpr fun d hd => (h d hd).1, depA_of ds fun d hd => (h d hd).2, l⟩
theorem BdA.each {k n w : Nat} {ds : List PyData} (h : BdA k n w ds) {d : PyData} (hd : d ∈ ds) : gd k d = true ∧ d.depth ≤ n := ⟨gdA_all.mp h.g d hd, depA_mem hd h.dp⟩
theorem BdA.erase {k n w : Nat} {ds : List PyData} (h : BdA k n w ds) (i : Nat) : BdA k n w (ds.eraseIdx i) := .of (fun _ hd => h.each (List.mem_of_mem_eraseIdx hd)) (Nat.le_trans (weiA_erase ds i) h.wt)
theorem BdA.set {k n w v : Nat} {ds : List PyData} (h : BdA k n w ds) {i : Nat} {d x : PyData} (hd : ds[i]? = some d) (g : gd k x = true) (p : x.depth ≤ n) (l : PyData.weightAll ds + x.weight ≤ v + d.weight) : BdA k n v (ds.set i x) := .of (fun y hy => by
  rcases List.mem_or_eq_of_mem_set hy with hy | rfl
  · exact h.each hy
  · exact ⟨g, p⟩) (by have := weiA_set (x := x) hd; omega)
theorem weiA_ins (ds : List PyData) (i : Nat) (x : PyData) : PyData.weightAll (ds.take i ++ [x] ++ ds.drop i) = PyData.weightAll ds + x.weight + 1 := by
  have := weiA_app (ds.take i) (ds.drop i)
  rw [List.take_append_drop] at this
  rw [weiA_app, weiA_app, this]
  simp only [PyData.weightAll]
  omega
theorem BdA.ins {k n w v : Nat} {ds : List PyData} (h : BdA k n w ds) (i : Nat) {x : PyData} (g : gd k x = true) (p : x.depth ≤ n) (l : w + x.weight + 1 ≤ v) : BdA k n v (ds.take i ++ [x] ++ ds.drop i) := .of (fun y hy => by
  rcases List.mem_append.mp hy with hy | hy
  · rcases List.mem_append.mp hy with hy | hy
    · exact h.each (List.mem_of_mem_take hy)
    · rw [List.mem_singleton.mp hy]
      exact ⟨g, p⟩
  · exact h.each (List.mem_of_mem_drop hy)) (by rw [weiA_ins]; have := h.wt; omega)
theorem TgA.set {p : Addr → Prop} {H : Hp} {x : V} {d : PyData} (hx : Tg p H x d) : ∀ {ds : List PyData} {vs : List V}, TgA p H vs ds → ∀ i : Nat, TgA p H (vs.set i x) (ds.set i d)
  | [], _, h, i => by cases h; exact .nil
  | e :: ds, _, h, i => by
    cases h with
    | cons a b =>
      cases i with
      | zero => exact .cons hx b
      | succ i => exact .cons a (TgA.set hx b i)
theorem TgA.erase {p : Addr → Prop} {H : Hp} : ∀ {ds : List PyData} {vs : List V}, TgA p H vs ds → ∀ i : Nat, TgA p H (vs.eraseIdx i) (ds.eraseIdx i)
  | [], _, h, i => by cases h; exact .nil
  | e :: ds, _, h, i => by
    cases h with
    | cons a b =>
      cases i with
      | zero => exact b
      | succ i => exact .cons a (TgA.erase b i)
theorem TgA.ins {p : Addr → Prop} {H : Hp} {ds : List PyData} {vs : List V} (h : TgA p H vs ds) {x : V} {d : PyData} (hx : Tg p H x d) (i : Nat) : TgA p H (vs.take i ++ [x] ++ vs.drop i) (ds.take i ++ [d] ++ ds.drop i) := ((h.split i).1.app (.cons hx .nil)).app (h.split i).2
theorem at_menuV {Pr : V → Prop} {xs : List V} {r : Int} (h0 : 0 ≤ r) (h1 : r < xs.length) (hx : ∀ x, x ∈ xs → Pr x) : ∃ v, atI xs r = some v ∧ Pr v := by
  obtain ⟨j, rfl⟩ := Int.eq_ofNat_of_zero_le h0
  have hj : j < xs.length := by omega
  exact ⟨xs[j], atI_nat (List.getElem?_eq_getElem hj), hx _ (List.getElem_mem hj)⟩
theorem len_wei : ∀ ds : List PyData, ds.length ≤ PyData.weightAll ds
  | [] => Nat.zero_le _
  | x :: ds => by
    have := len_wei ds
    simp only [List.length_cons, PyData.weightAll]
    omega
theorem Bx.upd {H : Hp} {p l : Addr} {n : Nat} {o : HO} (B : Bx H p n) (h : l ≠ p) : Bx (upd H l o) p n := by
  obtain ⟨a, b, c, e, r⟩ := B
  exact ⟨a, b, c, (upd_ne h.symm).trans e, r⟩
/-- lists that stand -/
def Sts (E : Addr → Prop) (H : Hp) : Prop := ∀ q, E q → H q ≠ none
theorem Sts.not {E : Addr → Prop} {H : Hp} {t : Addr} (h : Sts E H) (n : H t = none) : ¬ E t := fun e => h t e n
theorem Sts.same {E : Addr → Prop} {H H' : Hp} (h : Sts E H) (s : Same H H') : Sts E H' := fun q e n => by
  cases z : H q with
  | none => exact h q e z
  | some o =>
    rw [s _ _ z] at n
    cases n
theorem Bx.some {H : Hp} {p : Addr} {n : Nat} (B : Bx H p n) : H p ≠ none := by
  obtain ⟨a, b, c, h, _⟩ := B
  rw [h]
  exact fun z => by cases z
theorem Sts.but {E : Addr → Prop} {H H' : Hp} {p : Addr} {n : Nat} (h : Sts E H) (s : But p H H') (B : Bx H' p n) : Sts E H' := fun q e z => by
  by_cases qp : q = p
  · subst qp
    exact B.some z
  · cases y : H q with
    | none => exact h q e y
    | some o =>
      rw [s _ _ qp y] at z
      cases z
theorem Tg.bt {E : Addr → Prop} {H H' : Hp} {v : V} {d : PyData} {p : Addr} (h : Tg E H v d) (e : E p) (s : But p H H') : Tg E H' v d := h.keep fun a o n q => s a o (fun z => n (z ▸ e)) q
theorem TgA.bt {E : Addr → Prop} {H H' : Hp} {v : List V} {d : List PyData} {p : Addr} (h : TgA E H v d) (e : E p) (s : But p H H') : TgA E H' v d := h.keep fun a o n q => s a o (fun z => n (z ▸ e)) q
/-! slices of lists and tuples alike; numbers times things -/
def rSlU (K : PySem.W.Frag) : V → Option Int → Option Int → Hp → VK → Prop := fun x lo hi H Q => ∃ a xs, x = .ref a ∧ (H a = some (.lst xs) ∨ H a = some (.tup xs)) ∧ ∀ G c, Same H G → (SqL K G c (cutV xs lo hi) ∨ SqT K G c (cutV xs lo hi)) → Q (.ref c) G
theorem sl_any {X : Cx} : SlR X (rSlU X.K) := by
  intro pins s σ H x v vl vu lo hi sl Q I rx hs pl pu h
  obtain ⟨a, xs, rfl, ha, q⟩ := h
  rcases ha with ha | ha
  · exact sl_list pins s σ H _ v vl vu lo hi sl Q I rx hs pl pu ⟨a, xs, rfl, SqL.mk ha, fun p np => q _ p (same_upd np) (.inl (SqL.mk upd_same))⟩
  · exact sl_tupS pins s σ H _ v vl vu lo hi sl Q I rx hs pl pu ⟨a, xs, rfl, ha, fun G c sG hc => q G c sG (.inr (SqT.mk hc))⟩
theorem cut_mid (xs : List V) (j : Nat) (x : V) (h : xs[j]? = some x) : cutV xs (some (j : Nat)) (some ((j : Nat) + 1)) = [x] := by
  have jl := (List.getElem?_eq_some_iff.mp h).1
  unfold cutV
  rw [show ((j : Int) + 1) = ((j + 1 : Nat) : Int) by omega]
  have e1 : HT.sIx xs.length 0 (some ((j : Nat) : Int)) = j := by
    rw [HT.sIx_nat]
    omega
  have e2 : HT.sIx xs.length xs.length (some ((j + 1 : Nat) : Int)) = j + 1 := by
    rw [HT.sIx_nat]
    omega
  rw [e1, e2, show j + 1 - j = 1 by omega, List.drop_eq_getElem_cons jl]
  simp only [List.take_succ_cons, List.take_zero]
  rw [(List.getElem?_eq_some_iff.mp h).2]
theorem split_at {α : Type} (xs : List α) (j : Nat) (x : α) (h : xs[j]? = some x) : xs = xs.take j ++ [x] ++ xs.drop (j + 1) := by
  have jl := (List.getElem?_eq_some_iff.mp h).1
  have e := (List.getElem?_eq_some_iff.mp h).2
  have := List.take_append_drop j xs
  rw [List.drop_eq_getElem_cons jl, e] at this
  rw [List.append_assoc]
  exact this.symm
theorem op_mulN2 {X : Cx} : OpR X (binaryOp .Mult) (fun x y H Q => ∃ i j, x = .int i ∧ numV y j ∧ Builtin.Int.intBits i ≤ 64 ∧ Q (.int (i * j)) H) := by
  intro pins s σ H x y v u Q I rx ry h
  obtain ⟨i, j, rfl, hy, hb, q⟩ := h
  obtain ⟨t, rfl⟩ := rx
  rcases hy with rfl | ⟨b, rfl, rfl⟩
  · obtain ⟨t', rfl⟩ := ry
    exact mul_int ⟨.int _, H, I.tok _, ⟨_, rfl⟩, q⟩ (IntMulOk.of_left hb)
  · cases ry
    exact PySem.IntBool.mul_int_bool ⟨.int _, H, I.tok _, ⟨_, rfl⟩, q⟩
/-! makers as things -/
theorem Tg.tupv {p : Addr → Prop} {H : Hp} {v : V} {ds : List PyData} (h : Tg p H v (.tuple ds)) : ∃ a xs, v = .ref a ∧ ¬ p a ∧ H a = some (.tup xs) ∧ TgA p H xs ds := by
  cases h with
  | tup np ha hx => exact ⟨_, _, rfl, np, ha, hx⟩
theorem Tg.intv {p : Addr → Prop} {H : Hp} {v : V} {i : Int} (h : Tg p H v (.int i)) : v = .int i := by
  cases h
  rfl
theorem Tg.strv {p : Addr → Prop} {H : Hp} {v : V} {z : Str} (h : Tg p H v (.str z)) : v = .str z := by
  cases h
  rfl
theorem TgA.ints {p : Addr → Prop} {H : Hp} : ∀ {ns : List Int} {xs : List V}, TgA p H xs (ns.map PyData.int) → xs = ns.map V.int
  | [], _, h => by cases h; rfl
  | n :: ns, _, h => by
    cases h with
    | cons a b => rw [a.intv, TgA.ints b]; rfl
theorem TgA.of_ints {p : Addr → Prop} {H : Hp} : ∀ (ns : List Int), TgA p H (ns.map V.int) (ns.map PyData.int)
  | [] => .nil
  | n :: ns => .cons (.int n) (TgA.of_ints ns)
theorem TgA.two {p : Addr → Prop} {H : Hp} {xs : List V} {a b : PyData} (h : TgA p H xs [a, b]) : ∃ x y, xs = [x, y] ∧ Tg p H x a ∧ Tg p H y b := by
  cases h with
  | cons h1 h =>
    cases h with
    | cons h2 h => cases h; exact ⟨_, _, rfl, h1, h2⟩
theorem TgA.three {p : Addr → Prop} {H : Hp} {xs : List V} {a b c : PyData} (h : TgA p H xs [a, b, c]) : ∃ x y z, xs = [x, y, z] ∧ Tg p H x a ∧ Tg p H y b ∧ Tg p H z c := by
  cases h with
  | cons h1 h =>
    obtain ⟨x, y, rfl, h2, h3⟩ := h.two
    exact ⟨_, _, _, rfl, h1, h2, h3⟩
theorem TgA.four {p : Addr → Prop} {H : Hp} {xs : List V} {a b c d : PyData} (h : TgA p H xs [a, b, c, d]) : ∃ x y z w, xs = [x, y, z, w] ∧ Tg p H x a ∧ Tg p H y b ∧ Tg p H z c ∧ Tg p H w d := by
  cases h with
  | cons h1 h =>
    obtain ⟨x, y, z, rfl, h2, h3, h4⟩ := h.three
    exact ⟨_, _, _, _, rfl, h1, h2, h3, h4⟩
def mkd : Mk → PyData
  | .counter r s t => .tuple [.str "counter", .int (r : Nat), .int (s : Nat), .int (t : Nat)]
  | .table ns => .tuple [.str "table", .tuple (ns.map PyData.int)]
  | .turned w s => .tuple [.str "turned", .int (w : Nat), .int (s : Nat)]
  | .register w p s => .tuple [.str "register", .int (w : Nat), .int (p : Nat), .int (s : Nat)]
  | .slow n m => .tuple [.str "slow", .int (n : Nat), mkd m]
  | .slip n m => .tuple [.str "slip", .int (n : Nat), mkd m]
  | .late n m => .tuple [.str "late", .int (n : Nat), mkd m]
theorem tg_mk {p : Addr → Prop} {H : Hp} : ∀ {m : Mk} {v : V}, Tg p H v (mkd m) → MkAt H m v
  | .counter r s t, _, h => by
    obtain ⟨a, xs, rfl, _, ha, hx⟩ := Tg.tupv h
    obtain ⟨x, y, z, w, rfl, h1, h2, h3, h4⟩ := hx.four
    exact ⟨a, rfl, by rw [ha, h1.strv, h2.intv, h3.intv, h4.intv]⟩
  | .table ns, _, h => by
    obtain ⟨a, xs, rfl, _, ha, hx⟩ := Tg.tupv h
    obtain ⟨x, y, rfl, h1, h2⟩ := hx.two
    obtain ⟨b, ys, rfl, _, hb, hy⟩ := Tg.tupv h2
    exact ⟨a, b, rfl, by rw [ha, h1.strv], by rw [hb, hy.ints]⟩
  | .turned w s, _, h => by
    obtain ⟨a, xs, rfl, _, ha, hx⟩ := Tg.tupv h
    obtain ⟨x, y, z, rfl, h1, h2, h3⟩ := hx.three
    exact ⟨a, rfl, by rw [ha, h1.strv, h2.intv, h3.intv]⟩
  | .register w q s, _, h => by
    obtain ⟨a, xs, rfl, _, ha, hx⟩ := Tg.tupv h
    obtain ⟨x, y, z, w, rfl, h1, h2, h3, h4⟩ := hx.four
    exact ⟨a, rfl, by rw [ha, h1.strv, h2.intv, h3.intv, h4.intv]⟩
  | .slow n m, _, h => by
    obtain ⟨a, xs, rfl, _, ha, hx⟩ := Tg.tupv h
    obtain ⟨x, y, z, rfl, h1, h2, h3⟩ := hx.three
    exact ⟨a, z, rfl, by rw [ha, h1.strv, h2.intv], tg_mk h3⟩
  | .slip n m, _, h => by
    obtain ⟨a, xs, rfl, _, ha, hx⟩ := Tg.tupv h
    obtain ⟨x, y, z, rfl, h1, h2, h3⟩ := hx.three
    exact ⟨a, z, rfl, by rw [ha, h1.strv, h2.intv], tg_mk h3⟩
  | .late n m, _, h => by
    obtain ⟨a, xs, rfl, _, ha, hx⟩ := Tg.tupv h
    obtain ⟨x, y, z, rfl, h1, h2, h3⟩ := hx.three
    exact ⟨a, z, rfl, by rw [ha, h1.strv, h2.intv], tg_mk h3⟩
theorem mk_tg {p : Addr → Prop} {H : Hp} (np : ∀ a xs, H a = some (.tup xs) → ¬ p a) : ∀ {m : Mk} {v : V}, MkAt H m v → Tg p H v (mkd m)
  | .counter r s t, _, ⟨a, e, h⟩ => by rw [e]; exact .tup (np _ _ h) h (.cons (.str _) (.cons (.int _) (.cons (.int _) (.cons (.int _) .nil))))
  | .table ns, _, ⟨a, b, e, h, k⟩ => by rw [e]; exact .tup (np _ _ h) h (.cons (.str _) (.cons (.tup (np _ _ k) k (TgA.of_ints ns)) .nil))
  | .turned w s, _, ⟨a, e, h⟩ => by rw [e]; exact .tup (np _ _ h) h (.cons (.str _) (.cons (.int _) (.cons (.int _) .nil)))
  | .register w q s, _, ⟨a, e, h⟩ => by rw [e]; exact .tup (np _ _ h) h (.cons (.str _) (.cons (.int _) (.cons (.int _) (.cons (.int _) .nil))))
  | .slow n m, _, ⟨a, x, e, h, k⟩ => by rw [e]; exact .tup (np _ _ h) h (.cons (.str _) (.cons (.int _) (.cons (mk_tg np k) .nil)))
  | .slip n m, _, ⟨a, x, e, h, k⟩ => by rw [e]; exact .tup (np _ _ h) h (.cons (.str _) (.cons (.int _) (.cons (mk_tg np k) .nil)))
  | .late n m, _, ⟨a, x, e, h, k⟩ => by rw [e]; exact .tup (np _ _ h) h (.cons (.str _) (.cons (.int _) (.cons (mk_tg np k) .nil)))
theorem map_int_inj : ∀ {xs ys : List Int}, xs.map PyData.int = ys.map PyData.int → xs = ys
  | [], [], _ => rfl
  | [], _ :: _, h => by cases h
  | _ :: _, [], h => by cases h
  | x :: xs, y :: ys, h => by
    simp only [List.map_cons, List.cons.injEq, PyData.int.injEq] at h
    rw [h.1, map_int_inj h.2]
theorem tup_in {xs ys : List PyData} (h : PyData.tuple xs = .tuple ys) : xs = ys := PyData.tuple.inj h
theorem mkd_inj : ∀ {m k : Mk}, mkd m = mkd k → m = k
  | .counter _ _ _, k, h => by
    cases k <;> simp only [mkd, PyData.tuple.injEq, List.cons.injEq, PyData.str.injEq, PyData.int.injEq, and_true, reduceCtorEq, and_false, false_and] at h
    all_goals first
      | exact absurd h.1 (by decide +kernel)
      | (obtain ⟨_, h1, h2, h3⟩ := h
         rw [Int.ofNat.inj h1, Int.ofNat.inj h2, Int.ofNat.inj h3])
  | .table _, k, h => by
    cases k <;> simp only [mkd, PyData.tuple.injEq, List.cons.injEq, PyData.str.injEq, PyData.int.injEq, and_true, reduceCtorEq, and_false, false_and] at h
    all_goals first
      | exact absurd h.1 (by decide +kernel)
      | (obtain ⟨_, h1⟩ := h
         rw [map_int_inj h1])
  | .turned _ _, k, h => by
    cases k <;> simp only [mkd, PyData.tuple.injEq, List.cons.injEq, PyData.str.injEq, PyData.int.injEq, and_true, reduceCtorEq, and_false, false_and] at h
    all_goals first
      | exact absurd h.1 (by decide +kernel)
      | (obtain ⟨_, h1, h2⟩ := h
         rw [Int.ofNat.inj h1, Int.ofNat.inj h2])
  | .register _ _ _, k, h => by
    cases k <;> simp only [mkd, PyData.tuple.injEq, List.cons.injEq, PyData.str.injEq, PyData.int.injEq, and_true, reduceCtorEq, and_false, false_and] at h
    all_goals first
      | exact absurd h.1 (by decide +kernel)
      | (obtain ⟨_, h1, h2, h3⟩ := h
         rw [Int.ofNat.inj h1, Int.ofNat.inj h2, Int.ofNat.inj h3])
  | .slow _ _, k, h => by
    cases k <;> simp only [mkd, PyData.tuple.injEq, List.cons.injEq, PyData.str.injEq, PyData.int.injEq, and_true, reduceCtorEq, and_false, false_and] at h
    all_goals first
      | exact absurd h.1 (by decide +kernel)
      | (obtain ⟨_, h1, h2⟩ := h
         rw [Int.ofNat.inj h1, mkd_inj h2])
  | .slip _ _, k, h => by
    cases k <;> simp only [mkd, PyData.tuple.injEq, List.cons.injEq, PyData.str.injEq, PyData.int.injEq, and_true, reduceCtorEq, and_false, false_and] at h
    all_goals first
      | exact absurd h.1 (by decide +kernel)
      | (obtain ⟨_, h1, h2⟩ := h
         rw [Int.ofNat.inj h1, mkd_inj h2])
  | .late _ _, k, h => by
    cases k <;> simp only [mkd, PyData.tuple.injEq, List.cons.injEq, PyData.str.injEq, PyData.int.injEq, and_true, reduceCtorEq, and_false, false_and] at h
    all_goals first
      | exact absurd h.1 (by decide +kernel)
      | (obtain ⟨_, h1, h2⟩ := h
         rw [Int.ofNat.inj h1, mkd_inj h2])
/-- makers that the program takes, as to their own steps -/
def Mk.Vd : Mk → Prop
  | .counter r s _ => 1 ≤ s ∧ s ≤ r ∧ Nat.gcd s r = 1
  | _ => True
def plainD (d : PyData) : Prop := ∃ m : Mk, d = mkd m ∧ m.Pl ∧ m.Vd
def isMkD (d : PyData) : Prop := ∃ m : Mk, d = mkd m ∧ m.Ok ∧ m.inn.Vd ∧ m.dep ≤ 3 ∧ m.rnd ≤ 4096
/-- what a plain maker's first part tells of the others -/
theorem pl_cases {ds : List PyData} (h : plainD (.tuple ds)) :
    (∃ r s t : Nat, ds = [.str "counter", .int r, .int s, .int t] ∧ (1 ≤ r ∧ r ≤ 64) ∧ (1 ≤ s ∧ s ≤ r) ∧ Nat.gcd s r = 1 ∧ t < r) ∨
    (∃ w s : Nat, ds = [.str "turned", .int w, .int s] ∧ (1 ≤ w ∧ w ≤ 6) ∧ s < 2 ^ w) ∨
    (∃ w q s : Nat, ds = [.str "register", .int w, .int q, .int s] ∧ RgW w q ∧ 1 ≤ s ∧ s < 2 ^ w) ∨
    (∃ ns : List Int, ds = [.str "table", .tuple (ns.map PyData.int)] ∧ (1 ≤ ns.length ∧ ns.length ≤ 64) ∧ ∀ x, x ∈ ns → 0 ≤ x ∧ x ≤ 63) := by
  obtain ⟨m, e, pl, vd⟩ := h
  cases m with
  | counter r s t => exact .inl ⟨r, s, t, tup_in e, ⟨pl.1, pl.2.1⟩, ⟨vd.1, vd.2.1⟩, vd.2.2, pl.2.2.2⟩
  | turned w s => exact .inr (.inl ⟨w, s, tup_in e, ⟨pl.1, pl.2.1⟩, pl.2.2⟩)
  | register w q s => exact .inr (.inr (.inl ⟨w, q, s, tup_in e, pl.1, pl.2.1, pl.2.2⟩))
  | table ns => exact .inr (.inr (.inr ⟨ns, tup_in e, ⟨pl.1, pl.2.1⟩, pl.2.2⟩))
  | _ => exact pl.elim
theorem isInt_is {d : PyData} (h : isIntD d = true) : ∃ i, d = .int i := by
  cases d <;> first | exact ⟨_, rfl⟩ | cases h
theorem within_is {d : PyData} {lo hi : Int} (h : withinD d lo hi = true) : ∃ i, d = .int i ∧ lo ≤ i ∧ i ≤ hi := by
  cases d <;> first | exact ⟨_, rfl, (of_decide_eq_true h).1, (of_decide_eq_true h).2⟩ | cases h
theorem within_no {i lo hi : Int} (h : withinD (.int i) lo hi = false) : ¬ (lo ≤ i ∧ i ≤ hi) := fun z => by
  have : withinD (.int i) lo hi = true := decide_eq_true z
  rw [this] at h
  cases h
/-- what stands around a thing -/
def arD (d : PyData) : Option PyData := match d with
  | .tuple [.str z, x, e] => if z = "late" then (if withinD x 0 64 then some e else none) else if z = "slow" ∨ z = "slip" then (if withinD x 1 64 then some e else none) else none
  | _ => none
theorem arD_is {d e : PyData} (h : arD d = some e) : ∃ (z : Str) (n : Nat), d = .tuple [.str z, .int (n : Nat), e] ∧ ((z = "late" ∧ n ≤ 64) ∨ (z = "slow" ∧ 1 ≤ n ∧ n ≤ 64) ∨ (z = "slip" ∧ 1 ≤ n ∧ n ≤ 64)) := by
  unfold arD at h
  split at h
  · rename_i z x e'
    split at h
    · rename_i hz
      split at h
      · rename_i hw
        obtain ⟨i, rfl, l, u⟩ := within_is hw
        obtain ⟨n, rfl⟩ := nat_of l
        cases h
        exact ⟨z, n, rfl, .inl ⟨hz, by omega⟩⟩
      · cases h
    · split at h
      · rename_i hz
        split at h
        · rename_i hw
          obtain ⟨i, rfl, l, u⟩ := within_is hw
          obtain ⟨n, rfl⟩ := nat_of (show 0 ≤ i by omega)
          cases h
          rcases hz with hz | hz
          · exact ⟨z, n, rfl, .inr (.inl ⟨hz, by omega, by omega⟩)⟩
          · exact ⟨z, n, rfl, .inr (.inr ⟨hz, by omega, by omega⟩)⟩
        · cases h
      · cases h
  · cases h
theorem arD_slow {n : Nat} {e : PyData} (h : 1 ≤ n ∧ n ≤ 64) : arD (.tuple [.str "slow", .int (n : Nat), e]) = some e := by
  have w : withinD (.int (n : Nat)) 1 64 = true := decide_eq_true (by omega)
  unfold arD
  dsimp only
  rw [if_neg (by decide +kernel), if_pos (.inl rfl), w]
  rfl
theorem arD_slip {n : Nat} {e : PyData} (h : 1 ≤ n ∧ n ≤ 64) : arD (.tuple [.str "slip", .int (n : Nat), e]) = some e := by
  have w : withinD (.int (n : Nat)) 1 64 = true := decide_eq_true (by omega)
  unfold arD
  dsimp only
  rw [if_neg (by decide +kernel), if_pos (.inr rfl), w]
  rfl
theorem arD_late {n : Nat} {e : PyData} (h : n ≤ 64) : arD (.tuple [.str "late", .int (n : Nat), e]) = some e := by
  have w : withinD (.int (n : Nat)) 0 64 = true := decide_eq_true (by omega)
  unfold arD
  dsimp only
  rw [if_pos rfl, w]
  rfl
theorem arD_mk {m : Mk} (ok : m.Ok) : (m.dep = 0 ∧ m.Pl ∧ arD (mkd m) = none) ∨ ∃ m', arD (mkd m) = some (mkd m') ∧ m'.Ok ∧ m.dep = m'.dep + 1 ∧ m.inn = m'.inn := by
  cases m with
  | counter r s t => exact .inl ⟨rfl, ok, rfl⟩
  | table ns => exact .inl ⟨rfl, ok, rfl⟩
  | turned w s =>
    refine .inl ⟨rfl, ok, ?_⟩
    unfold mkd arD
    dsimp only
    rw [if_neg (by decide +kernel), if_neg (by decide +kernel)]
  | register w q s => exact .inl ⟨rfl, ok, rfl⟩
  | slow n m => exact .inr ⟨m, arD_slow ⟨ok.1, ok.2.1⟩, ok.2.2, rfl, rfl⟩
  | slip n m => exact .inr ⟨m, arD_slip ⟨ok.1, ok.2.1⟩, ok.2.2, rfl, rfl⟩
  | late n m => exact .inr ⟨m, arD_late ok.1, ok.2, rfl, rfl⟩
theorem arD_up {d : PyData} {m : Mk} (h : arD d = some (mkd m)) (ok : m.Ok) : ∃ k : Mk, d = mkd k ∧ k.Ok ∧ k.dep = m.dep + 1 ∧ k.inn = m.inn := by
  obtain ⟨z, n, rfl, c⟩ := arD_is h
  rcases c with ⟨rfl, c⟩ | ⟨rfl, c1, c2⟩ | ⟨rfl, c1, c2⟩
  · exact ⟨.late n m, rfl, ⟨c, ok⟩, rfl, rfl⟩
  · exact ⟨.slow n m, rfl, ⟨c1, c2, ok⟩, rfl, rfl⟩
  · exact ⟨.slip n m, rfl, ⟨c1, c2, ok⟩, rfl, rfl⟩
/-- d is e, wrapped so often -/
def Wr : Nat → PyData → PyData → Prop
  | 0, d, e => d = e
  | i + 1, d, e => ∃ f, Wr i d f ∧ arD f = some e
theorem wr_mk : ∀ {i : Nat} {d e : PyData} {m : Mk}, Wr i d e → e = mkd m → m.Ok → ∃ k : Mk, d = mkd k ∧ k.Ok ∧ k.dep = m.dep + i ∧ k.inn = m.inn
  | 0, d, e, m, h, he, ok => ⟨m, by rw [show d = e from h, he], ok, rfl, rfl⟩
  | i + 1, d, e, m, ⟨f, h, hf⟩, he, ok => by
    rw [he] at hf
    obtain ⟨k, e1, ok1, d1, i1⟩ := arD_up hf ok
    obtain ⟨k2, e2, ok2, d2, i2⟩ := wr_mk h e1 ok1
    exact ⟨k2, e2, ok2, by omega, by rw [i2, i1]⟩
theorem mk_wr : ∀ {i : Nat} {d e : PyData} {m : Mk}, Wr i d e → d = mkd m → m.Ok → ∃ k : Mk, e = mkd k ∧ k.Ok ∧ m.dep = k.dep + i ∧ m.inn = k.inn
  | 0, d, e, m, h, he, ok => ⟨m, by rw [← show d = e from h, he], ok, rfl, rfl⟩
  | i + 1, d, e, m, ⟨f, h, hf⟩, he, ok => by
    obtain ⟨k, e1, ok1, d1, i1⟩ := mk_wr h he ok
    rw [e1] at hf
    rcases arD_mk ok1 with ⟨_, _, z⟩ | ⟨k2, z, ok2, d2, i2⟩
    · rw [z] at hf
      cases hf
    · rw [z] at hf
      cases hf
      exact ⟨k2, rfl, ok2, by omega, by rw [i1, i2]⟩
theorem arD_dep {d e : PyData} (h : arD d = some e) : e.depth < d.depth := by
  obtain ⟨z, n, rfl, _⟩ := arD_is h
  simp only [PyData.depth, PyData.depthAll]
  omega
theorem MkAt.sam {H H' : Hp} {m : Mk} {v : V} (h : MkAt H m v) (s : Sam H H') : MkAt H' m v := h.keep fun _ _ e => s.tup e
def isTb (d : PyData) : Bool := match d with
  | .tuple ds => decide (1 ≤ ds.length) && (decide (ds.length ≤ 64) && ds.all fun x => withinD x 0 63)
  | _ => false
theorem all_tk {α : Type} {f : α → Bool} {xs : List α} {i : Nat} {x : α} (h : xs[i]? = some x) : (xs.take (i + 1)).all f = ((xs.take i).all f && f x) := by
  rw [List.take_add_one, h, List.all_append]
  simp
def sp_is_table {K : PySem.W.Frag} {mg : Str → Option Value} (T : Defs K mg) : Sp := fun vs H Q _ => ∃ (p : Addr → Prop) (v : V) (d : PyData), vs = [v] ∧ Tg p H v d ∧ GxR.TabG H T.P_is_table ∧ ∀ H', Sam H H' → Q (.bl (isTb d)) H'
theorem ok_is_table (T : Defs K mg) (TT : Tabs T base) : FnOk P w K mg base CX0 4 T.f_is_table T.fd_is_table ["thing"] (sp_is_table T) := by
  have G_is_within : FnOk P w K mg base CX0 2 T.f_is_within T.fd_is_within ["thing", "least", "greatest"] (sp_is_within K) := ok_is_within T TT
  refine okC T.F_is_table T.k_is_table sc_is_table (fun vs H Q E h => ?_) (fun A outer s H vs Q E hr h => ?_)
  · obtain ⟨p, v, d, rfl, hv, tab, q⟩ := h
    rfl
  · obtain ⟨p, v, d, rfl, hv, tab, q⟩ := h
    refine ⟨_, PSs.nox (pss_cons (ps_if (PW.pt (pw_or (pt_not (pt_val (pe_callB call_isi (by rfl) T.m_isinstance bt_isinstance (pa_cons (pv 0) (pa_cons (pe_bltn (v := .ty "tuple") (by rfl) T.m_tuple bt_tuple rfl) pa_nil))))) (pw_or1 (pt_not (pt_chain op_le op_le pe_int (pe_callB call_len_seq (by rfl) T.m_len bt_len (pa_cons (pv 0) pa_nil)) pe_int))))) (pss_one (ps_ret pe_bl)) pss_nil)
    (pss_one (ps_ret (pe_allE (k := 2) (own := [("number", 1)]) (g := gName 1) (tt := tYes) (hr.mono (by decide)) (by rfl) T.m_all bt_all rfl sc_is_table.nd TT.t_is_table rfl (genOk_by (N := N_is_table) (sc := defScope s_is_table) (own := [("number", 1)]) (by decide +kernel) rfl (by decide +kernel) rfl) (pi_tup (pv 0)) (fun _ _ _ _ _ hr => (pg_name (i := 1) sc_is_table.nd rfl (.inl rfl))) (fun _ _ _ _ _ hr => pts_nil) (fun _ _ _ _ _ hr => (pe_call G_is_within (hr.mono (by decide)) (by rfl) T.g_is_within T.F_is_within.kp T.b_is_within .nil pass0 (pa_cons (pv 1) (pa_cons pe_int (pa_cons pe_int pa_nil))))))))), ?_⟩
    obtain ⟨t, ty, h1, h2, kt, h3⟩ := hv.ty (K := K)
    clear h1 h2 h3
    refine ⟨v, rfl, _, _, _, _, _, rfl, .ty "tuple", ty, kt, _, rfl, ?_⟩
    cases hv with
    | tup np ha hxs =>
      rename_i a xs ds
      have ll := hxs.len
      refine iteF ⟨.ref a, rfl, a, _, rfl, .inr (SqT.mk ha), _, _, rfl, rfl, _, rfl, ?_⟩
      by_cases l1 : 1 ≤ ds.length
      rotate_left
      · rw [decide_eq_false (by omega)]
        refine iteF ⟨_, rfl, iteT ?_⟩
        have e : isTb (.tuple ds) = false := by
          unfold isTb
          dsimp only
          rw [decide_eq_false l1]
          rfl
        have := q H (Sam.refl H)
        rw [e] at this
        exact this
      rw [decide_eq_true (by omega)]
      refine iteT ⟨_, _, rfl, rfl, _, rfl, ?_⟩
      by_cases l2 : ds.length ≤ 64
      rotate_left
      · rw [decide_eq_false (by omega)]
        refine iteT ?_
        have e : isTb (.tuple ds) = false := by
          unfold isTb
          dsimp only
          rw [decide_eq_false l2, Bool.false_and, Bool.and_false]
        have := q H (Sam.refl H)
        rw [e] at this
        exact this
      rw [decide_eq_true (by omega)]
      refine iteF ?_
      have e0 : isTb (.tuple ds) = ds.all fun x => withinD x 0 63 := by
        unfold isTb
        dsimp only
        rw [decide_eq_true l1, decide_eq_true l2]
        rfl
      rw [e0] at q
      refine ⟨.ref a, rfl, a, rfl, ⟨_, SqT.mk ha⟩, tab, fun H2 tb => ?_⟩
      have s2 := Sam.tabbed tab tb
      refine ga_it (walk_tup (xs := xs)) (fun i H3 => Sam H H3 ∧ (ds.take i).all (fun x => withinD x 0 63) = true) ⟨s2, rfl⟩ (fun i H3 _ h => SqT.mk (h.1.tup ha)) ?_ (fun H3 h => ?_)
      · rintro i x H3 H4 hi ⟨s3, al⟩ ⟨rfl, hx⟩
        obtain ⟨e, he, te⟩ := hxs.get hx
        refine ⟨rfl, yes_ite ?_⟩
        refine ⟨x, rfl, p, x, e, 0, 63, rfl, te.sam s3, ⟨withinD e 0 63, rfl, fun w => ?_⟩, fun w => ⟨s3, ?_⟩⟩
        · have : (ds.all fun x => withinD x 0 63) = false := by
            rw [List.all_eq_false]
            exact ⟨e, List.mem_of_getElem? he, by rw [w]; exact Bool.false_ne_true⟩
          rw [this] at q
          exact q _ s3
        · rw [all_tk he, al, show withinD e 0 63 = true from V.bl.inj w]
          rfl
      · obtain ⟨s3, al⟩ := h
        rw [List.take_of_length_le (by omega)] at al
        rw [al] at q
        exact q _ s3
    | _ => exact iteT (q H (Sam.refl H))
theorem pw2 {w : Nat} (h : w ≤ 6) : (1 : Int) * 2 ^ ((w : Int)).toNat = ((2 ^ w : Nat) : Int) := by
  rw [Int.one_mul, Int.toNat_natCast]
  rw [Int.natCast_pow]
  rfl
theorem pw1 {w : Nat} (h : w ≤ 6) (h1 : 1 ≤ w) : (1 : Int) * 2 ^ ((w : Int) - 1).toNat = ((2 ^ (w - 1) : Nat) : Int) := by
  rw [show (w : Int) - 1 = ((w - 1 : Nat) : Int) by omega]
  exact pw2 (by omega)
theorem isTb_is {d : PyData} (h : isTb d = true) : ∃ ns : List Int, d = .tuple (ns.map PyData.int) ∧ (1 ≤ ns.length ∧ ns.length ≤ 64) ∧ ∀ x, x ∈ ns → 0 ≤ x ∧ x ≤ 63 := by
  unfold isTb at h
  split at h
  · rename_i ds
    obtain ⟨h1, h2⟩ := Bool.and_eq_true_iff.mp h
    obtain ⟨h3, h4⟩ := Bool.and_eq_true_iff.mp h2
    have key : ∀ es : List PyData, (es.all fun x => withinD x 0 63) = true → ∃ ns : List Int, es = ns.map PyData.int ∧ ∀ x, x ∈ ns → 0 ≤ x ∧ x ≤ 63 := by
      intro es
      induction es with
      | nil => exact fun _ => ⟨[], rfl, fun _ h => (by cases h)⟩
      | cons e es ih =>
        intro h
        rw [List.all_cons] at h
        obtain ⟨a, b⟩ := Bool.and_eq_true_iff.mp h
        obtain ⟨i, rfl, l, u⟩ := within_is a
        obtain ⟨ns, rfl, hns⟩ := ih b
        refine ⟨i :: ns, rfl, fun x hx => ?_⟩
        rcases List.mem_cons.mp hx with rfl | hx
        · exact ⟨l, u⟩
        · exact hns x hx
    obtain ⟨ns, rfl, hns⟩ := key ds h4
    have h1 := of_decide_eq_true h1
    have h3 := of_decide_eq_true h3
    rw [List.length_map] at h1 h3
    exact ⟨ns, rfl, ⟨h1, h3⟩, hns⟩
  · cases h
theorem isTb_of {ns : List Int} (l : 1 ≤ ns.length ∧ ns.length ≤ 64) (h : ∀ x, x ∈ ns → 0 ≤ x ∧ x ≤ 63) : isTb (.tuple (ns.map PyData.int)) = true := by
  unfold isTb
  dsimp only
  rw [List.length_map, decide_eq_true l.1, decide_eq_true l.2, Bool.true_and, Bool.true_and, List.all_map, List.all_eq_true]
  exact fun x hx => decide_eq_true (h x hx)
theorem gcd1i {s r : Nat} (hr : 1 ≤ r) : decide (V.int (if (1 : Int) > (Int.gcd (s : Int) (r : Int) : Int) then 1 else (Int.gcd (s : Int) (r : Int) : Int)) = V.int 1) = decide (Nat.gcd s r = 1) := by
  have g : Int.gcd (s : Int) (r : Int) = Nat.gcd s r := rfl
  have h2 : 0 < Nat.gcd s r := Nat.gcd_pos_of_pos_right s hr
  rw [g, if_neg (show ¬ (1 : Int) > (Nat.gcd s r : Int) by omega)]
  refine decide_eq_decide.mpr ⟨fun e => ?_, fun e => ?_⟩
  · have := V.int.inj e
    omega
  · rw [e]
    rfl
theorem Tg.sh {p : Addr → Prop} {H : Hp} {v : V} {d : PyData} {k n w : Nat} (_ : Tg p H v d) (b : Bd k n w d) (hn : n ≤ 64) : SeqAt.shaped d = true := b.shaped hn
def sp_is_plain {K : PySem.W.Frag} {mg : Str → Option Value} (T : Defs K mg) : Sp := fun vs H Q _ => ∃ (p : Addr → Prop) (v : V) (d : PyData) (kb nb wb : Nat), vs = [v] ∧ Tg p H v d ∧ Bd kb nb wb d ∧ nb ≤ 60 ∧ GxR.TabG H T.P_is_table ∧ ∀ H' r, Sam H H' → (r = true ↔ plainD d) → Q (.bl r) H'
theorem str_neD {a b : Str} (h : a ≠ b) : PyData.str a ≠ .str b := fun e => h (PyData.str.inj e)
theorem ok_is_plain (T : Defs K mg) (TT : Tabs T base) : FnOk P w K mg base CX0 5 T.f_is_plain T.fd_is_plain ["thing"] (sp_is_plain T) := by
  have G_is_within : FnOk P w K mg base CX0 2 T.f_is_within T.fd_is_within ["thing", "least", "greatest"] (sp_is_within K) := ok_is_within T TT
  have G_is_table : FnOk P w K mg base CX0 4 T.f_is_table T.fd_is_table ["thing"] (sp_is_table T) := ok_is_table T TT
  have G_common_divisor : FnOk P w K mg base CX0 1 T.f_common_divisor T.fd_common_divisor ["one", "other"] (sp_common_divisor K) := ok_common_divisor T TT
  refine T.F_is_plain.ok sc_is_plain (fun vs H Q E h => ?_) (fun cdv A outer s H vs Q E hr h => ?_)
  · obtain ⟨p, v, d, kb, nb, wb, rfl, hv, bd, nb60, tab, q⟩ := h
    rfl
  · obtain ⟨p, v, d, kb, nb, wb, rfl, hv, bd, nb60, tab, q⟩ := h
    refine ⟨_, PSs.nox (pss_cons (ps_if (pt_not (pt_val (pe_callB call_isi (by rfl) T.m_isinstance bt_isinstance (pa_cons (pv 0) (pa_cons (pe_bltn (v := .ty "tuple") (by rfl) T.m_tuple bt_tuple rfl) pa_nil))))) (pss_one (ps_ret pe_bl)) pss_nil)
    (pss_one (ps_match (pv 0) (pcs_seqX hr.units rfl sc_is_plain.nd pe_str (pcap_cons (i := 1) rfl (.inl rfl) (pcap_cons (i := 2) rfl (.inl rfl) (pcap_cons (i := 3) rfl (.inl rfl) pcap_nil))) (pss_cons (ps_if (PW.pt (pw_or (pt_not (pt_val (pe_call G_is_within (hr.mono (by decide)) (by rfl) T.g_is_within T.F_is_within.kp T.b_is_within .nil pass0 (pa_cons (pv 1) (pa_cons pe_int (pa_cons pe_int pa_nil)))))) (pw_or1 (pt_not (pt_val (pe_call G_is_within (hr.mono (by decide)) (by rfl) T.g_is_within T.F_is_within.kp T.b_is_within .nil pass0 (pa_cons (pv 2) (pa_cons pe_int (pa_cons (pv 1) pa_nil))))))))) (pss_one (ps_ret pe_bl)) pss_nil)
    (pss_one (ps_ret (pe_and (pe_cmpR op_eq (pe_call G_common_divisor (hr.mono (by decide)) (by rfl) T.g_common_divisor T.F_common_divisor.kp T.b_common_divisor .nil pass0 (pa_cons (pv 2) (pa_cons (pv 1) pa_nil))) pe_int (nomark _)) (pe_one (pe_call G_is_within (hr.mono (by decide)) (by rfl) T.g_is_within T.F_is_within.kp T.b_is_within .nil pass0 (pa_cons (pv 3) (pa_cons pe_int (pa_cons (pe_op op_sub (pv 1) pe_int) pa_nil)))))))))
    (pcs_seqX hr.units rfl sc_is_plain.nd pe_str (pcap_cons (i := 4) rfl (.inl rfl) (pcap_cons (i := 3) rfl (.inl rfl) pcap_nil)) (pss_one (ps_ret (pe_and (pe_call G_is_within (hr.mono (by decide)) (by rfl) T.g_is_within T.F_is_within.kp T.b_is_within .nil pass0 (pa_cons (pv 4) (pa_cons pe_int (pa_cons pe_int pa_nil)))) (pe_one (pe_call G_is_within (hr.mono (by decide)) (by rfl) T.g_is_within T.F_is_within.kp T.b_is_within .nil pass0 (pa_cons (pv 3) (pa_cons pe_int (pa_cons (pe_op op_sub (pe_op op_shl pe_int (pv 4)) pe_int) pa_nil))))))))
    (pcs_seqX hr.units rfl sc_is_plain.nd pe_str (pcap_cons (i := 4) rfl (.inl rfl) (pcap_cons (i := 5) rfl (.inl rfl) (pcap_cons (i := 3) rfl (.inl rfl) pcap_nil))) (pss_cons (ps_if (PW.pt (pw_or (pt_not (pt_val (pe_call G_is_within (hr.mono (by decide)) (by rfl) T.g_is_within T.F_is_within.kp T.b_is_within .nil pass0 (pa_cons (pv 4) (pa_cons pe_int (pa_cons pe_int pa_nil)))))) (pw_or1 (pt_not (pt_val (pe_call G_is_within (hr.mono (by decide)) (by rfl) T.g_is_within T.F_is_within.kp T.b_is_within .nil pass0 (pa_cons (pv 5) (pa_cons (pe_op op_shl pe_int (pe_op op_sub (pv 4) pe_int)) (pa_cons (pe_op op_sub (pe_op op_shl pe_int (pv 4)) pe_int) pa_nil))))))))) (pss_one (ps_ret pe_bl)) pss_nil)
    (pss_one (ps_ret (pe_call G_is_within (hr.mono (by decide)) (by rfl) T.g_is_within T.F_is_within.kp T.b_is_within .nil pass0 (pa_cons (pv 3) (pa_cons pe_int (pa_cons (pe_op op_sub (pe_op op_shl pe_int (pv 4)) pe_int) pa_nil)))))))
    (pcs_seqX hr.units rfl sc_is_plain.nd pe_str (pcap_cons (i := 6) rfl (.inl rfl) pcap_nil) (pss_one (ps_ret (pe_call G_is_table (hr.mono (by decide)) (by rfl) T.g_is_table T.F_is_table.kp T.b_is_table .nil pass0 (pa_cons (pv 6) pa_nil))))
    (pcs_any (pss_one (ps_ret pe_bl)))))))))), ?_⟩
    have no : ¬ plainD d → ∀ H', Sam H H' → Q (.bl false) H' := fun z H' s => q H' false s ⟨fun e => (by cases e), fun e => absurd e z⟩
    obtain ⟨t, ty, h1, h2, kt, h3⟩ := hv.ty (K := K)
    clear h1 h2 h3
    refine ⟨v, rfl, _, _, _, _, _, rfl, .ty "tuple", ty, kt, _, rfl, ?_⟩
    cases hv with
    | tup np ha hxs =>
      rename_i a xs ds
      have ll := hxs.len
      refine iteF ⟨.ref a, rfl, a, xs, rfl, SqT.mk ha, ?_⟩
      have bdi := bd.itemsT.2
      match xs, ds, hxs, ha, ll, no, q, bdi with
      | [], [], hxs, ha, _, no, q, _ =>
        refine .inl ⟨by simp, .inl ⟨by simp, .inl ⟨by simp, .inl ⟨by simp, ?_⟩⟩⟩⟩
        refine no ?_ H (Sam.refl H)
        intro z
        rcases pl_cases z with ⟨_, _, _, e, _⟩ | ⟨_, _, e, _⟩ | ⟨_, _, _, e, _⟩ | ⟨_, e, _⟩ <;> cases e
      | [x0], [d0], hxs, ha, _, no, q, _ =>
        refine .inl ⟨by simp, .inl ⟨by simp, .inl ⟨by simp, .inl ⟨by simp, ?_⟩⟩⟩⟩
        refine no ?_ H (Sam.refl H)
        intro z
        rcases pl_cases z with ⟨_, _, _, e, _⟩ | ⟨_, _, e, _⟩ | ⟨_, _, _, e, _⟩ | ⟨_, e, _⟩ <;> cases e
      | [x0, x1], [d0, d1], hxs, ha, _, no, q, bdi =>
        obtain ⟨_, _, ee, t0, t1⟩ := hxs.two
        cases ee
        have sh0 := (bdi.get (d := d0) List.mem_cons_self).shaped (by omega)
        refine .inl ⟨by simp, .inl ⟨by simp, .inl ⟨by simp, .inr ⟨x0, [x1], d0, rfl, rfl, t0.dp, sh0, ?_⟩⟩⟩⟩
        by_cases hw : d0 = .str "table"
        · refine .inl ⟨hw, x1, rfl, p, x1, d1, rfl, t1, tab, fun H1 s1 => q H1 _ s1 ⟨fun e => ?_, fun z => ?_⟩⟩
          · obtain ⟨ns, rfl, l, hns⟩ := isTb_is e
            rw [hw]
            exact ⟨.table ns, rfl, ⟨l.1, l.2, hns⟩, trivial⟩
          · rcases pl_cases z with ⟨_, _, _, e, _⟩ | ⟨_, _, e, _⟩ | ⟨_, _, _, e, _⟩ | ⟨ns, e, l, hns⟩
            · cases e
            · cases e
            · cases e
            · cases e
              exact isTb_of l hns
        · refine .inr ⟨hw, no ?_ H (Sam.refl H)⟩
          intro z
          rcases pl_cases z with ⟨_, _, _, e, _⟩ | ⟨_, _, e, _⟩ | ⟨_, _, _, e, _⟩ | ⟨ns, e, l, hns⟩
          · cases e
          · cases e
          · cases e
          · cases e
            exact hw rfl
      | [x0, x1, x2], [d0, d1, d2], hxs, ha, _, no, q, bdi =>
        obtain ⟨_, _, _, ee, t0, t1, t2⟩ := hxs.three
        cases ee
        have sh0 := (bdi.get (d := d0) List.mem_cons_self).shaped (by omega)
        refine .inl ⟨by simp, .inr ⟨x0, [x1, x2], d0, rfl, rfl, t0.dp, sh0, ?_⟩⟩
        by_cases hw : d0 = .str "turned"
        · subst hw
          refine .inl ⟨rfl, x1, rfl, p, x1, d1, 1, 6, rfl, t1, _, rfl, ?_⟩
          cases h1 : withinD d1 1 6 with
          | false =>
            refine iteF (no ?_ H (Sam.refl H))
            intro z
            rcases pl_cases z with ⟨_, _, _, e, _⟩ | ⟨w', s', e, hw', hs'⟩ | ⟨_, _, _, e, _⟩ | ⟨ns, e, _⟩
            · cases e
            · cases e
              exact within_no h1 (by omega)
            · cases e
            · cases e
          | true =>
            obtain ⟨i, rfl, l, u⟩ := within_is h1
            obtain ⟨w', rfl⟩ := nat_of (show 0 ≤ i by omega)
            obtain rfl := t1.intv
            refine iteT ⟨x2, rfl, _, rfl, _, _, rfl, rfl, ⟨by omega, by omega, by decide⟩, _, _, rfl, rfl, p, x2, d2, 0, _, rfl, t2, ?_⟩
            refine q H _ (Sam.refl H) ?_
            rw [pw2 (by omega)]
            constructor
            · intro e
              obtain ⟨j, rfl, l2, u2⟩ := within_is e
              obtain ⟨s', rfl⟩ := nat_of l2
              exact ⟨.turned w' s', rfl, ⟨by omega, by omega, by omega⟩, trivial⟩
            · intro z
              rcases pl_cases z with ⟨_, _, _, e, _⟩ | ⟨w2, s', e, hw', hs'⟩ | ⟨_, _, _, e, _⟩ | ⟨ns, e, _⟩
              · cases e
              · simp only [List.cons.injEq, PyData.int.injEq, and_true] at e
                obtain ⟨_, e1, rfl⟩ := e
                have e1 : w2 = w' := by omega
                subst e1
                exact decide_eq_true (by omega)
              · cases e
              · cases e
        · refine .inr ⟨hw, .inl ⟨by simp, .inl ⟨by simp, ?_⟩⟩⟩
          refine no ?_ H (Sam.refl H)
          intro z
          rcases pl_cases z with ⟨_, _, _, e, _⟩ | ⟨_, _, e, _⟩ | ⟨_, _, _, e, _⟩ | ⟨ns, e, _⟩
          · cases e
          · cases e
            exact hw rfl
          · cases e
          · cases e
      | [x0, x1, x2, x3], [d0, d1, d2, d3], hxs, ha, _, no, q, bdi =>
        obtain ⟨_, _, _, _, ee, t0, t1, t2, t3⟩ := hxs.four
        cases ee
        have sh0 := (bdi.get (d := d0) List.mem_cons_self).shaped (by omega)
        refine .inr ⟨x0, [x1, x2, x3], d0, rfl, rfl, t0.dp, sh0, ?_⟩
        by_cases hw : d0 = .str "counter"
        · subst hw
          have cn : plainD (.tuple [.str "counter", d1, d2, d3]) → ∃ r s t : Nat, d1 = .int r ∧ d2 = .int s ∧ d3 = .int t ∧ (1 ≤ r ∧ r ≤ 64) ∧ (1 ≤ s ∧ s ≤ r) ∧ Nat.gcd s r = 1 ∧ t < r := by
            intro z
            rcases pl_cases z with ⟨r, s, t, e, h1, h2, h3, h4⟩ | ⟨_, _, e, _⟩ | ⟨_, _, _, e, _⟩ | ⟨ns, e, _⟩
            · cases e
              exact ⟨r, s, t, rfl, rfl, rfl, h1, h2, h3, h4⟩
            · cases e
            · simp only [List.cons.injEq, PyData.str.injEq] at e
              exact absurd e.1 (by decide +kernel)
            · cases e
          refine .inl ⟨rfl, x1, rfl, p, x1, d1, 1, 64, rfl, t1, _, rfl, ?_⟩
          cases h1 : withinD d1 1 64 with
          | false =>
            refine iteT (no ?_ H (Sam.refl H))
            intro z
            obtain ⟨r, s, t, rfl, _, _, b1, _⟩ := cn z
            exact within_no h1 (by omega)
          | true =>
          obtain ⟨i, rfl, l, u⟩ := within_is h1
          obtain ⟨r, rfl⟩ := nat_of (show 0 ≤ i by omega)
          obtain rfl := t1.intv
          refine iteF ⟨x2, rfl, _, rfl, p, x2, d2, 1, (r : Int), rfl, t2, _, rfl, ?_⟩
          cases h2 : withinD d2 1 (r : Int) with
          | false =>
            refine iteT (no ?_ H (Sam.refl H))
            intro z
            obtain ⟨r', s, t, e1, rfl, _, b1, b2, _⟩ := cn z
            have e1 : r = r' := by have := PyData.int.inj e1; omega
            subst e1
            exact within_no h2 (by omega)
          | true =>
          obtain ⟨i2, rfl, l2, u2⟩ := within_is h2
          obtain ⟨s', rfl⟩ := nat_of (show 0 ≤ i2 by omega)
          obtain rfl := t2.intv
          refine iteF ⟨_, rfl, _, rfl, (s' : Int), (r : Int), rfl, rfl, _, rfl, ?_⟩
          rw [gcd1i (by omega)]
          by_cases hg : Nat.gcd s' r = 1
          rotate_left
          · rw [decide_eq_false hg]
            refine iteF (no ?_ H (Sam.refl H))
            intro z
            obtain ⟨r', s2, t, e1, e2, _, b1, b2, b3, _⟩ := cn z
            have e1 : r = r' := by have := PyData.int.inj e1; omega
            have e2 : s' = s2 := by have := PyData.int.inj e2; omega
            subst e1 e2
            exact hg b3
          rw [decide_eq_true hg]
          refine iteT ⟨x3, rfl, _, rfl, _, _, rfl, rfl, p, x3, d3, 0, _, rfl, t3, q H _ (Sam.refl H) ⟨fun e => ?_, fun z => ?_⟩⟩
          · obtain ⟨i3, rfl, l3, u3⟩ := within_is e
            obtain ⟨t', rfl⟩ := nat_of l3
            exact ⟨.counter r s' t', rfl, ⟨by omega, by omega, by omega, by omega⟩, ⟨by omega, by omega, hg⟩⟩
          · obtain ⟨r', s2, t', e1, e2, rfl, b1, b2, b3, b4⟩ := cn z
            have e1 : r = r' := by have := PyData.int.inj e1; omega
            subst e1
            exact decide_eq_true (by omega)
        · refine .inr ⟨hw, .inl ⟨by simp, .inr ⟨x0, [x1, x2, x3], d0, rfl, rfl, t0.dp, sh0, ?_⟩⟩⟩
          by_cases hw2 : d0 = .str "register"
          rotate_left
          · refine .inr ⟨hw2, .inl ⟨by simp, ?_⟩⟩
            refine no ?_ H (Sam.refl H)
            intro z
            rcases pl_cases z with ⟨_, _, _, e, _⟩ | ⟨_, _, e, _⟩ | ⟨_, _, _, e, _⟩ | ⟨ns, e, _⟩
            · cases e
              exact hw rfl
            · cases e
            · cases e
              exact hw2 rfl
            · cases e
          subst hw2
          have cn : plainD (.tuple [.str "register", d1, d2, d3]) → ∃ w q s : Nat, d1 = .int w ∧ d2 = .int q ∧ d3 = .int s ∧ RgW w q ∧ 1 ≤ s ∧ s < 2 ^ w := by
            intro z
            rcases pl_cases z with ⟨r, s, t, e, h1, h2, h3, h4⟩ | ⟨_, _, e, _⟩ | ⟨w', q', s', e, h1, h2, h3⟩ | ⟨ns, e, _⟩
            · simp only [List.cons.injEq, PyData.str.injEq] at e
              exact absurd e.1 (by decide +kernel)
            · cases e
            · cases e
              exact ⟨w', q', s', rfl, rfl, rfl, h1, h2, h3⟩
            · cases e
          refine .inl ⟨rfl, x1, rfl, p, x1, d1, 2, 6, rfl, t1, _, rfl, ?_⟩
          cases h1 : withinD d1 2 6 with
          | false =>
            refine iteT (no ?_ H (Sam.refl H))
            intro z
            obtain ⟨w', q', s', rfl, _, _, rg, _⟩ := cn z
            have := rg.lo
            have := rg.hi
            exact within_no h1 (by omega)
          | true =>
          obtain ⟨i, rfl, l, u⟩ := within_is h1
          obtain ⟨w', rfl⟩ := nat_of (show 0 ≤ i by omega)
          obtain rfl := t1.intv
          refine iteF ⟨x2, rfl, _, rfl, _, _, rfl, rfl, _, _, rfl, rfl, ⟨by omega, by omega, by decide⟩, _, rfl, _, _, rfl, rfl, ⟨by omega, by omega, by decide⟩, _, _, rfl, rfl, p, x2, d2, _, _, rfl, t2, _, rfl, ?_⟩
          rw [pw1 (by omega) (by omega), pw2 (by omega)]
          cases h2 : withinD d2 ((2 ^ (w' - 1) : Nat) : Int) (((2 ^ w' : Nat) : Int) - 1) with
          | false =>
            refine iteT (no ?_ H (Sam.refl H))
            intro z
            obtain ⟨w2, q', s', e1, rfl, _, rg, _⟩ := cn z
            have e1 : w' = w2 := by have := PyData.int.inj e1; omega
            subst e1
            have := rg.pl
            have := rg.ph
            exact within_no h2 (by omega)
          | true =>
          obtain ⟨i2, rfl, l2, u2⟩ := within_is h2
          obtain ⟨q', rfl⟩ := nat_of (Int.le_trans (Int.natCast_nonneg _) l2)
          obtain rfl := t2.intv
          refine iteF ⟨x3, rfl, _, rfl, _, _, rfl, rfl, ⟨by omega, by omega, by decide⟩, _, _, rfl, rfl, p, x3, d3, 1, _, rfl, t3, q H _ (Sam.refl H) ?_⟩
          rw [pw2 (by omega)]
          constructor
          · intro e
            obtain ⟨i3, rfl, l3, u3⟩ := within_is e
            obtain ⟨s', rfl⟩ := nat_of (show 0 ≤ i3 by omega)
            exact ⟨.register w' q' s', rfl, ⟨⟨by omega, by omega, by omega, by omega⟩, by omega, by omega⟩, trivial⟩
          · intro z
            obtain ⟨w2, q2, s', e1, e2, rfl, rg, b1, b2⟩ := cn z
            have e1 : w' = w2 := by have := PyData.int.inj e1; omega
            subst e1
            exact decide_eq_true (by omega)
      | x0 :: x1 :: x2 :: x3 :: x4 :: r, d0 :: d1 :: d2 :: d3 :: d4 :: r', hxs, ha, _, no, q, _ =>
        refine .inl ⟨by simp, .inl ⟨by simp, .inl ⟨by simp, .inl ⟨by simp, ?_⟩⟩⟩⟩
        refine no ?_ H (Sam.refl H)
        intro z
        rcases pl_cases z with ⟨_, _, _, e, _⟩ | ⟨_, _, e, _⟩ | ⟨_, _, _, e, _⟩ | ⟨ns, e, _⟩ <;> cases e
    | _ => exact iteT (no (by rintro ⟨m, e, _⟩; cases m <;> cases e) H (Sam.refl H))
def sp_is_around (_ : PySem.W.Frag) : Sp := fun vs H Q _ => ∃ (p : Addr → Prop) (v : V) (d : PyData) (kb nb wb : Nat), vs = [v] ∧ Tg p H v d ∧ Bd kb nb wb d ∧ nb ≤ 60 ∧ Q (.bl (arD d).isSome) H
theorem arD_len {ds : List PyData} (h : ds.length ≠ 3) : arD (.tuple ds) = none := by
  match ds, h with
  | [], _ => rfl
  | [x], _ => cases x <;> rfl
  | [x, _], _ => cases x <;> rfl
  | [_, _, _], h => exact absurd rfl h
  | x :: _ :: _ :: _ :: _, _ => cases x <;> rfl
theorem arD_noz {x y e : PyData} (h : ∀ z, x ≠ .str z) : arD (.tuple [x, y, e]) = none := by
  cases x with
  | str z => exact absurd rfl (h z)
  | _ => rfl
theorem eqv_strF {d : PyData} {z : Str} (h : d ≠ .str z) : PyData.eqv d (.str z) = false := by
  cases hq : PyData.eqv d (.str z) with
  | false => rfl
  | true => exact absurd (eqv_strD.mp hq) h
theorem ok_is_around (T : Defs K mg) (TT : Tabs T base) : FnOk P w K mg base CX0 3 T.f_is_around T.fd_is_around ["thing"] (sp_is_around K) := by
  have G_is_within : FnOk P w K mg base CX0 2 T.f_is_within T.fd_is_within ["thing", "least", "greatest"] (sp_is_within K) := ok_is_within T TT
  refine T.F_is_around.ok sc_is_around (fun vs H Q E h => ?_) (fun cdv A outer s H vs Q E hr h => ?_)
  · obtain ⟨p, v, d, kb, nb, wb, rfl, hv, bd, nb60, q⟩ := h
    rfl
  · obtain ⟨p, v, d, kb, nb, wb, rfl, hv, bd, nb60, q⟩ := h
    refine ⟨_, PSs.nox (pss_cons (ps_if (PW.pt (pw_or (pt_not (pt_val (pe_callB call_isi (by rfl) T.m_isinstance bt_isinstance (pa_cons (pv 0) (pa_cons (pe_bltn (v := .ty "tuple") (by rfl) T.m_tuple bt_tuple rfl) pa_nil))))) (pw_or1 (pt_cmpR op_ne (pe_callB call_len_seq (by rfl) T.m_len bt_len (pa_cons (pv 0) pa_nil)) pe_int (nomark _))))) (pss_one (ps_ret pe_bl)) pss_nil)
    (pss_cons (ps_asg (pv 0) (pg_tup rfl (pgs_cons (pg_name (i := 1) sc_is_around.nd rfl (.inl rfl)) (pgs_cons (pg_name (i := 2) sc_is_around.nd rfl (.inl rfl)) (pgs_cons (pg_name (i := 3) sc_is_around.nd rfl (.inl rfl)) pgs_nil)))))
    (pss_cons (ps_if (pt_cmpR (op_eqD hr.units) (pv 1) pe_str (nomark _)) (pss_one (ps_ret (pe_call G_is_within (hr.mono (by decide)) (by rfl) T.g_is_within T.F_is_within.kp T.b_is_within .nil pass0 (pa_cons (pv 2) (pa_cons pe_int (pa_cons pe_int pa_nil)))))) pss_nil)
    (pss_one (ps_ret (pe_and (pe_or (pe_cmpR (op_eqD hr.units) (pv 1) pe_str (nomark _)) (pe_one (pe_cmpR (op_eqD hr.units) (pv 1) pe_str (nomark _)))) (pe_one (pe_call G_is_within (hr.mono (by decide)) (by rfl) T.g_is_within T.F_is_within.kp T.b_is_within .nil pass0 (pa_cons (pv 2) (pa_cons pe_int (pa_cons pe_int pa_nil))))))))))), ?_⟩
    obtain ⟨t, ty, h1, h2, kt, h3⟩ := hv.ty (K := K)
    clear h1 h2 h3
    refine ⟨v, rfl, _, _, _, _, _, rfl, .ty "tuple", ty, kt, _, rfl, ?_⟩
    cases hv with
    | tup np ha hxs =>
      rename_i a xs ds
      have ll := hxs.len
      refine iteF ⟨.ref a, rfl, a, _, rfl, .inr (SqT.mk ha), rfl, _, rfl, ?_⟩
      by_cases l3 : xs.length = 3
      rotate_left
      · rw [decide_eq_false (show ¬ V.int ((xs.length : Nat) : Int) = V.int 3 from fun e => l3 (by have := V.int.inj e; omega))]
        rw [arD_len (by omega)] at q
        exact iteT q
      rw [decide_eq_true (show V.int ((xs.length : Nat) : Int) = V.int 3 by rw [l3]; rfl)]
      refine iteF ?_
      have bdi := bd.itemsT.2
      match xs, ds, hxs, ha, ll, q, l3, bdi with
      | [x0, x1, x2], [d0, d1, d2], hxs, ha, _, q, _, bdi =>
        obtain ⟨_, _, _, ee, t0, t1, t2⟩ := hxs.three
        cases ee
        have sh0 := (bdi.get (d := d0) List.mem_cons_self).shaped (by omega)
        refine ⟨.ref a, rfl, a, _, rfl, SqT.mk ha, rfl, _, _, rfl, _, _, rfl, _, _, rfl, rfl, ?_⟩
        refine ⟨x0, rfl, d0, .str "late", t0.dp, .str _, sh0, by decide +kernel, _, rfl, ?_⟩
        by_cases hw : d0 = .str "late"
        · rw [eqv_strD.mpr hw]
          subst hw
          refine iteT ⟨x1, rfl, p, x1, d1, 0, 64, rfl, t1, ?_⟩
          have e : withinD d1 0 64 = (arD (.tuple [.str "late", d1, d2])).isSome := by
            unfold arD
            dsimp only
            rw [if_pos rfl]
            cases withinD d1 0 64 <;> rfl
          rw [e]
          exact q
        rw [eqv_strF hw]
        refine iteF ⟨x0, rfl, d0, .str "slow", t0.dp, .str _, sh0, by decide +kernel, _, rfl, ?_⟩
        by_cases hw2 : d0 = .str "slow"
        · rw [eqv_strD.mpr hw2]
          subst hw2
          refine iteT ⟨_, rfl, iteT ⟨x1, rfl, p, x1, d1, 1, 64, rfl, t1, ?_⟩⟩
          have e : withinD d1 1 64 = (arD (.tuple [.str "slow", d1, d2])).isSome := by
            unfold arD
            dsimp only
            rw [if_neg (by decide +kernel), if_pos (.inl rfl)]
            cases withinD d1 1 64 <;> rfl
          rw [e]
          exact q
        rw [eqv_strF hw2]
        refine iteF ⟨x0, rfl, d0, .str "slip", t0.dp, .str _, sh0, by decide +kernel, ?_⟩
        by_cases hw3 : d0 = .str "slip"
        · rw [eqv_strD.mpr hw3]
          subst hw3
          refine ⟨_, rfl, iteT ⟨x1, rfl, p, x1, d1, 1, 64, rfl, t1, ?_⟩⟩
          have e : withinD d1 1 64 = (arD (.tuple [.str "slip", d1, d2])).isSome := by
            unfold arD
            dsimp only
            rw [if_neg (by decide +kernel), if_pos (.inr rfl)]
            cases withinD d1 1 64 <;> rfl
          rw [e]
          exact q
        rw [eqv_strF hw3]
        refine ⟨_, rfl, iteF ?_⟩
        have e : arD (.tuple [d0, d1, d2]) = none := by
          cases d0 with
          | str z =>
            unfold arD
            dsimp only
            rw [if_neg (fun e => hw (congrArg PyData.str e)), if_neg (fun e => e.elim (fun e => hw2 (congrArg PyData.str e)) (fun e => hw3 (congrArg PyData.str e)))]
          | _ => rfl
        rw [e] at q
        exact q
    | _ => exact iteT q
theorem wr_no {i : Nat} {d e : PyData} (w : Wr i d e) (n : arD e = none) (h : isMkD d) : i ≤ 3 ∧ plainD e := by
  obtain ⟨m, he, ok, vd, dp, rn⟩ := h
  obtain ⟨k, rfl, ok2, d2, i2⟩ := mk_wr w he ok
  rcases arD_mk ok2 with ⟨d0, pl, _⟩ | ⟨k2, z, _⟩
  · rw [i2, Mk.inn_self d0] at vd
    exact ⟨by omega, k, rfl, pl, vd⟩
  · rw [n] at z
    cases z
theorem pl_ok {m : Mk} (h : m.Pl) : m.Ok ∧ m.dep = 0 := by
  cases m with
  | slow n m => exact h.elim
  | slip n m => exact h.elim
  | late n m => exact h.elim
  | _ => exact ⟨h, rfl⟩
theorem wr_yes {i : Nat} {d e : PyData} (w : Wr i d e) (h : plainD e) : ∃ m : Mk, d = mkd m ∧ m.Ok ∧ m.inn.Vd ∧ m.dep = i := by
  obtain ⟨m0, he, pl, vd⟩ := h
  obtain ⟨ok0, d0⟩ := pl_ok pl
  obtain ⟨k, e1, ok1, d1, i1⟩ := wr_mk w he ok0
  exact ⟨k, e1, ok1, by rw [i1, Mk.inn_self d0]; exact vd, by omega⟩
def sp_is_maker {K : PySem.W.Frag} {mg : Str → Option Value} (T : Defs K mg) : Sp := fun vs H Q _ => ∃ (p : Addr → Prop) (v : V) (d : PyData) (kb nb wb : Nat), vs = [v] ∧ Tg p H v d ∧ Bd kb nb wb d ∧ nb ≤ 60 ∧ GxR.TabG H T.P_is_table ∧ ∀ H' r, Sam H H' → (r = true ↔ isMkD d) → Q (.bl r) H'
theorem Bd.around {k n w : Nat} {d e : PyData} (h : Bd k n w d) (a : arD d = some e) : Bd k n w e := by
  obtain ⟨z, i, rfl, _⟩ := arD_is a
  have := h.itemsT.2.get (d := e) (by simp)
  exact this.mono (Nat.le_refl _) (by omega) (Nat.le_refl _)
theorem ok_is_maker (T : Defs K mg) (TT : Tabs T base) : FnOk P w K mg base CX0 10 T.f_is_maker T.fd_is_maker ["thing"] (sp_is_maker T) := by
  have G_is_around : FnOk P w K mg base CX0 3 T.f_is_around T.fd_is_around ["thing"] (sp_is_around K) := ok_is_around T TT
  have G_round_of : FnOk P w K mg base CX0 9 T.f_round_of T.fd_round_of ["maker"] (sp_round_of K) := ok_round_of T TT
  have G_is_plain : FnOk P w K mg base CX0 5 T.f_is_plain T.fd_is_plain ["thing"] (sp_is_plain T) := ok_is_plain T TT
  refine T.F_is_maker.ok sc_is_maker (fun vs H Q E h => ?_) (fun cdv A outer s H vs Q E hr h => ?_)
  · obtain ⟨p, v, d, kb, nb, wb, rfl, hv, bd, nb60, tab, q⟩ := h
    rfl
  · obtain ⟨p, v, d, kb, nb, wb, rfl, hv, bd, nb60, tab, q⟩ := h
    refine ⟨_, PSs.nox (pss_cons (ps_set (i := 1) sc_is_maker.nd rfl (.inl rfl) (pv 0))
    (pss_cons (ps_set (i := 2) sc_is_maker.nd rfl (.inl rfl) pe_int)
    (pss_cons (ps_while PassesOwn.never (pt_val (pe_call G_is_around (hr.mono (by decide)) (by rfl) T.g_is_around T.F_is_around.kp T.b_is_around .nil pass0 (pa_cons (pv 1) pa_nil))) (pss_cons (ps_set (i := 1) sc_is_maker.nd rfl (.inl rfl) (pe_ix ix_tup (pv 1) pe_int (fun _ _ => rfl)))
    (pss_one (ps_aug (i := 2) sc_is_maker.nd rfl (.inl rfl) pe_int ip_add))))
    (pss_cons (ps_if (PW.pt (pw_or (pt_cmpR op_gt (pv 2) (pe_globI (by rfl) T.i_MOST_AROUND) (nomark _)) (pw_or1 (pt_not (pt_val (pe_call G_is_plain (hr.mono (by decide)) (by rfl) T.g_is_plain T.F_is_plain.kp T.b_is_plain .nil pass0 (pa_cons (pv 1) pa_nil))))))) (pss_one (ps_ret pe_bl)) pss_nil)
    (pss_one (ps_ret (pe_cmpR op_le (pe_call G_round_of (hr.mono (by decide)) (by rfl) T.g_round_of T.F_round_of.kp T.b_round_of .nil pass0 (pa_cons (pv 0) pa_nil)) (pe_globI (by rfl) T.i_LONGEST) (nomark _)))))))), ?_⟩
    have no : ¬ isMkD d → ∀ H', Sam H H' → Q (.bl false) H' := fun z H' s => q H' false s ⟨fun e => (by cases e), fun e => absurd e z⟩
    refine ⟨v, rfl, fun n σ H1 => ∃ (e : PyData) (u : V) (i : Nat), e.depth = n ∧ σ = [some v, some u, some (.int (i : Nat))] ∧ H1 = H ∧ Tg p H u e ∧ Wr i d e ∧ Bd kb nb wb e, ⟨_, d, v, 0, rfl, rfl, rfl, hv, rfl, bd⟩, ?_⟩
    rintro n σ H1 ⟨e, u, i, rfl, rfl, rfl, tu, wr, be⟩
    refine ⟨u, rfl, p, u, e, kb, nb, wb, rfl, tu, be, nb60, _, rfl, ?_⟩
    cases ha : arD e with
    | some f =>
      refine iteT ⟨_, fun σ' H' h => h, ?_⟩
      have lt := arD_dep ha
      obtain ⟨z, k, rfl, c⟩ := arD_is ha
      obtain ⟨a, xs, rfl, np, hA, hx⟩ := tu.tupv
      obtain ⟨x0, x1, x2, rfl, t0, t1, t2⟩ := hx.three
      refine ⟨.ref a, rfl, a, _, 2, _, rfl, rfl, SqT.mk hA, atI_nat (j := 2) rfl, ?_⟩
      refine ⟨_, rfl, _, _, rfl, rfl, ?_⟩
      exact ⟨f.depth, lt, f, x2, i + 1, rfl, rfl, rfl, t2, ⟨_, wr, ha⟩, be.around ha⟩
    | none =>
      refine iteF ⟨_, rfl, _, _, rfl, rfl, _, rfl, ?_⟩
      by_cases i3 : i ≤ 3
      rotate_left
      · rw [decide_eq_true (by omega)]
        refine iteT (no ?_ H1 (Sam.refl H1))
        intro z
        exact i3 (wr_no wr ha z).1
      rw [decide_eq_false (by omega)]
      refine iteF ⟨u, rfl, p, u, e, kb, nb, wb, rfl, tu, be, nb60, tab, fun H2 r s2 hr => ⟨_, rfl, ?_⟩⟩
      cases r with
      | false =>
        refine iteT (no ?_ H2 s2)
        intro z
        have := hr.mpr (wr_no wr ha z).2
        cases this
      | true =>
        obtain ⟨m, rfl, ok, vd, dp⟩ := wr_yes wr (hr.mp rfl)
        refine iteF ⟨v, rfl, m, v, rfl, (tg_mk hv).sam s2, ok, by omega, fun H3 s3 => ⟨_, _, rfl, rfl, ?_⟩⟩
        have e : decide (((m.rnd : Nat) : Int) ≤ 4096) = decide (m.rnd ≤ 4096) := decide_eq_decide.mpr ⟨fun z => by omega, fun z => by omega⟩
        show Q (.bl (decide (((m.rnd : Nat) : Int) ≤ 4096))) H3
        rw [e]
        refine q _ _ (s2.trans (Sam.of s3)) ⟨fun z => ⟨m, rfl, ok, vd, by omega, of_decide_eq_true z⟩, fun z => ?_⟩
        obtain ⟨m2, e2, _, _, _, rn⟩ := z
        rw [mkd_inj e2]
        exact decide_eq_true rn
/-! how large makers are, as things -/
theorem weiA_ints : ∀ {ns : List Int}, (∀ x, x ∈ ns → x.natAbs < 10 ^ 21) → PyData.weightAll (ns.map PyData.int) ≤ 86 * ns.length ∧ gdA 21 (ns.map PyData.int) = true ∧ PyData.depthAll (ns.map PyData.int) ≤ 0
  | [], _ => ⟨by simp [PyData.weightAll], rfl, by simp [PyData.depthAll]⟩
  | n :: ns, h => by
    obtain ⟨a, b, c⟩ := weiA_ints (ns := ns) fun x hx => h x (List.mem_cons_of_mem _ hx)
    have g := bd_int (k := 21) (h n List.mem_cons_self)
    have g1 := g.wt
    have g2 := g.g
    have g3 := g.dp
    refine ⟨?_, ?_, ?_⟩
    · simp only [List.map_cons, PyData.weightAll, List.length_cons]
      omega
    · simp only [List.map_cons, gdA, g2, b]
      rfl
    · simp only [List.map_cons, PyData.depthAll]
      omega
theorem n21 {n : Nat} (h : n ≤ 100000) : ((n : Nat) : Int).natAbs < 10 ^ 21 := by
  have : (100001 : Nat) ≤ 10 ^ 21 := by decide
  omega
theorem bd_w {z : Str} (h : PyData.strOk z = true) (l : z.length ≤ 10) : Bd 21 0 10 (.str z) := (bd_str h).mono (Nat.le_refl _) (Nat.le_refl _) l
theorem bd_w3 {z : Str} {n : Nat} {e : PyData} {m w : Nat} (hz : PyData.strOk z = true) (l : z.length ≤ 10) (hn : n ≤ 100000) (he : Bd 21 m w e) : Bd 21 (m + 1) (w + 100) (.tuple [.str z, .int (n : Nat), e]) :=
  (((BdA.one (bd_w hz l)).app ((BdA.one (bd_int (n21 hn))).app (BdA.one he))).mono (Nat.le_refl _) (show max 0 (max 0 m) ≤ m by omega) (show 10 + 1 + (4 * 21 + 1 + 1 + (w + 1)) ≤ w + 100 by omega)).tup
theorem bd_w4 {z : Str} {a b c : Nat} (hz : PyData.strOk z = true) (l : z.length ≤ 10) (ha : a ≤ 100000) (hb : b ≤ 100000) (hc : c ≤ 100000) : Bd 21 2 6000 (.tuple [.str z, .int (a : Nat), .int (b : Nat), .int (c : Nat)]) :=
  (((BdA.one (bd_w hz l)).app ((BdA.one (bd_int (n21 ha))).app ((BdA.one (bd_int (n21 hb))).app (BdA.one (bd_int (n21 hc)))))).mono (Nat.le_refl _) (show max 0 (max 0 (max 0 0)) ≤ 1 by omega) (show _ ≤ 6000 by omega)).tup
theorem mkd_bd : ∀ {m : Mk}, m.Ok → Bd 21 (m.dep + 2) (6000 + 100 * m.dep) (mkd m)
  | .counter r s t, ok => by
    obtain ⟨h1, h2, h3, h4⟩ : 1 ≤ r ∧ r ≤ 64 ∧ s ≤ 64 ∧ t < r := ok
    exact bd_w4 (by decide +kernel) (by decide +kernel) (by omega) (by omega) (by omega)
  | .turned w s, ok => by
    obtain ⟨h1, h2, h3⟩ : 1 ≤ w ∧ w ≤ 6 ∧ s < 2 ^ w := ok
    have : 2 ^ w ≤ 2 ^ 6 := Nat.pow_le_pow_right (by decide) h2
    exact (bd_w3 (by decide +kernel) (by decide +kernel) (by omega) (bd_int (n21 (show s ≤ 100000 by omega)))).mono (Nat.le_refl _) (show 0 + 1 ≤ 0 + 2 by omega) (show _ ≤ 6000 + 100 * 0 by omega)
  | .register w q s, ok => by
    obtain ⟨h1, h2, h3⟩ : RgW w q ∧ 1 ≤ s ∧ s < 2 ^ w := ok
    have : 2 ^ w ≤ 2 ^ 6 := Nat.pow_le_pow_right (by decide) h1.hi
    have := h1.ph
    have := h1.hi
    exact bd_w4 (by decide +kernel) (by decide +kernel) (by omega) (by omega) (by omega)
  | .table ns, ok => by
    obtain ⟨h1, h2, h3⟩ : 1 ≤ ns.length ∧ ns.length ≤ 64 ∧ ∀ x, x ∈ ns → 0 ≤ x ∧ x ≤ 63 := ok
    obtain ⟨a, b, c⟩ := weiA_ints (ns := ns) fun x hx => by
      have := h3 x hx
      have : (64 : Nat) ≤ 10 ^ 21 := by decide
      omega
    have t : Bd 21 (0 + 1) 5504 (.tuple (ns.map PyData.int)) := BdA.tup ⟨b, c, by omega⟩
    exact (((BdA.one (bd_w (z := "table") (by decide +kernel) (by decide +kernel))).app (BdA.one t)).mono (Nat.le_refl _) (show max 0 (0 + 1) ≤ 1 by omega) (show _ ≤ 6000 + 100 * 0 by omega)).tup
  | .slow n m, ok => by
    have h := mkd_bd (m := m) ok.2.2
    have := ok.2.1
    exact (bd_w3 (z := "slow") (by decide +kernel) (by decide +kernel) (show n ≤ 100000 by omega) h).mono (Nat.le_refl _) (by simp only [Mk.dep]; omega) (by simp only [Mk.dep]; omega)
  | .slip n m, ok => by
    have h := mkd_bd (m := m) ok.2.2
    have := ok.2.1
    exact (bd_w3 (z := "slip") (by decide +kernel) (by decide +kernel) (show n ≤ 100000 by omega) h).mono (Nat.le_refl _) (by simp only [Mk.dep]; omega) (by simp only [Mk.dep]; omega)
  | .late n m, ok => by
    have h := mkd_bd (m := m) ok.2
    have := ok.1
    exact (bd_w3 (z := "late") (by decide +kernel) (by decide +kernel) (show n ≤ 100000 by omega) h).mono (Nat.le_refl _) (by simp only [Mk.dep]; omega) (by simp only [Mk.dep]; omega)
def PN (p D : Addr) (HX : Hp) (m : Int) (k i : Nat) (H1 : Hp) : Prop := ∃ rs : List Int, rs.length = i ∧ (∀ x, x ∈ rs → 0 ≤ x ∧ x < m) ∧ But p HX H1 ∧ Bx H1 p (k + i) ∧ H1 D = some (.lst (rs.map V.int))
theorem pn_start {p D : Addr} {HX : Hp} {m : Int} {k : Nat} (nD : HX D = none) (B : Bx HX p k) : PN p D HX m k 0 (upd HX D (.lst [])) := ⟨[], rfl, fun _ h => (by cases h), (But.refl p HX).new nD, B.new nD, upd_same⟩
theorem pn_step {p D : Addr} {HX H1 H4 : Hp} {m : Int} {k i : Nat} {x : Int} (nD : HX D = none) (Dp : D ≠ p) (h : PN p D HX m k i H1) (b : But p H1 H4) (B : Bx H4 p (k + (i + 1))) (hi : i < 100000) (hx : 0 ≤ x ∧ x < m) :
    ∃ acc, H4 D = some (.lst acc) ∧ acc.length < sizeLine ∧ PN p D HX m k (i + 1) (upd H4 D (.lst (acc ++ [.int x]))) := by
  obtain ⟨rs, hl, hb, b1, _, hD⟩ := h
  have hsl : sizeLine = 16777216 := by decide
  refine ⟨_, b _ _ Dp hD, by rw [List.length_map]; omega, rs ++ [x], by rw [List.length_append, hl]; rfl, fun y hy => ?_, but_newer (b1.trans b) nD, B.other Dp, ?_⟩
  · rcases List.mem_append.mp hy with hy | hy
    · exact hb y hy
    · rw [List.mem_singleton.mp hy]
      exact hx
  · rw [upd_same, List.map_append]
    rfl
def SV (D : Addr) (HX : Hp) (m i : Nat) (H1 : Hp) : Prop := ∃ ss : List Int, ss.length ≤ i ∧ (i = 0 ∨ 1 ≤ ss.length) ∧ (∀ x, x ∈ ss → 1 ≤ x ∧ x ≤ m ∧ Int.gcd x (m : Int) = 1) ∧ Same HX H1 ∧ H1 D = some (.lst (ss.map V.int))
theorem i01b {c : Bool} : 0 ≤ (if c = true then (1 : Int) else 0) ∧ (if c = true then (1 : Int) else 0) < ((2 : Nat) : Int) := by
  cases c <;> decide
def sp__law_plain (_ : PySem.W.Frag) : Sp := fun vs H Q _ => ∃ (p : Addr) (n : Nat), vs = [.ref p] ∧ Bx H p n ∧ n < 1000000000 ∧
  ∀ H' v m, But p H H' → Bx H' p (n + 200) → MkAt H' m v → m.dep = 0 → m.Pl → m.Vd → Q v H'
theorem ok__law_plain (T : Defs K mg) (TT : Tabs T base) : FnOk P w K mg base CX0 2 T.f__law_plain T.fd__law_plain ["_law_box_here"] (sp__law_plain K) := by
  have G__law_take : FnOk P w K mg base CX0 1 T.f__law_take T.fd__law_take ["_law_box_here", "_law_many"] (sp__law_take K) := ok__law_take T TT
  have G__law_powers : FnOk P w K mg base CX0 1 T.f__law_powers T.fd__law_powers [] (sp__law_powers K) := ok__law_powers T TT
  have G__law_divisor : FnOk P w K mg base CX0 1 T.f__law_divisor T.fd__law_divisor ["_law_one", "_law_other"] (sp__law_divisor K) := ok__law_divisor T TT
  refine T.F__law_plain.ok sc__law_plain (fun vs H Q E h => ?_) (fun cdv A outer s H vs Q E hr h => ?_)
  · obtain ⟨p, n, rfl, hB, hn, q⟩ := h
    rfl
  · obtain ⟨p, n, rfl, hB, hn, q⟩ := h
    refine ⟨_, PSs.nox (pss_cons (ps_par (i := 1) (j := 2) (by rfl) sc__law_plain.nd rfl rfl (by decide) rfl rfl (pa_cons (pe_call G__law_take (hr.mono (by decide)) (by rfl) T.g__law_take T.F__law_take.kp T.b__law_take .nil pass0 (pa_cons (pv 0) (pa_cons pe_int pa_nil))) (pa_cons (pe_cmpR op_eq (pe_call G__law_take (hr.mono (by decide)) (by rfl) T.g__law_take T.F__law_take.kp T.b__law_take .nil pass0 (pa_cons (pv 0) (pa_cons pe_int pa_nil))) pe_int (nomark _)) pa_nil)) (by rfl))
    (pss_cons (ps_if (pt_cmpR op_eq (pv 1) pe_int (nomark _)) (pss_cons (ps_set (i := 3) sc__law_plain.nd rfl (.inr rfl) (pe_ix ix_list (pe_lst (pa_cons (pe_op op_add pe_int (pe_call G__law_take (hr.mono (by decide)) (by rfl) T.g__law_take T.F__law_take.kp T.b__law_take .nil pass0 (pa_cons (pv 0) (pa_cons pe_int pa_nil)))) (pa_cons (pe_op op_add pe_int (pe_call G__law_take (hr.mono (by decide)) (by rfl) T.g__law_take T.F__law_take.kp T.b__law_take .nil pass0 (pa_cons (pv 0) (pa_cons pe_int pa_nil)))) pa_nil))) (pe_callTy call_int1 (by rfl) T.m_int bt_int (pa_cons (pv 2) pa_nil)) (fun _ _ => rfl)))
    (pss_cons (ps_setLc (i := 4) (own := [("_law_step", 7)]) (g := gName 7) rfl sc__law_plain.nd rfl rfl (sw_true rfl rfl rfl (by decide +kernel)) (pi_range2 (by rfl) T.m_range (pa_cons pe_int (pa_cons (pe_op op_add (pv 3) pe_int) pa_nil))) (blkOk_by (N := N__law_plain) (sc := defScope s__law_plain) (by decide +kernel)) (fun _ _ _ _ _ => (pg_name (i := 7) sc__law_plain.nd rfl (.inl rfl))) (fun _ _ _ _ _ => pts_one (pt_cmpR op_eq (pe_call G__law_divisor (hr.mono (by decide)) (by rfl) T.g__law_divisor T.F__law_divisor.kp T.b__law_divisor .nil pass0 (pa_cons (pv 7) (pa_cons (pv 3) pa_nil))) pe_int (nomark _))) (fun _ _ _ _ _ => (pv 7)))
    (pss_one (ps_ret (pe_tup (pa_cons pe_str (pa_cons (pv 3) (pa_cons (pe_ix ix_list (pv 4) (pe_call G__law_take (hr.mono (by decide)) (by rfl) T.g__law_take T.F__law_take.kp T.b__law_take .nil pass0 (pa_cons (pv 0) (pa_cons (pe_callB call_len_seq (by rfl) T.m_len bt_len (pa_cons (pv 4) pa_nil)) pa_nil))) (fun _ _ => rfl)) (pa_cons (pe_call G__law_take (hr.mono (by decide)) (by rfl) T.g__law_take T.F__law_take.kp T.b__law_take .nil pass0 (pa_cons (pv 0) (pa_cons (pv 3) pa_nil))) pa_nil))))))))) pss_nil)
    (pss_cons (ps_if (pt_cmpR op_eq (pv 1) pe_int (nomark _)) (pss_cons (ps_set (i := 3) sc__law_plain.nd rfl (.inr rfl) (pe_ix ix_list (pe_lst (pa_cons (pe_op op_add pe_int (pe_call G__law_take (hr.mono (by decide)) (by rfl) T.g__law_take T.F__law_take.kp T.b__law_take .nil pass0 (pa_cons (pv 0) (pa_cons pe_int pa_nil)))) (pa_cons (pe_op op_add pe_int (pe_call G__law_take (hr.mono (by decide)) (by rfl) T.g__law_take T.F__law_take.kp T.b__law_take .nil pass0 (pa_cons (pv 0) (pa_cons pe_int pa_nil)))) pa_nil))) (pe_callTy call_int1 (by rfl) T.m_int bt_int (pa_cons (pv 2) pa_nil)) (fun _ _ => rfl)))
    (pss_cons (ps_set (i := 5) sc__law_plain.nd rfl (.inr rfl) (pe_ix ix_list (pe_lst (pa_cons pe_int (pa_cons pe_int (pa_cons pe_int pa_nil)))) (pe_call G__law_take (hr.mono (by decide)) (by rfl) T.g__law_take T.F__law_take.kp T.b__law_take .nil pass0 (pa_cons (pv 0) (pa_cons pe_int pa_nil))) (fun _ _ => rfl)))
    (pss_one (ps_ret (pe_tup (pa_cons pe_str (pa_cons (pe_callTy call_tuple_of (by rfl) T.m_tuple bt_tuple (pa_cons (pe_lc (own := [("_law_place", 8)]) (g := gName 8) (tt := tYes) rfl sc__law_plain.nd (pi_range1 (by rfl) T.m_range (pa_cons (pv 3) pa_nil)) (blkOk_by (N := N__law_plain) (sc := defScope s__law_plain) (by decide +kernel)) (fun _ _ _ _ _ => (pg_name (i := 8) sc__law_plain.nd rfl (.inl rfl))) (fun _ _ _ _ _ => pts_nil) (fun _ _ _ _ _ => (pe_call G__law_take (hr.mono (by decide)) (by rfl) T.g__law_take T.F__law_take.kp T.b__law_take .nil pass0 (pa_cons (pv 0) (pa_cons (pv 5) pa_nil))))) pa_nil)) pa_nil))))))) pss_nil)
    (pss_cons (ps_set (i := 6) sc__law_plain.nd rfl (.inl rfl) (pe_op op_add pe_int (pe_call G__law_take (hr.mono (by decide)) (by rfl) T.g__law_take T.F__law_take.kp T.b__law_take .nil pass0 (pa_cons (pv 0) (pa_cons (pe_ix ix_list (pe_lst (pa_cons pe_int (pa_cons pe_int pa_nil))) (pe_callTy call_int1 (by rfl) T.m_int bt_int (pa_cons (pv 2) pa_nil)) (fun _ _ => rfl)) pa_nil)))))
    (pss_cons (ps_set (i := 3) sc__law_plain.nd rfl (.inr rfl) (pe_ix ix_list (pe_call0 G__law_powers (hr.mono (by decide)) (by rfl) T.g__law_powers T.F__law_powers.kp T.b__law_powers .nil pass0) (pv 6) (fun _ _ => rfl)))
    (pss_cons (ps_if (pt_cmpR op_eq (pv 1) pe_int (nomark _)) (pss_cons (ps_set (i := 6) sc__law_plain.nd rfl (.inl rfl) (pe_op op_sub (pv 6) (pe_call G__law_take (hr.mono (by decide)) (by rfl) T.g__law_take T.F__law_take.kp T.b__law_take .nil pass0 (pa_cons (pv 0) (pa_cons pe_int pa_nil)))))
    (pss_one (ps_ret (pe_tup (pa_cons pe_str (pa_cons (pv 6) (pa_cons (pe_call G__law_take (hr.mono (by decide)) (by rfl) T.g__law_take T.F__law_take.kp T.b__law_take .nil pass0 (pa_cons (pv 0) (pa_cons (pe_ix ix_list (pe_call0 G__law_powers (hr.mono (by decide)) (by rfl) T.g__law_powers T.F__law_powers.kp T.b__law_powers .nil pass0) (pv 6) (fun _ _ => rfl)) pa_nil))) pa_nil))))))) pss_nil)
    (pss_one (ps_ret (pe_tup (pa_cons pe_str (pa_cons (pv 6) (pa_cons (pe_op op_add (pe_op op_fdiv (pv 3) pe_int) (pe_call G__law_take (hr.mono (by decide)) (by rfl) T.g__law_take T.F__law_take.kp T.b__law_take .nil pass0 (pa_cons (pv 0) (pa_cons (pe_op op_fdiv (pv 3) pe_int) pa_nil)))) (pa_cons (pe_op op_add pe_int (pe_call G__law_take (hr.mono (by decide)) (by rfl) T.g__law_take T.F__law_take.kp T.b__law_take .nil pass0 (pa_cons (pv 0) (pa_cons (pe_op op_sub (pv 3) pe_int) pa_nil)))) pa_nil))))))))))))), ?_⟩
    have hsl : sizeLine = 16777216 := by decide
    refine ⟨.ref p, rfl, p, 4, n, rfl, hB, by decide, by decide, by omega, fun H1 way c1 B1 l1 u1 => ?_⟩
    refine ⟨.ref p, rfl, p, 8, n + 1, rfl, B1, by decide, by decide, by omega, fun H2 r2 c2 B2 l2 u2 => ⟨rfl, _, _, rfl, ?_⟩⟩
    obtain ⟨gr, hgr⟩ : ∃ gr, decide (V.int r2 = V.int 0) = gr := ⟨_, rfl⟩
    rw [hgr]
    have b2 := c1.trans c2
    clear c1 c2 B1 hgr l2 u2
    refine ⟨.int way, rfl, rfl, _, rfl, ite2 (fun _ => ?_) (fun _ => ?_)⟩
    · -- a counter
      refine ⟨.ref p, rfl, p, 16, _, rfl, B2, by decide, by decide, by omega, fun H3 r3 c3 B3 l3 u3 => ⟨_, _, rfl, rfl, ?_⟩⟩
      refine ⟨.ref p, rfl, p, 64, _, rfl, B3, by decide, by decide, by omega, fun H4 r4 c4 B4 l4 u4 => ⟨_, _, rfl, rfl, ?_⟩⟩
      refine ⟨(show 2 ≤ sizeLine by decide), fun l nl => ?_⟩
      obtain ⟨v, ev, hv⟩ := at_menu (Pr := fun v => 1 ≤ v ∧ v ≤ 64) (xs := [1 + r3, 1 + r4]) (r := if gr = true then (1 : Int) else 0) i01b.1 i01b.2 (fun x hx => by
        simp only [List.mem_cons, List.not_mem_nil, or_false] at hx
        omega)
      refine ⟨.bl gr, rfl, .inr ⟨_, rfl, l, _, _, _, rfl, rfl, SqL.mk upd_same, ev, ?_⟩⟩
      obtain ⟨m, rfl⟩ := nat_of (show 0 ≤ v by omega)
      have b4 := (b2.trans (c3.trans c4)).new (o := .lst [.int (1 + r3), .int (1 + r4)]) nl
      have B5 := B4.new (o := .lst [.int (1 + r3), .int (1 + r4)]) nl
      generalize upd H4 l (.lst [.int (1 + r3), .int (1 + r4)]) = G2 at b4 B5 ⊢
      clear ev l3 u3 l4 u4 c3 c4 B3 B4 nl
      refine ⟨.int (m : Nat), rfl, _, _, rfl, rfl, _, _, rfl, ⟨by decide, by decide, by omega, by omega⟩, fun D nD => ?_⟩
      refine lc_range (SV D G2 m) ⟨[], Nat.le_refl 0, .inl rfl, fun _ h => (by cases h), same_upd nD, upd_same⟩ (fun i F hi h => ?_) (fun F h => ?_)
      · obtain ⟨ss, e1, e2, e3, sF, hD⟩ := h
        have hi : i < m := by omega
        refine ⟨rfl, _, rfl, .int (m : Nat), rfl, _, _, rfl, rfl, _, rfl, ?_⟩
        refine ite2 (fun e => ?_) (fun e => ?_)
        · refine ⟨_, rfl, _, hD, by rw [List.length_map]; omega, ss ++ [1 + (i : Int)], by rw [List.length_append]; exact Nat.add_le_add_right e1 1, .inr (by rw [List.length_append]; exact Nat.le_add_left _ _), fun x hx => ?_, same_newer sF nD, by rw [upd_same, List.map_append]; rfl⟩
          rcases List.mem_append.mp hx with hx | hx
          · exact e3 x hx
          · rw [List.mem_singleton.mp hx]
            have eg : ((Int.gcd (1 + (i : Int)) (m : Int) : Nat) : Int) = 1 := V.int.inj (of_decide_eq_true e)
            exact ⟨by omega, by omega, by omega⟩
        · refine ⟨ss, by omega, .inr ?_, e3, sF, hD⟩
          rcases e2 with rfl | e2
          · exfalso
            refine e (decide_eq_true ?_)
            show V.int ((Int.gcd (1 + ((0 : Nat) : Int)) (m : Int) : Nat) : Int) = V.int 1
            have : Int.gcd (1 + ((0 : Nat) : Int)) (m : Int) = 1 := by
              show Nat.gcd 1 m = 1
              exact Nat.gcd_one_left m
            rw [this]
            rfl
          · exact e2
      obtain ⟨ss, e1, e2, e3, sF, hD⟩ := h
      have e2 : 1 ≤ ss.length := by omega
      have e1 : ss.length ≤ 64 := by omega
      have bF := b4.trans (same_but (p := p) sF)
      have BF := B5.same sF
      have Db : D ≠ p := ne_new B5 nD
      refine ⟨.int (m : Nat), rfl, .ref D, rfl, .ref p, rfl, .ref D, rfl, D, _, rfl, .inl (SqL.mk hD), p, ss.length, _, by rw [List.length_map]; rfl, BF, by omega, by omega, by omega, fun F3 r5 c5 B6 l5 u5 => ?_⟩
      obtain ⟨sp, ev2, hv2⟩ := at_menu (Pr := fun v => 1 ≤ v ∧ v ≤ (m : Int) ∧ Int.gcd v (m : Int) = 1) (xs := ss) l5 u5 e3
      refine ⟨D, _, _, _, rfl, rfl, SqL.mk (c5 _ _ Db hD), ev2, .ref p, rfl, .int (m : Nat), rfl, p, m, _, rfl, B6, by omega, by omega, by omega, fun F4 r6 c6 B7 l6 u6 => ⟨(show 4 ≤ sizeLine by decide), fun mk nmk => ?_⟩⟩
      obtain ⟨sp, rfl⟩ := nat_of (show 0 ≤ sp by omega)
      obtain ⟨t, rfl⟩ := nat_of l6
      exact q _ (.ref mk) (.counter m sp t) ((bF.trans (c5.trans c6)).new nmk) ((B7.new nmk).mono (by omega)) ⟨mk, rfl, upd_same⟩ rfl ⟨by omega, by omega, by omega, by omega⟩ ⟨by omega, by omega, hv2.2.2⟩
    refine ⟨.int way, rfl, rfl, _, rfl, ite2 (fun _ => ?_) (fun _ => ?_)⟩
    · -- a table
      refine ⟨.ref p, rfl, p, 8, _, rfl, B2, by decide, by decide, by omega, fun H3 r3 c3 B3 l3 u3 => ⟨_, _, rfl, rfl, ?_⟩⟩
      refine ⟨.ref p, rfl, p, 64, _, rfl, B3, by decide, by decide, by omega, fun H4 r4 c4 B4 l4 u4 => ⟨_, _, rfl, rfl, ?_⟩⟩
      refine ⟨(show 2 ≤ sizeLine by decide), fun l nl => ?_⟩
      obtain ⟨v, ev, hv⟩ := at_menu (Pr := fun v => 1 ≤ v ∧ v ≤ 64) (xs := [1 + r3, 1 + r4]) (r := if gr = true then (1 : Int) else 0) i01b.1 i01b.2 (fun x hx => by
        simp only [List.mem_cons, List.not_mem_nil, or_false] at hx
        omega)
      refine ⟨.bl gr, rfl, .inr ⟨_, rfl, l, _, _, _, rfl, rfl, SqL.mk upd_same, ev, ?_⟩⟩
      obtain ⟨k, rfl⟩ := nat_of (show 0 ≤ v by omega)
      have b4 := (b2.trans (c3.trans c4)).new (o := .lst [.int (1 + r3), .int (1 + r4)]) nl
      have B5 := B4.new (o := .lst [.int (1 + r3), .int (1 + r4)]) nl
      generalize upd H4 l (.lst [.int (1 + r3), .int (1 + r4)]) = G2 at b4 B5 ⊢
      clear ev l3 u3 l4 u4 c3 c4 B3 B4 nl
      refine ⟨(show 3 ≤ sizeLine by decide), fun l nl => ?_⟩
      refine ⟨.ref p, rfl, p, 3, _, rfl, B5.new nl, by decide, by decide, by omega, fun F5 r6 c7 B7 l6 u6 => ?_⟩
      obtain ⟨ms, ev, hv2⟩ := at_menu (Pr := fun v => 1 ≤ v ∧ v ≤ 64) (xs := [2, 6, 64]) l6 u6 (fun x hx => by
        simp only [List.mem_cons, List.not_mem_nil, or_false] at hx
        omega)
      refine ⟨l, _, _, _, rfl, rfl, SqL.mk (c7 _ _ (ne_new B5 nl) upd_same), ev, ?_⟩
      have b7 := (b4.new nl).trans c7
      refine ⟨.int (k : Nat), rfl, _, rfl, by omega, by omega, fun D nD => ?_⟩
      refine lc_range (PN p D F5 ms (n + 50)) (pn_start nD (B7.mono (by omega))) (fun i E5 hi h5 => ?_) (fun E5 h5 => ?_)
      · refine ⟨rfl, yes_ite ?_⟩
        have h5' := h5
        obtain ⟨_, _, _, _, B8, _⟩ := h5'
        refine ⟨.ref p, rfl, .int ms, rfl, p, ms, _, rfl, B8, by omega, by omega, by omega, fun H6 r6 b6 B6 l6 u6 => ?_⟩
        exact pn_step nD (ne_new B7 nD) h5 b6 B6 (by omega) ⟨l6, u6⟩
      obtain ⟨rs, hl, hb, b8, B8, hD⟩ := h5
      refine ⟨D, _, rfl, .inl ⟨SqL.mk hD, fun tb ntb => ⟨(show 2 ≤ sizeLine by decide), fun mk nmk => ?_⟩⟩⟩
      exact q _ (.ref mk) (.table rs) ((b7.trans ((b8.new ntb).new nmk))) (((B8.new ntb).new nmk).mono (by omega)) ⟨mk, tb, rfl, upd_same, (same_upd nmk) _ _ upd_same⟩ rfl ⟨by omega, by omega, fun x hx => by have := hb x hx; omega⟩ trivial
    -- turned ones and registers
    refine ⟨.ref p, rfl, (show 2 ≤ sizeLine by decide), fun l nl => ?_⟩
    obtain ⟨v, ev, hv⟩ := at_menu (Pr := fun v => 3 ≤ v ∧ v ≤ 5) (xs := [3, 5]) (r := if gr = true then (1 : Int) else 0) i01b.1 i01b.2 (fun x hx => by
      simp only [List.mem_cons, List.not_mem_nil, or_false] at hx
      omega)
    refine ⟨.bl gr, rfl, .inr ⟨_, rfl, l, _, _, _, rfl, rfl, SqL.mk upd_same, ev, p, v, _, rfl, B2.new nl, by omega, by omega, by omega, fun H3 r3 c3 B3 l3 u3 => ⟨_, _, rfl, rfl, ?_⟩⟩⟩
    have b3 := (b2.new nl).trans c3
    obtain ⟨w', hw⟩ : ∃ w' : Nat, 2 + r3 = w' := ⟨(2 + r3).toNat, by omega⟩
    have w1 : 2 ≤ w' := by omega
    have w2 : w' ≤ 6 := by omega
    try dsimp only
    rw [hw]
    clear ev hv l3 u3 c3 B2 nl hw b2
    refine ⟨rfl, fun H4 lp g4 nlp hlp => ?_⟩
    refine ⟨.int (w' : Nat), rfl, lp, _, _, _, rfl, rfl, SqL.mk hlp, at_pow w2, ?_⟩
    have tp := two_pow6 w2
    obtain ⟨h2, hh2⟩ : ∃ h2, 2 ^ (w' - 1) = h2 := ⟨_, rfl⟩
    have en : 2 ^ w' = 2 * h2 := by
      rw [← hh2, show w' = (w' - 1) + 1 by omega, Nat.pow_succ, Nat.add_sub_cancel]
      omega
    obtain ⟨nn, hn2⟩ : ∃ nn : Nat, 2 ^ w' = nn := ⟨_, rfl⟩
    rw [hn2] at tp en ⊢
    have h21 : 2 ≤ h2 := by
      rw [← hh2]
      exact Nat.le_trans (by decide : 2 ≤ 2 ^ 1) (Nat.pow_le_pow_right (by decide) (by omega))
    have B4 := B3.same g4
    have b4 := b3.trans (same_but (p := p) g4)
    refine ⟨.int way, rfl, rfl, _, rfl, ite2 (fun _ => ?_) (fun _ => ?_)⟩
    · refine ⟨.int (w' : Nat), rfl, .ref p, rfl, p, 2, _, rfl, B4, by decide, by decide, by omega, fun H5 r5 c5 B5 l5 u5 => ⟨_, _, rfl, rfl, ?_⟩⟩
      obtain ⟨v', hv'⟩ : ∃ v' : Nat, (w' : Int) - r5 = v' := ⟨((w' : Int) - r5).toNat, by omega⟩
      have v1 : 1 ≤ v' := by omega
      have v2 : v' ≤ 6 := by omega
      try dsimp only
      rw [hv']
      have vp := two_pow6 v2
      obtain ⟨mm, hmm⟩ : ∃ mm : Nat, 2 ^ v' = mm := ⟨_, rfl⟩
      refine ⟨.int (v' : Nat), rfl, .ref p, rfl, rfl, fun H6 lq g6 nlq hlq => ?_⟩
      refine ⟨.int (v' : Nat), rfl, lq, _, _, _, rfl, rfl, SqL.mk hlq, at_pow v2, ?_⟩
      rw [hmm] at vp ⊢
      refine ⟨p, mm, _, rfl, B5.same g6, by omega, by omega, by omega, fun H7 r7 c7 B7 l7 u7 => ⟨(show 3 ≤ sizeLine by decide), fun mk nmk => ?_⟩⟩
      obtain ⟨t, rfl⟩ := nat_of l7
      exact q _ (.ref mk) (.turned v' t) (((b4.trans c5).trans ((same_but g6).trans c7)).new nmk) ((B7.new nmk).mono (by omega)) ⟨mk, rfl, upd_same⟩ rfl ⟨v1, v2, by rw [hmm]; omega⟩ trivial
    · have ed : (nn : Int) / 2 = (h2 : Int) := by omega
      refine ⟨.int (w' : Nat), rfl, .int (nn : Nat), rfl, _, _, rfl, rfl, ⟨by decide, by decide⟩, .ref p, rfl, .int (nn : Nat), rfl, _, _, rfl, rfl, ⟨by decide, by decide⟩, p, (h2 : Int), _, congrArg (fun z => [V.ref p, V.int z]) ed, B4, by omega, by omega, by omega, fun H5 r5 c5 B5 l5 u5 => ⟨_, _, rfl, rfl, ?_⟩⟩
      obtain ⟨p', hp'⟩ : ∃ p' : Nat, (nn : Int) / 2 + r5 = p' := ⟨((nn : Int) / 2 + r5).toNat, by omega⟩
      refine ⟨.ref p, rfl, .int (nn : Nat), rfl, _, _, rfl, rfl, p, (nn : Int) - 1, _, rfl, B5, by omega, by omega, by omega, fun H6 r6 c6 B6 l6 u6 => ⟨_, _, rfl, rfl, (show 4 ≤ sizeLine by decide), fun mk nmk => ?_⟩⟩
      obtain ⟨t, ht⟩ : ∃ t : Nat, 1 + r6 = t := ⟨(1 + r6).toNat, by omega⟩
      refine q _ (.ref mk) (.register w' p' t) ((b4.trans (c5.trans c6)).new nmk) ((B6.new nmk).mono (by omega)) ⟨mk, rfl, ?_⟩ rfl ⟨⟨w1, w2, by rw [hh2]; omega, by rw [hn2]; omega⟩, by omega, by rw [hn2]; omega⟩ trivial
      rw [upd_same, ← hp', ← ht]
theorem around_ok {H : Hp} {m : Mk} {x : V} {a : Addr} {z : Str} {n : Nat} (ha : H a = some (.tup [.str z, .int (n : Nat), x])) (hx : MkAt H m x) (ok : m.Ok) (hz : z = "slow" ∨ z = "slip" ∨ z = "late") (n2 : n ≤ 64) (n1 : z = "late" ∨ 1 ≤ n) :
    ∃ m', MkAt H m' (.ref a) ∧ m'.Ok ∧ m'.dep = m.dep + 1 ∧ m'.inn = m.inn ∧ m'.rnd ≤ 64 * m.rnd := by
  rcases hz with rfl | rfl | rfl
  · have n1 : 1 ≤ n := n1.resolve_left (by decide +kernel)
    exact ⟨.slow n m, ⟨a, x, rfl, ha, hx⟩, ⟨n1, n2, ok⟩, rfl, rfl, Nat.mul_le_mul_right _ n2⟩
  · have n1 : 1 ≤ n := n1.resolve_left (by decide +kernel)
    exact ⟨.slip n m, ⟨a, x, rfl, ha, hx⟩, ⟨n1, n2, ok⟩, rfl, rfl, Nat.le_trans (Nat.div_le_self _ _) (Nat.mul_le_mul_right _ n2)⟩
  · exact ⟨.late n m, ⟨a, x, rfl, ha, hx⟩, ⟨n2, ok⟩, rfl, rfl, Nat.le_mul_of_pos_left _ (by decide)⟩
theorem word_menu {x : V} (hx : x ∈ [V.str "slow", .str "slip", .str "late"]) : ∃ z : Str, x = .str z ∧ (z = "slow" ∨ z = "slip" ∨ z = "late") := by
  rcases List.mem_cons.mp hx with rfl | hx
  · exact ⟨_, rfl, .inl rfl⟩
  rcases List.mem_cons.mp hx with rfl | hx
  · exact ⟨_, rfl, .inr (.inl rfl)⟩
  rcases List.mem_cons.mp hx with rfl | hx
  · exact ⟨_, rfl, .inr (.inr rfl)⟩
  · cases hx
theorem bs_of {m : Mk} (ok : m.Ok) : m.inn.Bs := by
  have := ok.inn
  have d := Mk.inn_dep m
  cases e : m.inn with
  | slow n k => rw [e] at d; cases d
  | slip n k => rw [e] at d; cases d
  | late n k => rw [e] at d; cases d
  | _ => trivial
def sp__law_maker (_ : PySem.W.Frag) : Sp := fun vs H Q _ => ∃ (p : Addr) (M : Int) (n : Nat), vs = [.ref p, .int M] ∧ Bx H p n ∧ n < 1000000000 ∧ 64 ≤ M ∧
  ∀ H' v m, But p H H' → Bx H' p (n + 300) → MkAt H' m v → m.Ok → m.dep ≤ 3 → (m.rnd : Int) ≤ M → m.inn.Vd → Q v H'
theorem ok__law_maker (T : Defs K mg) (TT : Tabs T base) : FnOk P w K mg base CX0 10 T.f__law_maker T.fd__law_maker ["_law_box_here", "_law_most"] (sp__law_maker K) := by
  have G__law_plain : FnOk P w K mg base CX0 2 T.f__law_plain T.fd__law_plain ["_law_box_here"] (sp__law_plain K) := ok__law_plain T TT
  have G__law_take : FnOk P w K mg base CX0 1 T.f__law_take T.fd__law_take ["_law_box_here", "_law_many"] (sp__law_take K) := ok__law_take T TT
  have G__law_round : FnOk P w K mg base CX0 9 T.f__law_round T.fd__law_round ["_law_maker_here"] (sp__law_round K) := ok__law_round T TT
  refine T.F__law_maker.ok sc__law_maker (fun vs H Q E h => ?_) (fun cdv A outer s H vs Q E hr h => ?_)
  · obtain ⟨p, M, n, rfl, hB, hn, hM, q⟩ := h
    rfl
  · obtain ⟨p, M, n, rfl, hB, hn, hM, q⟩ := h
    refine ⟨_, PSs.nox (pss_cons (ps_set (i := 2) sc__law_maker.nd rfl (.inl rfl) (pe_call G__law_plain (hr.mono (by decide)) (by rfl) T.g__law_plain T.F__law_plain.kp T.b__law_plain .nil pass0 (pa_cons (pv 0) pa_nil)))
    (pss_cons ((ps_for PassesOwn.never rfl (pi_range1 (by rfl) T.m_range (pa_cons (pe_ix ix_list (pe_lst (pa_cons pe_int (pa_cons pe_int (pa_cons pe_int (pa_cons pe_int pa_nil))))) (pe_call G__law_take (hr.mono (by decide)) (by rfl) T.g__law_take T.F__law_take.kp T.b__law_take .nil pass0 (pa_cons (pv 0) (pa_cons pe_int pa_nil))) (fun _ _ => rfl)) pa_nil)) (pg_name (i := 3) sc__law_maker.nd rfl (.inl rfl)) (pss_cons (ps_set (i := 4) sc__law_maker.nd rfl (.inl rfl) (pe_ix ix_list (pe_lst (pa_cons pe_str (pa_cons pe_str (pa_cons pe_str pa_nil)))) (pe_call G__law_take (hr.mono (by decide)) (by rfl) T.g__law_take T.F__law_take.kp T.b__law_take .nil pass0 (pa_cons (pv 0) (pa_cons pe_int pa_nil))) (fun _ _ => rfl)))
    (pss_cons (ps_set (i := 5) sc__law_maker.nd rfl (.inl rfl) (pe_op op_add pe_int (pe_call G__law_take (hr.mono (by decide)) (by rfl) T.g__law_take T.F__law_take.kp T.b__law_take .nil pass0 (pa_cons (pv 0) (pa_cons (pe_ix ix_list (pe_lst (pa_cons pe_int (pa_cons pe_int (pa_cons pe_int pa_nil)))) (pe_call G__law_take (hr.mono (by decide)) (by rfl) T.g__law_take T.F__law_take.kp T.b__law_take .nil pass0 (pa_cons (pv 0) (pa_cons pe_int pa_nil))) (fun _ _ => rfl)) pa_nil)))))
    (pss_cons (ps_set (i := 6) sc__law_maker.nd rfl (.inl rfl) (pe_tup (pa_cons (pv 4) (pa_cons (pe_op op_sub (pv 5) (pe_op op_mul (pe_callTy call_int1 (by rfl) T.m_int bt_int (pa_cons (pe_cmpR op_eq (pv 4) pe_str (nomark _)) pa_nil)) (pe_call G__law_take (hr.mono (by decide)) (by rfl) T.g__law_take T.F__law_take.kp T.b__law_take .nil pass0 (pa_cons (pv 0) (pa_cons pe_int pa_nil))))) (pa_cons (pv 2) pa_nil)))))
    (pss_one (ps_if (pt_cmpR op_le (pe_call G__law_round (hr.mono (by decide)) (by rfl) T.g__law_round T.F__law_round.kp T.b__law_round .nil pass0 (pa_cons (pv 6) pa_nil)) (pv 1) (nomark _)) (pss_one (ps_set (i := 2) sc__law_maker.nd rfl (.inl rfl) (pv 6))) pss_nil)))))))
    (pss_one (ps_ret (pv 2))))), ?_⟩
    have hsl : sizeLine = 16777216 := by decide
    refine ⟨.ref p, rfl, p, n, rfl, hB, by omega, fun H1 v m b1 B1 hm d0 pl cp0 => ?_⟩
    have ic0 : m.inn.Vd := by rw [Mk.inn_self d0]; exact cp0
    have ok0 : m.Ok := by
      cases m with
      | slow n k => cases d0
      | slip n k => cases d0
      | late n k => cases d0
      | _ => exact pl
    have r0 : (m.rnd : Int) ≤ M := by
      rw [rnd_plain d0]
      have := pl.len
      omega
    refine ⟨(show 4 ≤ sizeLine by decide), fun l nl => ?_⟩
    refine ⟨.ref p, rfl, p, 4, _, rfl, B1.new nl, by decide, by decide, by omega, fun H2 r2 c2 B2 l2 u2 => ?_⟩
    obtain ⟨k, ek, hk⟩ := at_menu (Pr := fun v => 0 ≤ v ∧ v ≤ 3) (xs := [0, 1, 2, 3]) l2 u2 (fun x hx => by
      simp only [List.mem_cons, List.not_mem_nil, or_false] at hx
      omega)
    refine ⟨l, _, _, _, rfl, rfl, SqL.mk (c2 _ _ (ne_new B1 nl) upd_same), ek, _, rfl, by omega, by omega, ?_⟩
    have c12 : But p H1 H2 := ((But.refl p H1).new nl).trans c2
    have b2 := b1.trans c12
    have hm2 : MkAt H2 m v := hm.but B1 c12
    refine for_range (fun i σ G => ∃ v y3 y4 y5 y6, ∃ m : Mk, σ = [some (.ref p), some (.int M), some v, y3, y4, y5, y6] ∧ But p H G ∧ Bx G p (n + 210 + 10 * i) ∧ MkAt G m v ∧ m.Ok ∧ m.dep ≤ i ∧ (m.rnd : Int) ≤ M ∧ m.inn.Vd) ⟨v, none, none, none, none, m, rfl, b2, B2.mono (by omega), hm2, ok0, by omega, r0, ic0⟩ ?_ ?_
    rotate_left
    · rintro σ G ⟨v, y3, y4, y5, y6, m, rfl, bG, BG, hm, ok, dp, rm, ic⟩
      exact ⟨v, rfl, q G v m bG (BG.mono (by omega)) hm ok (by omega) rm ic⟩
    clear hm2 hm ok0 r0 d0 pl ic0 cp0 m v b1 B1 c12 b2 B2
    rintro i σ G hi ⟨v, y3, y4, y5, y6, m, rfl, bG, BG, hm, ok, dp, rm, ic⟩
    -- the word
    refine ⟨(show 3 ≤ sizeLine by decide), fun l nl => ?_⟩
    refine ⟨.ref p, rfl, p, 3, _, rfl, BG.new nl, by decide, by decide, by omega, fun G1 r1 c1 B1 l1 u1 => ?_⟩
    obtain ⟨wd, ew, z, rfl, hz⟩ := at_menuV (Pr := fun x => ∃ z : Str, x = .str z ∧ (z = "slow" ∨ z = "slip" ∨ z = "late")) (xs := [.str "slow", .str "slip", .str "late"]) l1 u1 (fun x hx => word_menu hx)
    refine ⟨l, _, _, _, rfl, rfl, SqL.mk (c1 _ _ (ne_new BG nl) upd_same), ew, ?_⟩
    -- how many
    refine ⟨.ref p, rfl, (show 3 ≤ sizeLine by decide), fun l' nl' => ?_⟩
    refine ⟨.ref p, rfl, p, 3, _, rfl, B1.new nl', by decide, by decide, by omega, fun G2 r2 c2 B2 l2 u2 => ?_⟩
    obtain ⟨mx, em, hmx⟩ := at_menu (Pr := fun v => 4 ≤ v ∧ v ≤ 64) (xs := [4, 9, 64]) l2 u2 (fun x hx => by
      simp only [List.mem_cons, List.not_mem_nil, or_false] at hx
      omega)
    refine ⟨l', _, _, _, rfl, rfl, SqL.mk (c2 _ _ (ne_new B1 nl') upd_same), em, p, mx, _, rfl, B2, by omega, by omega, by omega, fun G3 r3 c3 B3 l3 u3 => ⟨_, _, rfl, rfl, ?_⟩⟩
    have cG3 : But p G G3 := ((((But.refl p G).new nl).trans c1).new nl').trans (c2.trans c3)
    refine ⟨.str z, rfl, .int (1 + r3), rfl, .str z, rfl, rfl, .inr ⟨_, rfl, .ref p, rfl, p, 2, _, rfl, B3, by decide, by decide, by omega, fun G4 r4 c4 B4 l4 u4 => ⟨_, _, rfl, rfl, .inl i01, _, _, rfl, rfl, v, rfl, (show 3 ≤ sizeLine by decide), fun tg ntg => ?_⟩⟩⟩
    obtain ⟨N, hN, N1, N2⟩ : ∃ N : Nat, 1 + r3 - (if decide (V.str z = V.str "late") = true then (1 : Int) else 0) * r4 = (N : Int) ∧ (z = "late" ∨ 1 ≤ N) ∧ N ≤ 64 := by
      by_cases e : V.str z = V.str "late"
      · rw [decide_eq_true e, if_pos rfl, Int.one_mul]
        exact ⟨(1 + r3 - r4).toNat, by omega, .inl (V.str.inj e), by omega⟩
      · rw [decide_eq_false e, if_neg Bool.false_ne_true, Int.zero_mul]
        exact ⟨(1 + r3).toNat, by omega, .inr (by omega), by omega⟩
    have cG4 : But p G (upd G4 tg (.tup [.str z, .int (1 + r3 - (if decide (V.str z = V.str "late") = true then (1 : Int) else 0) * r4), v])) := (cG3.trans c4).new ntg
    have htg : (upd G4 tg (.tup [.str z, .int (1 + r3 - (if decide (V.str z = V.str "late") = true then (1 : Int) else 0) * r4), v])) tg = some (.tup [.str z, .int (N : Nat), v]) := by
      rw [upd_same, hN]
    have B5 := B4.new (o := .tup [.str z, .int (1 + r3 - (if decide (V.str z = V.str "late") = true then (1 : Int) else 0) * r4), v]) ntg
    generalize upd G4 tg (.tup [.str z, .int (1 + r3 - (if decide (V.str z = V.str "late") = true then (1 : Int) else 0) * r4), v]) = G5 at cG4 htg B5 ⊢
    have hm5 : MkAt G5 m v := hm.but BG cG4
    obtain ⟨m', hm', ok', dp', in', rd'⟩ := around_ok htg hm5 ok hz N2 N1
    refine ⟨.ref tg, rfl, m', .ref tg, rfl, hm', ok', bs_of ok', by omega, fun G6 s6 => ?_⟩
    refine ⟨.int M, rfl, _, _, rfl, rfl, _, rfl, ite2 (fun e => ?_) (fun e => ?_)⟩
    · have rm' : ((m'.rnd : Nat) : Int) ≤ M := of_decide_eq_true e
      refine ⟨.ref tg, rfl, .ref tg, _, _, _, _, m', rfl, bG.trans (cG4.trans (same_but s6)), (B5.same s6).mono (by omega), hm'.same s6, ok', by omega, rm', by rw [in']; exact ic⟩
    · exact ⟨v, _, _, _, _, m, rfl, bG.trans (cG4.trans (same_but s6)), (B5.same s6).mono (by omega), hm5.same s6, ok, by omega, rm, ic⟩
/-! which things are formulas: their parts, how many and how deep -/
def sideN (z : Str) : Option Int := dl_SIDES.lookup z
def okArg : List PyData → Bool
  | [.int i] => decide (0 ≤ i ∧ i ≤ 5)
  | _ => false
def wordOf : PyData → Option Str
  | .str z => some z
  | _ => none
mutual
def well : PyData → Bool
  | .tuple xs => wellT xs
  | _ => false
def wellT : List PyData → Bool
  | [] => false
  | x :: xs => match wordOf x with
    | some z => if z = "in" then okArg xs else (decide (sideN z = some (xs.length : Int)) && wellA xs)
    | none => false
def wellA : List PyData → Bool
  | [] => true
  | x :: xs => well x && wellA xs
end
mutual
def siz : PyData → Nat
  | .tuple xs => sizT xs
  | _ => 1
def sizT : List PyData → Nat
  | [] => 1
  | x :: xs => match wordOf x with
    | some z => if z = "in" then 1 else 1 + sizA xs
    | none => 1
def sizA : List PyData → Nat
  | [] => 0
  | x :: xs => siz x + sizA xs
end
mutual
def dpt : PyData → Nat
  | .tuple xs => dptT xs
  | _ => 1
def dptT : List PyData → Nat
  | [] => 1
  | x :: xs => match wordOf x with
    | some z => if z = "in" then 1 else 1 + dptA xs
    | none => 1
def dptA : List PyData → Nat
  | [] => 0
  | x :: xs => max (dpt x) (dptA xs)
end
def partD : PyData → Bool
  | .tuple (.str z :: xs) => if z = "in" then okArg xs else decide (sideN z = some (xs.length : Int))
  | _ => false
def sdsD : PyData → List PyData
  | .tuple (.str z :: xs) => if z = "in" then [] else xs
  | _ => []
theorem siz_pos (d : PyData) : 1 ≤ siz d := by
  cases d with
  | tuple xs =>
    cases xs with
    | nil => exact Nat.le_refl _
    | cons x xs =>
      simp only [siz, sizT]
      split
      · split <;> omega
      · exact Nat.le_refl _
  | _ => exact Nat.le_refl _
theorem dpt_pos (d : PyData) : 1 ≤ dpt d := by
  cases d with
  | tuple xs =>
    cases xs with
    | nil => exact Nat.le_refl _
    | cons x xs =>
      simp only [dpt, dptT]
      split
      · split <;> omega
      · exact Nat.le_refl _
  | _ => exact Nat.le_refl _
theorem wellA_all : ∀ {xs : List PyData}, wellA xs = true ↔ ∀ x, x ∈ xs → well x = true
  | [] => ⟨fun _ x hx => (by cases hx), fun _ => rfl⟩
  | x :: xs => by
    simp only [wellA, Bool.and_eq_true, wellA_all (xs := xs)]
    exact ⟨fun h y hy => by
      rcases List.mem_cons.mp hy with rfl | hy
      · exact h.1
      · exact h.2 y hy, fun h => ⟨h x List.mem_cons_self, fun y hy => h y (List.mem_cons_of_mem _ hy)⟩⟩
theorem sizA_sum : ∀ {xs : List PyData}, sizA xs = (xs.map siz).sum
  | [] => rfl
  | x :: xs => by
    simp only [sizA, List.map_cons, List.sum_cons, sizA_sum (xs := xs)]
theorem dptA_le {n : Nat} : ∀ {xs : List PyData}, dptA xs ≤ n ↔ ∀ x, x ∈ xs → dpt x ≤ n
  | [] => ⟨fun _ x hx => (by cases hx), fun _ => Nat.zero_le _⟩
  | x :: xs => by
    have ih := dptA_le (n := n) (xs := xs)
    simp only [dptA]
    exact ⟨fun h y hy => by
      rcases List.mem_cons.mp hy with rfl | hy
      · omega
      · exact ih.mp (by omega) y hy, fun h => by
      have := h x List.mem_cons_self
      have := ih.mpr fun y hy => h y (List.mem_cons_of_mem _ hy)
      omega⟩
theorem part_form {d : PyData} (h : partD d = true) : ∃ z xs, d = .tuple (.str z :: xs) := by
  unfold partD at h
  split at h
  · exact ⟨_, _, rfl⟩
  · cases h
theorem well_eq (d : PyData) : well d = true ↔ partD d = true ∧ ∀ x, x ∈ sdsD d → well x = true := by
  cases d with
  | tuple xs =>
    cases xs with
    | nil => exact ⟨fun h => (by simp only [well, wellT] at h; exact nomatch h), fun h => nomatch h.1⟩
    | cons x xs =>
      cases x with
      | str z =>
        simp only [well, wellT, wordOf, partD, sdsD]
        by_cases e : z = "in"
        · simp only [if_pos e]
          exact ⟨fun h => ⟨h, fun x hx => (by cases hx)⟩, fun h => h.1⟩
        · simp only [if_neg e, Bool.and_eq_true, wellA_all]
      | _ => exact ⟨fun h => (by simp only [well, wellT, wordOf] at h; exact nomatch h), fun h => nomatch h.1⟩
  | _ => exact ⟨fun h => (by simp only [well] at h; exact nomatch h), fun h => nomatch h.1⟩
theorem siz_eq {d : PyData} (h : partD d = true) : siz d = 1 + ((sdsD d).map siz).sum := by
  obtain ⟨z, xs, rfl⟩ := part_form h
  simp only [siz, sizT, wordOf, sdsD]
  by_cases e : z = "in"
  · simp only [if_pos e]
    rfl
  · simp only [if_neg e, sizA_sum]
theorem dpt_le {d : PyData} {n : Nat} (h : partD d = true) : dpt d ≤ n + 1 ↔ ∀ x, x ∈ sdsD d → dpt x ≤ n := by
  obtain ⟨z, xs, rfl⟩ := part_form h
  simp only [dpt, dptT, wordOf, sdsD]
  by_cases e : z = "in"
  · simp only [if_pos e]
    exact ⟨fun _ x hx => (by cases hx), fun _ => by omega⟩
  · simp only [if_neg e]
    rw [← dptA_le]
    omega
theorem sides3 {d : PyData} (h : partD d = true) : (sdsD d).length ≤ 3 := by
  obtain ⟨z, xs, rfl⟩ := part_form h
  simp only [partD] at h
  simp only [sdsD]
  by_cases e : z = "in"
  · simp only [if_pos e]
    exact Nat.zero_le _
  · simp only [if_neg e, decide_eq_true_eq] at h ⊢
    unfold sideN dl_SIDES at h
    simp only [List.lookup] at h
    split at h
    · have := Option.some.inj h; omega
    · split at h
      · have := Option.some.inj h; omega
      · split at h
        · have := Option.some.inj h; omega
        · split at h
          · have := Option.some.inj h; omega
          · split at h
            · have := Option.some.inj h; omega
            · cases h
/-- what waits: things, and how deep they stand -/
def OkW (W : List (PyData × Nat)) (c : Nat) : Prop := (∀ e, e ∈ W → well e.1 = true ∧ e.2 + dpt e.1 ≤ 9) ∧ c + (W.map fun e => siz e.1).sum ≤ 24
theorem ok_step {W : List (PyData × Nat)} {d : PyData} {k c : Nat} (hp : partD d = true) (hk : k ≤ 8) : OkW (W ++ [(d, k)]) c ↔ OkW (W ++ (sdsD d).map fun s => (s, k + 1)) (c + 1) := by
  have e1 : ((W ++ [(d, k)]).map fun e => siz e.1).sum = (W.map fun e => siz e.1).sum + siz d := by
    rw [List.map_append, List.sum_append, List.map_cons, List.map_nil, List.sum_cons, List.sum_nil, Nat.add_zero]
  have e2 : ((W ++ (sdsD d).map fun s => (s, k + 1)).map fun e => siz e.1).sum = (W.map fun e => siz e.1).sum + ((sdsD d).map siz).sum := by
    rw [List.map_append, List.sum_append, List.map_map]
    rfl
  unfold OkW
  rw [e1, e2, siz_eq hp]
  refine ⟨fun ⟨a, b⟩ => ⟨fun e he => ?_, by omega⟩, fun ⟨a, b⟩ => ⟨fun e he => ?_, by omega⟩⟩
  · rcases List.mem_append.mp he with he | he
    · exact a e (List.mem_append_left _ he)
    · obtain ⟨s, hs, rfl⟩ := List.mem_map.mp he
      obtain ⟨w, l⟩ := a (d, k) (List.mem_append_right _ List.mem_cons_self)
      have l : k + dpt d ≤ 9 := l
      have := (dpt_le (n := 8 - k) hp).mp (by omega) s hs
      exact ⟨((well_eq d).mp w).2 s hs, by show k + 1 + dpt s ≤ 9; omega⟩
  · rcases List.mem_append.mp he with he | he
    · exact a e (List.mem_append_left _ he)
    · obtain rfl := List.mem_singleton.mp he
      have q : ∀ s, s ∈ sdsD d → well s = true ∧ k + 1 + dpt s ≤ 9 := fun s hs => a (s, k + 1) (List.mem_append_right _ (List.mem_map.mpr ⟨s, hs, rfl⟩))
      refine ⟨(well_eq d).mpr ⟨hp, fun s hs => (q s hs).1⟩, ?_⟩
      have := (dpt_le (n := 8 - k) hp).mpr fun s hs => by
        have := (q s hs).2
        omega
      show k + dpt d ≤ 9
      omega
theorem ok_no {W : List (PyData × Nat)} {d : PyData} {k c : Nat} (h : c + 1 > 24 ∨ k > 8 ∨ partD d = false) : ¬ OkW (W ++ [(d, k)]) c := fun ⟨a, b⟩ => by
  obtain ⟨w, l⟩ := a (d, k) (List.mem_append_right _ List.mem_cons_self)
  have l : k + dpt d ≤ 9 := l
  have := siz_pos d
  have := dpt_pos d
  rw [List.map_append, List.sum_append, List.map_cons, List.map_nil, List.sum_cons, List.sum_nil] at b
  rcases h with h | h | h
  · have b : c + ((W.map fun e => siz e.1).sum + (siz d + 0)) ≤ 24 := b
    omega
  · omega
  · have := ((well_eq d).mp w).1
    rw [h] at this
    cases this
def isF (d : PyData) : Bool := well d && (decide (siz d < 25) && decide (dpt d < 9))
theorem ok_isF {d : PyData} : OkW [(d, 1)] 0 ↔ isF d = true := by
  unfold OkW isF
  simp only [Bool.and_eq_true, decide_eq_true_eq, List.mem_singleton, List.map_cons, List.map_nil, List.sum_cons, List.sum_nil]
  exact ⟨fun ⟨a, b⟩ => by
    obtain ⟨w, l⟩ := a _ rfl
    have l : 1 + dpt d ≤ 9 := l
    exact ⟨w, by omega, by omega⟩, fun ⟨w, l, m⟩ => ⟨fun e he => by subst he; exact ⟨w, by show 1 + dpt d ≤ 9; omega⟩, by omega⟩⟩
/-! things that are small enough -/
/-! the program's dict of sides -/
theorem ent_key {e : DictEntry} {z : Str} {i : Int} (h : entI e = some (z, i)) : ∃ t u, e.key = .str z t ∧ e.val = .int i u := by
  unfold entI at h
  split at h
  · rename_i x t j u h1 h2
    cases h
    exact ⟨t, u, h1, h2⟩
  · cases h
theorem ents_find (z : Str) : ∀ (l : List DictEntry) (kvs : List (Str × Int)), l.map entI = kvs.map some →
    l.any (·.refKey) = false ∧ ((kvs.lookup z = none ∧ l.find? (·.key.isStr z) = none) ∨ ∃ i e t, kvs.lookup z = some i ∧ l.find? (·.key.isStr z) = some e ∧ e.val = .int i t)
  | [], [], _ => ⟨rfl, .inl ⟨rfl, rfl⟩⟩
  | [], _ :: _, h => by cases h
  | _ :: _, [], h => by cases h
  | e :: l, (k, i) :: kvs, h => by
    simp only [List.map_cons, List.cons.injEq] at h
    obtain ⟨t, u, h1, h2⟩ := ent_key h.1
    obtain ⟨r, ih⟩ := ents_find z l kvs h.2
    have rk : e.refKey = false := by
      unfold DictEntry.refKey
      rw [h1]
    refine ⟨by rw [List.any_cons, rk, r]; rfl, ?_⟩
    have ek : e.key.isStr z = (k == z) := by rw [h1]; rfl
    rw [List.find?_cons, ek, List.lookup_cons]
    by_cases c : k = z
    · subst c
      refine .inr ⟨i, e, u, ?_, ?_, h2⟩
      · simp
      · simp
    · have c1 : (k == z) = false := beq_false_of_ne c
      have c2 : (z == k) = false := beq_false_of_ne fun e => c e.symm
      rw [c1, c2]
      exact ih
theorem dic_ns {K : PySem.W.Frag} {a : Addr} {kvs : List (Str × Int)} (h : dicB K a kvs = true) (z : Str) : (kvs.lookup z = none ∧ PySem.W.nsIn K a z = some none) ∨ ∃ i t, kvs.lookup z = some i ∧ PySem.W.nsIn K a z = some (some (.int i t)) := by
  unfold dicB at h
  split at h
  · rename_i c d es n sl e
    obtain ⟨r, q⟩ := ents_find z _ _ (of_decide_eq_true h)
    unfold PySem.W.nsIn
    rw [e]
    dsimp only
    rcases q with ⟨h1, h2⟩ | ⟨i, e', t, h1, h2, h3⟩
    · rw [h2, r]
      exact .inl ⟨h1, rfl⟩
    · rw [h2]
      exact .inr ⟨i, t, h1, by rw [← h3]⟩
  · cases h
theorem op_inS {X : Cx} {K' : PySem.W.Frag} {w' : World} [D : DW K' w'] {C : Addr} (hK : X.K = K') (hw : X.w = w') (hC : C = He.ga K' "SIDES") : OpR X (compareOp .In) (fun x y H Q => ∃ z, x = .str z ∧ y = .ref C ∧ Q (.bl (sideN z).isSome) H) := by
  subst hK hw hC
  obtain ⟨es, n, kd⟩ := D.k_SIDES
  intro pins s σ H x y v u Q I rx ry h
  obtain ⟨z, rfl, rfl, q⟩ := h
  rcases dic_ns D.v_SIDES z with ⟨h1, h2⟩ | ⟨i, t, h1, h2⟩
  · refine op_in_kd kd pins s σ H _ _ v u Q I rx ry ⟨z, _, rfl, rfl, h2, ?_⟩
    have e : sideN z = none := h1
    rw [e] at q
    exact q
  · refine op_in_kd kd pins s σ H _ _ v u Q I rx ry ⟨z, _, rfl, rfl, h2, ?_⟩
    have e : sideN z = some i := h1
    rw [e] at q
    exact q
theorem ix_S {X : Cx} {K' : PySem.W.Frag} {w' : World} [D : DW K' w'] {C : Addr} (hK : X.K = K') (hw : X.w = w') (hC : C = He.ga K' "SIDES") : IxR X (fun x y H Q => ∃ z i, x = .ref C ∧ y = .str z ∧ sideN z = some i ∧ Q (.int i) H) := by
  subst hK hw hC
  obtain ⟨es, n, kd⟩ := D.k_SIDES
  intro value slice pins s σ H x y v u Q I rx ry h hs
  obtain ⟨z, i, rfl, rfl, e, q⟩ := h
  have ru := rx
  cases rx
  refine tail_any (kd_type kd I) PySem.slot_dict_getitem.lookup ?_ hs
  rcases dic_ns D.v_SIDES z with ⟨h1, h2⟩ | ⟨j, t, h1, h2⟩
  · have h1 : sideN z = none := h1
    rw [e] at h1
    cases h1
  · have h1 : sideN z = some j := h1
    rw [e] at h1
    cases h1
    exact op_item_kd kd pins s σ H (V.ref (He.ga X.K "SIDES")) (V.str z) _ u Q I ru ry ⟨z, _, .int i, rfl, rfl, h2, ⟨_, rfl⟩, q⟩
/-! a dict of the program's top, in general -/
theorem op_inK {X : Cx} {K' : PySem.W.Frag} {w' : World} {C : Addr} {x : Str} {kvs : List (Str × Int)} (hK : X.K = K') (hw : X.w = w') (hC : C = He.ga K' x) (kd : ∃ es n, KDict K' w' (He.ga K' x) es n) (v : dicB K' (He.ga K' x) kvs = true) : OpR X (compareOp .In) (fun x y H Q => ∃ z, x = .str z ∧ y = .ref C ∧ Q (.bl (kvs.lookup z).isSome) H) := by
  subst hK hw hC
  obtain ⟨es, n, kd⟩ := kd
  intro pins s σ H x y v u Q I rx ry h
  obtain ⟨z, rfl, rfl, q⟩ := h
  rcases dic_ns (by assumption) z with ⟨h1, h2⟩ | ⟨i, t, h1, h2⟩
  · refine op_in_kd kd pins s σ H _ _ v u Q I rx ry ⟨z, _, rfl, rfl, h2, ?_⟩
    rw [h1] at q
    exact q
  · refine op_in_kd kd pins s σ H _ _ v u Q I rx ry ⟨z, _, rfl, rfl, h2, ?_⟩
    rw [h1] at q
    exact q
theorem ix_K {X : Cx} {K' : PySem.W.Frag} {w' : World} {C : Addr} {x : Str} {kvs : List (Str × Int)} (hK : X.K = K') (hw : X.w = w') (hC : C = He.ga K' x) (kd : ∃ es n, KDict K' w' (He.ga K' x) es n) (v : dicB K' (He.ga K' x) kvs = true) : IxR X (fun x y H Q => ∃ z i, x = .ref C ∧ y = .str z ∧ kvs.lookup z = some i ∧ Q (.int i) H) := by
  subst hK hw hC
  obtain ⟨es, n, kd⟩ := kd
  intro value slice pins s σ H x' y v' u Q I rx ry h hs
  obtain ⟨z, i, rfl, rfl, e, q⟩ := h
  have ru := rx
  cases rx
  refine tail_any (kd_type kd I) PySem.slot_dict_getitem.lookup ?_ hs
  rcases dic_ns v z with ⟨h1, h2⟩ | ⟨j, t, h1, h2⟩
  · rw [e] at h1
    cases h1
  · rw [e] at h1
    cases h1
    exact op_item_kd kd pins s σ H (V.ref (He.ga X.K x)) (V.str z) _ u Q I ru ry ⟨z, _, .int i, rfl, rfl, h2, ⟨_, rfl⟩, q⟩
def dot (rs ss : List Int) : Int := (List.zipWith (fun x y => x * y) rs ss).sum
def allRows : Nat → List (List Int)
  | 0 => [[]]
  | k + 1 => (allRows k).map (· ++ [0]) ++ (allRows k).map (· ++ [1])
theorem all_sound : ∀ (k : Nat) (r : List Int), r ∈ allRows k → r.length = k ∧ Bits r
  | 0, r, h => by
    rw [show r = [] from List.mem_singleton.mp h]
    exact ⟨rfl, fun x hx => by cases hx⟩
  | k + 1, r, h => by
    have aux : ∀ (b : Int), (b = 0 ∨ b = 1) → r ∈ (allRows k).map (· ++ [b]) → r.length = k + 1 ∧ Bits r := fun b hb hm => by
      obtain ⟨q, hq, rfl⟩ := List.mem_map.mp hm
      obtain ⟨h1, h2⟩ := all_sound k q hq
      refine ⟨by rw [List.length_append, h1]; rfl, fun x hx => ?_⟩
      rcases List.mem_append.mp hx with hx | hx
      · exact h2 x hx
      · rw [List.mem_singleton.mp hx]
        exact hb
    rcases List.mem_append.mp h with h | h
    · exact aux 0 (.inl rfl) h
    · exact aux 1 (.inr rfl) h
theorem all_full : ∀ (k : Nat) (r : List Int), r.length = k → Bits r → r ∈ allRows k
  | 0, r, h, _ => by
    rw [List.eq_nil_of_length_eq_zero h]
    exact List.mem_singleton.mpr rfl
  | k + 1, r, h, hb => by
    have hne : r ≠ [] := fun z => by
      rw [z] at h
      cases h
    have e := List.dropLast_concat_getLast hne
    have m1 : r.dropLast ∈ allRows k := all_full k _ (by rw [List.length_dropLast, h]; rfl) fun x hx => hb x (List.dropLast_subset r hx)
    rcases hb _ (List.getLast_mem hne) with z | z
    · rw [z] at e
      exact List.mem_append.mpr (.inl (List.mem_map.mpr ⟨_, m1, e⟩))
    · rw [z] at e
      exact List.mem_append.mpr (.inr (List.mem_map.mpr ⟨_, m1, e⟩))
theorem all_len : ∀ k, (allRows k).length = 2 ^ k
  | 0 => rfl
  | k + 1 => by
    show ((allRows k).map (· ++ [0]) ++ (allRows k).map (· ++ [1])).length = _
    rw [List.length_append, List.length_map, List.length_map, all_len k, Nat.pow_succ]
    omega
theorem bits_sum : ∀ (r : List Int), Bits r → 0 ≤ r.sum ∧ r.sum ≤ r.length
  | [], _ => ⟨Int.le_refl 0, Int.le_refl 0⟩
  | x :: r, h => by
    have ih := bits_sum r fun y hy => h y (List.mem_cons_of_mem _ hy)
    have hx := h x List.mem_cons_self
    rw [List.sum_cons, List.length_cons]
    omega
theorem sum_rep (k : Nat) (x : Int) : (List.replicate k x).sum = k * x := by
  induction k with
  | zero => simp
  | succ k ih =>
    rw [List.replicate_succ, List.sum_cons, ih, Int.natCast_add, Int.add_mul]
    omega
theorem sum_split (r : List Int) (a : Nat) : r.sum = (r.take a).sum + (r.drop a).sum := by
  conv => lhs; rw [← List.take_append_drop a r, List.sum_append]
theorem dot_zero (k : Nat) : ∀ r : List Int, dot (List.replicate k 0) r = 0 := by
  unfold dot
  induction k with
  | zero => intro r; simp
  | succ k ih =>
    intro r
    cases r with
    | nil => simp
    | cons x r =>
      rw [List.replicate_succ, List.zipWith_cons_cons, List.sum_cons, ih]
      omega
theorem dot_one : ∀ (a k : Nat) (r : List Int), r.length = a + k → dot (List.replicate a 1 ++ List.replicate k 0) r = (r.take a).sum
  | 0, k, r, _ => by
    rw [List.replicate_zero, List.nil_append, dot_zero]
    rfl
  | a + 1, k, [], h => by
    simp at h
    omega
  | a + 1, k, x :: r, h => by
    have ih := dot_one a k r (by rw [List.length_cons] at h; omega)
    unfold dot at *
    rw [List.replicate_succ, List.cons_append, List.zipWith_cons_cons, List.sum_cons, ih, List.take_succ_cons, List.sum_cons]
    omega
def nearR (n b : Nat) : List Int := List.replicate b 1 ++ List.replicate (n - b) 0
def farR (n b : Nat) : List Int := List.replicate (n - b) 0 ++ List.replicate b 1
theorem near_bits (n b : Nat) : Bits (nearR n b) := fun x hx => by
  rcases List.mem_append.mp hx with h | h
  · exact .inr (List.eq_of_mem_replicate h)
  · exact .inl (List.eq_of_mem_replicate h)
theorem far_bits (n b : Nat) : Bits (farR n b) := fun x hx => by
  rcases List.mem_append.mp hx with h | h
  · exact .inl (List.eq_of_mem_replicate h)
  · exact .inr (List.eq_of_mem_replicate h)
theorem near_len {n b : Nat} (h : b ≤ n) : (nearR n b).length = n := by
  unfold nearR
  rw [List.length_append, List.length_replicate, List.length_replicate]
  omega
theorem far_len {n b : Nat} (h : b ≤ n) : (farR n b).length = n := by
  unfold farR
  rw [List.length_append, List.length_replicate, List.length_replicate]
  omega
theorem near_sum (n b : Nat) : (nearR n b).sum = b := by
  unfold nearR
  rw [List.sum_append, sum_rep, sum_rep]
  omega
theorem far_sum (n b : Nat) : (farR n b).sum = b := by
  unfold farR
  rw [List.sum_append, sum_rep, sum_rep]
  omega
theorem near_take (n a b : Nat) : ((nearR n b).take a).sum = (min a b : Nat) := by
  unfold nearR
  rw [List.take_append, List.sum_append, List.take_replicate, List.take_replicate, sum_rep, sum_rep]
  omega
theorem far_take {n a b : Nat} (hb : b ≤ n) (ha : a ≤ n) : ((farR n b).take a).sum = (a + b - n : Nat) := by
  unfold farR
  rw [List.take_append, List.sum_append, List.take_replicate, List.take_replicate, sum_rep, sum_rep, List.length_replicate]
  omega
/-- how far the first a bits of a row may go -/
theorem take_ends {n a b : Nat} {r : List Int} (hl : r.length = n) (hb : Bits r) (hs : r.sum = b) (ha : a ≤ n) : (a + b - n : Nat) ≤ (r.take a).sum ∧ (r.take a).sum ≤ (min a b : Nat) := by
  have e := sum_split r a
  have h1 := bits_sum (r.take a) fun x hx => hb x (List.mem_of_mem_take hx)
  have h2 := bits_sum (r.drop a) fun x hx => hb x (List.mem_of_mem_drop hx)
  rw [List.length_take] at h1
  rw [List.length_drop] at h2
  omega
/-! sums over the first places -/
def Sm (f : Nat → Int) : Nat → Int
  | 0 => 0
  | n + 1 => Sm f n + f n
theorem Sm_congr {f g : Nat → Int} : ∀ {n : Nat}, (∀ i, i < n → f i = g i) → Sm f n = Sm g n
  | 0, _ => rfl
  | n + 1, h => by
    show Sm f n + f n = Sm g n + g n
    rw [Sm_congr (n := n) fun i hi => h i (by omega), h n (by omega)]
theorem Sm_plus (f g : Nat → Int) : ∀ n, Sm (fun i => f i + g i) n = Sm f n + Sm g n
  | 0 => rfl
  | n + 1 => by
    show Sm _ n + (f n + g n) = (Sm f n + f n) + (Sm g n + g n)
    rw [Sm_plus f g n]
    omega
theorem Sm_mul (c : Int) (f : Nat → Int) : ∀ n, Sm (fun i => c * f i) n = c * Sm f n
  | 0 => by
    show (0 : Int) = c * 0
    rw [Int.mul_zero]
  | n + 1 => by
    show Sm _ n + c * f n = c * (Sm f n + f n)
    rw [Sm_mul c f n, Int.mul_add]
theorem Sm_const (c : Int) : ∀ n, Sm (fun _ => c) n = n * c
  | 0 => by
    show (0 : Int) = ((0 : Nat) : Int) * c
    omega
  | n + 1 => by
    show Sm _ n + c = ((n + 1 : Nat) : Int) * c
    rw [Sm_const c n, Int.natCast_add, Int.add_mul]
    omega
theorem Sm_comm (f : Nat → Nat → Int) (m : Nat) : ∀ n, Sm (fun j => Sm (fun i => f i j) m) n = Sm (fun i => Sm (f i) n) m
  | 0 => by
    show (0 : Int) = Sm (fun _ => (0 : Int)) m
    rw [Sm_const]
    omega
  | n + 1 => by
    show Sm _ n + Sm (fun i => f i n) m = Sm (fun i => Sm (f i) n + f i n) m
    rw [Sm_comm f m n, Sm_plus]
theorem Sm_split (f : Nat → Int) (m : Nat) : ∀ k, Sm f (m + k) = Sm f m + Sm (fun j => f (m + j)) k
  | 0 => by
    show Sm f m = Sm f m + 0
    omega
  | k + 1 => by
    show Sm f (m + k) + f (m + k) = Sm f m + (Sm _ k + f (m + k))
    rw [Sm_split f m k]
    omega
theorem Sm_head (f : Nat → Int) : ∀ n, Sm f (n + 1) = f 0 + Sm (fun j => f (j + 1)) n
  | 0 => by
    show (0 : Int) + f 0 = f 0 + 0
    omega
  | n + 1 => by
    show Sm f (n + 1) + f (n + 1) = f 0 + (Sm _ n + f (n + 1))
    rw [Sm_head f n]
    omega
theorem Sm_rev (f : Nat → Int) : ∀ m, Sm (fun k => f (m - 1 - k)) m = Sm f m
  | 0 => rfl
  | m + 1 => by
    rw [Sm_head]
    show f (m + 1 - 1 - 0) + _ = Sm f m + f m
    rw [show m + 1 - 1 - 0 = m by omega, ← Sm_rev f m]
    rw [Sm_congr (f := fun j => f (m + 1 - 1 - (j + 1))) (g := fun k => f (m - 1 - k)) fun i hi => by rw [show m + 1 - 1 - (i + 1) = m - 1 - i by omega]]
    omega
theorem Sm_turn (f : Nat → Int) {i n : Nat} (hi : i < n) : Sm (fun b => f ((i + n - b) % n)) n = Sm f n := by
  have e : n = (i + 1) + (n - i - 1) := by omega
  have h1 : Sm (fun b => f ((i + n - b) % n)) (i + 1) = Sm f (i + 1) := by
    rw [← Sm_rev f (i + 1)]
    refine Sm_congr fun b hb => ?_
    rw [show i + n - b = (i + 1 - 1 - b) + n by omega, Nat.add_mod_right, Nat.mod_eq_of_lt (by omega)]
  have h2 : Sm (fun j => f ((i + n - (i + 1 + j)) % n)) (n - i - 1) = Sm (fun j => f (i + 1 + j)) (n - i - 1) := by
    rw [← Sm_rev (fun j => f (i + 1 + j)) (n - i - 1)]
    refine Sm_congr fun b hb => ?_
    rw [Nat.mod_eq_of_lt (by omega), show i + n - (i + 1 + b) = i + 1 + (n - i - 1 - 1 - b) by omega]
  have s1 := Sm_split (fun b => f ((i + n - b) % n)) (i + 1) (n - i - 1)
  have s2 := Sm_split f (i + 1) (n - i - 1)
  rw [← e] at s1 s2
  rw [s1, s2, h1, h2]
theorem Sm_list : ∀ (xs : List Int), xs.sum = Sm (fun i => xs.getD i 0) xs.length
  | [] => rfl
  | x :: r => by
    rw [List.sum_cons, List.length_cons, Sm_head, Sm_list r]
    rfl
theorem Sm_map (v : Nat → Int) : ∀ n, ((List.range n).map v).sum = Sm v n
  | 0 => rfl
  | n + 1 => by
    rw [List.range_succ, List.map_append, List.sum_append, Sm_map v n]
    show _ + (v n + 0) = Sm v n + v n
    omega
theorem Sm_filter (p : Nat → Bool) (v : Nat → Int) : ∀ n, (((List.range n).filter p).map v).sum = Sm (fun i => if p i = true then v i else 0) n
  | 0 => rfl
  | n + 1 => by
    rw [List.range_succ, List.filter_append, List.map_append, List.sum_append, Sm_filter p v n]
    show _ + (([n].filter p).map v).sum = Sm _ n + (if p n = true then v n else 0)
    by_cases h : p n = true
    · rw [List.filter_cons_of_pos h, if_pos h]
      show _ + (v n + 0) = _
      omega
    · rw [List.filter_cons_of_neg h, if_neg h]
      rfl
theorem Sm_count (p : Nat → Bool) : ∀ n, (((List.range n).filter p).length : Int) = Sm (fun i => if p i = true then 1 else 0) n
  | 0 => rfl
  | n + 1 => by
    rw [List.range_succ, List.filter_append, List.length_append, Int.natCast_add, Sm_count p n]
    show _ + ((([n].filter p).length : Nat) : Int) = Sm _ n + (if p n = true then 1 else 0)
    by_cases h : p n = true
    · rw [List.filter_cons_of_pos h, if_pos h]
      rfl
    · rw [List.filter_cons_of_neg h, if_neg h]
      rfl
/-! rows that meet, one late -/
def mt (rs ss : List Int) (b : Nat) : Int := Sm (fun i => rs.getD i 0 * ss.getD ((i + rs.length - b) % rs.length) 0) rs.length
theorem dot_Sm : ∀ (rs ss : List Int), rs.length = ss.length → dot rs ss = Sm (fun i => rs.getD i 0 * ss.getD i 0) rs.length
  | [], [], _ => rfl
  | x :: r, y :: t, h => by
    have ih := dot_Sm r t (by simpa using h)
    unfold dot at *
    rw [List.zipWith_cons_cons, List.sum_cons, List.length_cons, Sm_head, ih]
    rfl
theorem dot_mt {rs ss : List Int} (h : rs.length = ss.length) : dot rs ss = mt rs ss 0 := by
  rw [dot_Sm rs ss h]
  unfold mt
  refine Sm_congr fun i hi => ?_
  rw [Nat.sub_zero, Nat.add_mod_right, Nat.mod_eq_of_lt hi]
/-- all together -/
theorem mt_all {rs ss : List Int} (h : rs.length = ss.length) : Sm (mt rs ss) rs.length = rs.sum * ss.sum := by
  unfold mt
  rw [Sm_comm]
  rw [Sm_congr (g := fun i => ss.sum * rs.getD i 0) fun i hi => by
    rw [Sm_mul (rs.getD i 0) (fun b => ss.getD ((i + rs.length - b) % rs.length) 0), Sm_turn (fun j => ss.getD j 0) hi, Sm_list ss, ← h, Int.mul_comm]]
  rw [Sm_mul, ← Sm_list, Int.mul_comm]
def LS (rs ss : List Int) : List Int := (List.range rs.length).map fun b => rs.length * mt rs ss b - rs.sum * ss.sum
theorem LS_len (rs ss : List Int) : (LS rs ss).length = rs.length := by
  unfold LS
  rw [List.length_map, List.length_range]
theorem LS_sum {rs ss : List Int} (h : rs.length = ss.length) : (LS rs ss).sum = 0 := by
  unfold LS
  rw [Sm_map]
  have e : Sm (fun b => (rs.length : Int) * mt rs ss b - rs.sum * ss.sum) rs.length = Sm (fun b => (rs.length : Int) * mt rs ss b + -(rs.sum * ss.sum)) rs.length := Sm_congr fun i _ => by omega
  rw [e, Sm_plus, Sm_mul, mt_all h, Sm_const, Int.mul_neg]
  omega
theorem LS_at {rs ss : List Int} {b : Nat} (hb : b < rs.length) : (LS rs ss)[b]? = some (rs.length * mt rs ss b - rs.sum * ss.sum) := by
  unfold LS
  rw [List.getElem?_map, List.getElem?_range hb]
  rfl
theorem bit_mul {x y : Int} (hx : x = 0 ∨ x = 1) : (if decide (x = 1) = true then y else 0) = x * y := by
  rcases hx with rfl | rfl
  · rw [if_neg (by decide), Int.zero_mul]
  · rw [if_pos (by decide), Int.one_mul]
theorem bits_at {rs : List Int} (h : Bits rs) (i : Nat) : rs.getD i 0 = 0 ∨ rs.getD i 0 = 1 := by
  rw [List.getD_eq_getElem?_getD]
  cases e : rs[i]? with
  | none => exact .inl rfl
  | some x => exact h x (List.mem_of_getElem? e)
def places (rs : List Int) (n : Nat) : List Nat := (List.range n).filter fun i => decide (rs.getD i 0 = 1)
theorem places_mt {rs ss : List Int} (h : Bits rs) (b : Nat) : ((places rs rs.length).map fun i => ss.getD ((i + rs.length - b) % rs.length) 0).sum = mt rs ss b := by
  unfold places mt
  rw [Sm_filter]
  exact Sm_congr fun i _ => bit_mul (bits_at h i)
theorem count_mt {rs ss : List Int} (h : Bits rs) (h2 : Bits ss) (b : Nat) : (((List.range rs.length).filter fun i => decide (rs.getD i 0 = 1) && decide (ss.getD ((i + rs.length - b) % rs.length) 0 = 1)).length : Int) = mt rs ss b := by
  rw [Sm_count]
  unfold mt
  refine Sm_congr fun i _ => ?_
  show _ = rs.getD i 0 * ss.getD ((i + rs.length - b) % rs.length) 0
  rcases bits_at h i with e | e <;> rcases bits_at h2 ((i + rs.length - b) % rs.length) with e2 | e2 <;> rw [e, e2] <;> decide
theorem getD_at {rs : List Int} {i : Nat} (h : i < rs.length) : rs[i]? = some (rs.getD i 0) := by
  rw [List.getD_eq_getElem?_getD, List.getElem?_eq_getElem h]
  rfl
/-! set(xs) of a list of numbers, with all that sorted() asks of it -/
abbrev noSet (w : World) : Obj := { cls := .type "set", dict := none, data := .set #[] 0 (.fresh 0 0 (!w.params.followText "set-order")) }
section
variable {P : Program} {w : World} {A : Around} {E : Value → Shared → Prop} {s : Shared}
theorem two_off {z l b : Nat} {h : Heap} {o : Obj} (hz : h.objs.size = z) (hb : b < z) : b ∉ [z, (h.push o).objs.size] := by
  rw [Heap.size_push, hz]
  intro hm
  rcases List.mem_cons.mp hm with e | hm
  · omega
  · have := List.mem_singleton.mp hm
    omega
set_option maxRecDepth 100000 in
set_option maxHeartbeats 3200000 in
theorem set_of_list {l : Addr} {xs : Array Value} (ns : List Int) {Q : Value → Shared → Prop} (hA : A.handled = none) (hl : s.heap.IsList l xs) (hi : IntsAre xs.toList ns) (hn : ns.length + 1 < scanBound)
    (fin : ∀ (h' : Heap) (tk c : Nat), SetR w h' s.heap.objs.size (fun j => decide (j ∈ ns)) c → c ≤ ns.length → (∀ b o, s.heap.get? b = some o → h'.get? b = some o) → Q (.ref s.heap.objs.size) { s with heap := h', toks := tk }) :
    wpAny (model P w) A (call (.type "set") [.ref l]) Q E s := by
  have size_eq : xs.size = ns.length := by
    have e := IntsAre.length hi
    rw [Array.length_toList] at e
    exact e
  obtain ⟨c₀, rest, mro₀⟩ := PySem.F.called_set.mro
  have made₀ := PySem.F.called_set.made
  have sub₀ := PySem.F.called_set.sub
  refine wpAny_call (codeAny_of_tree ?_)
  show wpAny _ _ (callAny (.type "set") _) _ _ _
  refine wpAny_pure ⟨Code.quiet_builtin _ (by decide +kernel), codeAny_builtin PySem.F.entry_type_call ?_⟩
  rw [Around.under_plain (weight_type_call_type "set" [.ref l] []) rfl]
  have nt₀ := PySem.F.called_set.notType
  have cc₀ := PySem.F.called_set.canCreate
  have tc₀ := PySem.F.typeCall_set_1 (.ref l)
  repeat (any_goals (first | assumption | wp_step))
  refine codeAny_mono (code_set_led1 (.ref l) (E := E) (Q₁ := fun obj t₁ => obj = .ref s.heap.objs.size ∧ t₁ = { s with heap := s.heap.push (noSet w) }) ⟨rfl, rfl⟩) fun r t₁ out => ?_
  cases r with
  | error e => exact out
  | ok fl =>
    cases fl with
    | ret obj =>
      obtain ⟨rfl, rfl⟩ := out
      have at₀ : (s.heap.push (noSet w)).get? s.heap.objs.size = some (noSet w) := Heap.get?_push_size _ rfl
      have ty₀ : Shared.TypeIs { s with heap := s.heap.push (noSet w) } (.ref s.heap.objs.size) "set" := ⟨_, at₀, rfl⟩
      have lk₀ := PySem.F.called_set.init.lookup
      have bd₀ := PySem.F.called_set.init.bind (.ref s.heap.objs.size)
      repeat (any_goals (first | assumption | wp_step))
      refine codeAny_mono (codeAny_call_builtin (R := wants (fun r t₂ => r = .none ∧ ∃ h' tk c, t₂ = { s with heap := h', toks := tk } ∧ SetR w h' s.heap.objs.size (fun j => decide (j ∈ ns)) c ∧ c ≤ ns.length ∧ (∀ b o, s.heap.get? b = some o → h'.get? b = some o)) E)
        PySem.F.called_set.init.plain PySem.F.entry_set_init (check_set_init_1 ty₀ ?_)) fun r₂ t₂ out₂ => ?_
      · obtain ⟨⟨kc, kd, kt, ks⟩, gl, cl, nl, dl⟩ := hl
        simp only at cl dl
        subst cl
        subst dl
        have lS : l < s.heap.objs.size := Heap.lt_size gl
        have gl' : (s.heap.push (noSet w)).get? l = some { cls := .type "list", dict := kd, data := .seq xs nl, slots := ks } := Heap.get?_push_of_some _ gl
        have no1 := PySem.F.sub_list_set
        have no2 := PySem.F.sub_list_frozenset
        have no3 : (Value.type "list" == Value.type "dict") = false := by decide
        have il : (s.heap.push (noSet w)).IsList l xs := ⟨_, gl', rfl, nl, rfl⟩
        unfold Builtin.«set.__init__» noKeywords Builtin.Frozenset.updateFrom
        generalize hPI : pyIter = PI
        wp_walk
        subst hPI
        refine wpAny_pyIter_list il (wpAny_bind (wpAny_runValue ?_))
        have hA3 : A.in1.in1.in1.handled = none := by simp [hA]
        have lI : l ≠ (s.heap.push (noSet w)).objs.size := by
          rw [Heap.size_push]
          exact Nat.ne_of_lt (Nat.lt_succ_of_lt lS)
        have offS : s.heap.objs.size ∉ [(s.heap.push (noSet w)).objs.size, l] := by
          rw [Heap.size_push]
          intro hm
          rcases List.mem_cons.mp hm with e | hm
          · exact absurd e (Nat.ne_of_lt (Nat.lt_succ_self _))
          · exact absurd (List.mem_singleton.mp hm) (Nat.ne_of_gt lS)
        have vals : ∀ (i : Nat) (v : Value), xs[i]? = some v → ∃ k t, ns[i]? = some k ∧ v = .int k t := fun i v hv => by
          have lt : i < ns.length := by
            rw [← size_eq]
            exact (Array.getElem?_eq_some_iff.mp hv).1
          obtain ⟨t, e⟩ := IntsAre.int_at hi i v (by rw [Array.getElem?_toList]; exact hv)
          exact ⟨ns.getD i 0, t, getD_at lt, e⟩
        refine set_update_ints ((Walks.list hA3 _ l lI xs).toS) s.heap.objs.size offS ns size_eq hn vals (xs.size - 0) 0 _ (by omega) (Nat.zero_le _) ⟨⟨_, Heap.get?_push_size _ rfl, rfl, rfl⟩, (il.push _)⟩
          ⟨0, Nat.le_refl 0, setR_new_at (Heap.get?_push_of_some _ at₀)⟩ fun t' c' moved small R' => ?_
        obtain ⟨h', g', d', tk', os'⟩ := t'
        have e1 : g' = s.gens := moved.gens
        have e2 : d' = s.drawn := moved.drawn
        have e3 : os' = s.os := moved.os
        subst e1
        subst e2
        subst e3
        show wpAny _ _ _ _ _ _
        refine wpAny_pure ?_
        show wpAny _ _ (ret Value.none) _ _ _
        rw [size_eq] at small
        exact wpAny_pure ⟨rfl, h', tk', c', rfl, R', small, fun b o e => moved.heap b o (two_off (l := l) rfl (Heap.lt_size e)) (Heap.get?_push_of_some _ (Heap.get?_push_of_some _ e))⟩
      · cases r₂ with
        | error e => exact out₂
        | ok fl₂ =>
          cases fl₂ with
          | ret r =>
            obtain ⟨rfl, h', tk, c', rfl, R', small, kept⟩ := out₂
            repeat (any_goals (first | assumption | wp_step))
            exact fin _ _ _ R' small kept
          | _ => exact out₂.elim
    | _ => exact out.elim
end
def rSetL (K : PySem.W.Frag) (w : World) : List V → Hp → VK → Prop := fun vs H Q => ∃ (l : Addr) (ns : List Int), vs = [V.ref l] ∧ SqL K H l (ns.map V.int) ∧ ns.length ≤ 1000 ∧ ∀ (p : Addr) (c : Nat), H p = none → c ≤ ns.length → Q (.ref p) (upd H p (SetO w p (fun j => decide (j ∈ ns)) c))
theorem cr_setL {X : Cx} (hc : X.calm = true) : CallR X (.type "set") (rSetL X.K X.w) := by
  intro pins s σ H xs us Q I r h
  obtain ⟨l, ns, rfl, hq, hl, q⟩ := h
  rw [Vals.ref1 r]
  obtain ⟨its, rv, pl, _⟩ := I.list hq
  refine set_of_list ns (I.ok.hd hc) pl.isList (by simpa using intsAre_of rv) (by unfold scanBound; omega) fun h' tk c R small kept => ?_
  exact ⟨.ref _, upd H s.heap.objs.size (SetO X.w s.heap.objs.size (fun j => decide (j ∈ ns)) c), I.laid (t' := tk) kept (Nat.le_refl _) (setO_new R), rfl, q _ c (I.hok.fresh (Nat.le_refl _)) small⟩
theorem setLW {X : Cx} {K : PySem.W.Frag} {w : World} (hK : X.K = K) (hw : X.w = w) (hc : X.calm = true) : CallR X (.type "set") (rSetL K w) := by
  subst hK hw
  exact cr_setL hc
theorem sortedW {X : Cx} {w : World} (hw : X.w = w) (hc : X.calm = true) : CallR X (.builtin "sorted") (rSortedSet w) := by
  subst hw
  exact cr_sortedSet hc
/-! formulas -/
inductive Fm where
  | inp (i : Nat)
  | less (f : Fm)
  | both (f g : Fm)
  | either (f g : Fm)
  | oneof (f g : Fm)
  | pick (f g h : Fm)
namespace Fm
def word : Fm → Str
  | inp _ => "in"
  | less _ => "less"
  | both _ _ => "both"
  | either _ _ => "either"
  | oneof _ _ => "oneof"
  | pick _ _ _ => "pick"
def sds : Fm → List Fm
  | inp _ => []
  | less f => [f]
  | both f g => [f, g]
  | either f g => [f, g]
  | oneof f g => [f, g]
  | pick f g h => [f, g, h]
def dep : Fm → Nat
  | inp _ => 1
  | less f => f.dep + 1
  | both f g => max f.dep g.dep + 1
  | either f g => max f.dep g.dep + 1
  | oneof f g => max f.dep g.dep + 1
  | pick f g h => max f.dep (max g.dep h.dep) + 1
def sz : Fm → Nat
  | inp _ => 1
  | less f => f.sz + 1
  | both f g => f.sz + g.sz + 1
  | either f g => f.sz + g.sz + 1
  | oneof f g => f.sz + g.sz + 1
  | pick f g h => f.sz + g.sz + h.sz + 1
def ins : Fm → List Nat
  | inp i => [i]
  | less f => f.ins
  | both f g => f.ins ++ g.ins
  | either f g => f.ins ++ g.ins
  | oneof f g => f.ins ++ g.ins
  | pick f g h => f.ins ++ (g.ins ++ h.ins)
theorem sz_pos (f : Fm) : 1 ≤ f.sz := by
  cases f <;> simp [sz]
theorem dep_pos (f : Fm) : 1 ≤ f.dep := by
  cases f <;> simp [dep]
theorem ins_len : ∀ f : Fm, 1 ≤ f.ins.length ∧ f.ins.length ≤ f.sz
  | inp i => ⟨Nat.le_refl 1, Nat.le_refl 1⟩
  | less f => by
    have := ins_len f
    simp only [ins, sz]
    omega
  | both f g => by
    have := ins_len f
    have := ins_len g
    simp only [ins, sz, List.length_append]
    omega
  | either f g => by
    have := ins_len f
    have := ins_len g
    simp only [ins, sz, List.length_append]
    omega
  | oneof f g => by
    have := ins_len f
    have := ins_len g
    simp only [ins, sz, List.length_append]
    omega
  | pick f g h => by
    have := ins_len f
    have := ins_len g
    have := ins_len h
    simp only [ins, sz, List.length_append]
    omega
theorem sds_dep {f g : Fm} (h : g ∈ f.sds) : g.dep < f.dep ∧ g.sz < f.sz := by
  cases f <;> simp only [sds, List.mem_cons, List.not_mem_nil, or_false] at h
  · subst h
    simp only [dep, sz]
    omega
  all_goals
    simp only [dep, sz]
    rcases h with rfl | h
    · omega
  · subst h; omega
  · subst h; omega
  · subst h; omega
  · rcases h with rfl | rfl <;> omega
theorem sds_ins {f : Fm} (h : f.word ≠ "in") : (f.sds.map ins).flatten = f.ins := by
  cases f with
  | inp i => exact absurd rfl h
  | _ => simp [sds, ins]
theorem sds_mem {f g : Fm} {i : Nat} (h : g ∈ f.sds) (hi : i ∈ g.ins) : i ∈ f.ins := by
  cases f <;> simp only [sds, List.mem_cons, List.not_mem_nil, or_false] at h
  · subst h
    exact hi
  all_goals
    simp only [ins, List.mem_append]
  · rcases h with rfl | rfl
    · exact .inl hi
    · exact .inr hi
  · rcases h with rfl | rfl
    · exact .inl hi
    · exact .inr hi
  · rcases h with rfl | rfl
    · exact .inl hi
    · exact .inr hi
  · rcases h with rfl | rfl | rfl
    · exact .inl hi
    · exact .inr (.inl hi)
    · exact .inr (.inr hi)
end Fm
def FmAt (H : Hp) : Fm → V → Prop
  | .inp i, v => ∃ a, v = .ref a ∧ H a = some (.tup [.str "in", .int (i : Nat)])
  | .less f, v => ∃ a u, v = .ref a ∧ H a = some (.tup [.str "less", u]) ∧ FmAt H f u
  | .both f g, v => ∃ a u x, v = .ref a ∧ H a = some (.tup [.str "both", u, x]) ∧ FmAt H f u ∧ FmAt H g x
  | .either f g, v => ∃ a u x, v = .ref a ∧ H a = some (.tup [.str "either", u, x]) ∧ FmAt H f u ∧ FmAt H g x
  | .oneof f g, v => ∃ a u x, v = .ref a ∧ H a = some (.tup [.str "oneof", u, x]) ∧ FmAt H f u ∧ FmAt H g x
  | .pick f g h, v => ∃ a u x y, v = .ref a ∧ H a = some (.tup [.str "pick", u, x, y]) ∧ FmAt H f u ∧ FmAt H g x ∧ FmAt H h y
theorem FmAt.keep {H H' : Hp} (k : ∀ a xs, H a = some (.tup xs) → H' a = some (.tup xs)) : ∀ {f : Fm} {v : V}, FmAt H f v → FmAt H' f v
  | .inp i, v, ⟨a, e, h⟩ => ⟨a, e, k _ _ h⟩
  | .less f, v, ⟨a, u, e, h, h1⟩ => ⟨a, u, e, k _ _ h, FmAt.keep k h1⟩
  | .both f g, v, ⟨a, u, x, e, h, h1, h2⟩ => ⟨a, u, x, e, k _ _ h, FmAt.keep k h1, FmAt.keep k h2⟩
  | .either f g, v, ⟨a, u, x, e, h, h1, h2⟩ => ⟨a, u, x, e, k _ _ h, FmAt.keep k h1, FmAt.keep k h2⟩
  | .oneof f g, v, ⟨a, u, x, e, h, h1, h2⟩ => ⟨a, u, x, e, k _ _ h, FmAt.keep k h1, FmAt.keep k h2⟩
  | .pick f g h, v, ⟨a, u, x, y, e, h0, h1, h2, h3⟩ => ⟨a, u, x, y, e, k _ _ h0, FmAt.keep k h1, FmAt.keep k h2, FmAt.keep k h3⟩
theorem FmAt.same {H H' : Hp} {f : Fm} {v : V} (h : FmAt H f v) (s : Same H H') : FmAt H' f v := h.keep fun _ _ e => s _ _ e
theorem FmAt.but {H H' : Hp} {f : Fm} {v : V} {p : Addr} {n : Nat} (h : FmAt H f v) (B : Bx H p n) (s : But p H H') : FmAt H' f v := h.keep fun _ _ e => s _ _ (B.ne_tup e) e
/-- the sides of a part, as they stand -/
def FsAt (H : Hp) (fs : List Fm) (us : List V) : Prop := us.length = fs.length ∧ ∀ (i : Nat) (f : Fm) (u : V), fs[i]? = some f → us[i]? = some u → FmAt H f u
theorem FsAt.keep {H H' : Hp} {fs : List Fm} {us : List V} (h : FsAt H fs us) (k : ∀ a xs, H a = some (.tup xs) → H' a = some (.tup xs)) : FsAt H' fs us := ⟨h.1, fun i f u e1 e2 => (h.2 i f u e1 e2).keep k⟩
theorem FsAt.same {H H' : Hp} {fs : List Fm} {us : List V} (h : FsAt H fs us) (s : Same H H') : FsAt H' fs us := h.keep fun _ _ e => s _ _ e
theorem FmAt.shape {H : Hp} {f : Fm} {v : V} (h : FmAt H f v) : (∃ i a, f = .inp i ∧ v = .ref a ∧ H a = some (.tup [.str "in", .int (i : Nat)])) ∨ ∃ a us, v = .ref a ∧ H a = some (.tup (.str f.word :: us)) ∧ f.word ≠ "in" ∧ FsAt H f.sds us := by
  cases f with
  | inp i =>
    obtain ⟨a, e, h⟩ := h
    exact .inl ⟨i, a, rfl, e, h⟩
  | less f =>
    obtain ⟨a, u, e, h, h1⟩ := h
    refine .inr ⟨a, [u], e, h, by simp only [Fm.word]; decide +kernel, rfl, fun i g x e1 e2 => ?_⟩
    match i with
    | 0 => cases e1; cases e2; exact h1
    | i + 1 => cases e1
  | both f g =>
    obtain ⟨a, u, x, e, h, h1, h2⟩ := h
    refine .inr ⟨a, [u, x], e, h, by simp only [Fm.word]; decide +kernel, rfl, fun i g x e1 e2 => ?_⟩
    match i with
    | 0 => cases e1; cases e2; exact h1
    | 1 => cases e1; cases e2; exact h2
    | i + 2 => cases e1
  | either f g =>
    obtain ⟨a, u, x, e, h, h1, h2⟩ := h
    refine .inr ⟨a, [u, x], e, h, by simp only [Fm.word]; decide +kernel, rfl, fun i g x e1 e2 => ?_⟩
    match i with
    | 0 => cases e1; cases e2; exact h1
    | 1 => cases e1; cases e2; exact h2
    | i + 2 => cases e1
  | oneof f g =>
    obtain ⟨a, u, x, e, h, h1, h2⟩ := h
    refine .inr ⟨a, [u, x], e, h, by simp only [Fm.word]; decide +kernel, rfl, fun i g x e1 e2 => ?_⟩
    match i with
    | 0 => cases e1; cases e2; exact h1
    | 1 => cases e1; cases e2; exact h2
    | i + 2 => cases e1
  | pick f g h' =>
    obtain ⟨a, u, x, y, e, h, h1, h2, h3⟩ := h
    refine .inr ⟨a, [u, x, y], e, h, by simp only [Fm.word]; decide +kernel, rfl, fun i g x e1 e2 => ?_⟩
    match i with
    | 0 => cases e1; cases e2; exact h1
    | 1 => cases e1; cases e2; exact h2
    | 2 => cases e1; cases e2; exact h3
    | i + 3 => cases e1
theorem FsAt.get {H : Hp} {fs : List Fm} {us : List V} (h : FsAt H fs us) {i : Nat} {u : V} (hu : us[i]? = some u) : ∃ f, fs[i]? = some f ∧ f ∈ fs ∧ FmAt H f u := by
  have hi := (List.getElem?_eq_some_iff.mp hu).1
  have hi2 : i < fs.length := by rw [← h.1]; exact hi
  exact ⟨fs[i], List.getElem?_eq_getElem hi2, List.getElem_mem hi2, h.2 i _ u (List.getElem?_eq_getElem hi2) hu⟩
theorem cut_tail (v : V) (us : List V) : cutV (v :: us) (some 1) none = us := by
  unfold cutV
  rw [show (1 : Int) = ((1 : Nat) : Int) from rfl, HT.sIx_nat, HT.sIx_none]
  have e : min 1 (v :: us).length = 1 := by simp
  rw [e, List.drop_succ_cons, List.drop_zero, List.length_cons]
  exact List.take_of_length_le (by omega)
/-! formulas drawn -/
structure Fm.Ok (f : Fm) (d m w : Nat) : Prop where
  dp : f.dep ≤ max d 1
  sz : f.sz ≤ m
  ins : ∀ i, i ∈ f.ins → i < w
def spr__law_formula (d : Nat) (_ : PySem.W.Frag) : Sp := fun vs H Q _ => ∃ (p : Addr) (n de ma wi : Nat), vs = [.ref p, .int (de : Nat), .int (ma : Nat), .int (wi : Nat)] ∧ Bx H p n ∧ n + 4 * ma < 100000000 ∧ de < d ∧ 1 ≤ ma ∧ ma ≤ 100 ∧ 1 ≤ wi ∧ wi ≤ 100 ∧
  ∀ H' v f, But p H H' → Bx H' p (n + 4 * ma) → FmAt H' f v → f.Ok de ma wi → Q v H'
theorem no__law_formula {K : PySem.W.Frag} {vs : List V} {H : Hp} {Q : VK} {E : XK} (h : spr__law_formula 0 K vs H Q E) : False := by
  obtain ⟨p, n, de, ma, wi, _, _, _, z, _⟩ := h
  exact Nat.not_lt_zero _ z
/-- three formulas drawn so far -/
def F3 (p D : Addr) (X : Hp) (n l de wi : Nat) (i : Nat) (G : Hp) : Prop := ∃ fs : List (V × Fm), fs.length = i ∧ G D = some (.lst (fs.map Prod.fst)) ∧ (∀ q, q ∈ fs → FmAt G q.2 q.1 ∧ q.2.Ok de l wi) ∧ But p X G ∧ Bx G p (n + 4 * l * i)
theorem okr__law_formula (T : Defs K mg) (TT : Tabs T base) : ∀ d : Nat, FnOk P w K mg base CX0 (2 + d) T.f__law_formula T.fd__law_formula ["_law_box_here", "_law_deep", "_law_many", "_law_wide"] (spr__law_formula d K)
  | 0 => ⟨fun _ _ _ _ z => (no__law_formula z).elim, fun _ _ _ _ _ _ _ _ _ _ _ _ _ z => (no__law_formula z).elim⟩
  | d + 1 => by
    have G__law_take : FnOk P w K mg base CX0 1 T.f__law_take T.fd__law_take ["_law_box_here", "_law_many"] (sp__law_take K) := ok__law_take T TT
    have G__law_formula : FnOk P w K mg base CX0 (2 + d) T.f__law_formula T.fd__law_formula ["_law_box_here", "_law_deep", "_law_many", "_law_wide"] (spr__law_formula d K) := okr__law_formula T TT d
    show FnOk P w K mg base CX0 ((2 + d) + 1) T.f__law_formula T.fd__law_formula ["_law_box_here", "_law_deep", "_law_many", "_law_wide"] (spr__law_formula (d + 1) K)
    refine T.F__law_formula.ok sc__law_formula (fun vs H Q E h => ?_) (fun cdv A outer s H vs Q E hr h => ?_)
    · obtain ⟨p, n, de, ma, wi, rfl, hB, hn, hd, m1, m2, w1, w2, q⟩ := h
      rfl
    · obtain ⟨p, n, de, ma, wi, rfl, hB, hn, hd, m1, m2, w1, w2, q⟩ := h
      refine ⟨_, PSs.nox (pss_cons (ps_set (i := 4) sc__law_formula.nd rfl (.inl rfl) (pe_call G__law_take (hr.mono (by omega)) (by rfl) T.g__law_take T.F__law_take.kp T.b__law_take .nil pass0 (pa_cons (pv 0) (pa_cons pe_int pa_nil))))
    (pss_cons (ps_if (PW.pt (pw_or (pt_cmpR op_lt (pv 1) pe_int (nomark _)) (pw_or (pt_cmpR op_lt (pv 2) pe_int (nomark _)) (pw_or1 (pt_cmpR op_eq (pv 4) pe_int (nomark _)))))) (pss_one (ps_ret (pe_tup (pa_cons pe_str (pa_cons (pe_call G__law_take (hr.mono (by omega)) (by rfl) T.g__law_take T.F__law_take.kp T.b__law_take .nil pass0 (pa_cons (pv 0) (pa_cons (pv 3) pa_nil))) pa_nil))))) pss_nil)
    (pss_cons (ps_if (PW.pt (pw_or (pt_cmpR op_eq (pv 4) pe_int (nomark _)) (pw_or1 (pt_cmpR op_lt (pv 2) pe_int (nomark _))))) (pss_one (ps_ret (pe_tup (pa_cons pe_str (pa_cons (pe_call G__law_formula (hr.mono (by omega)) (by rfl) T.g__law_formula T.F__law_formula.kp T.b__law_formula .nil pass0 (pa_cons (pv 0) (pa_cons (pe_op op_sub (pv 1) pe_int) (pa_cons (pe_op op_sub (pv 2) pe_int) (pa_cons (pv 3) pa_nil))))) pa_nil))))) pss_nil)
    (pss_cons (ps_if (PW.pt (pw_and (pt_cmpR op_eq (pv 4) pe_int (nomark _)) (pw_and1 (pt_cmpR op_gt (pv 2) pe_int (nomark _))))) (pss_cons (ps_set (i := 5) sc__law_formula.nd rfl (.inr rfl) (pe_op op_fdiv (pe_op op_sub (pv 2) pe_int) pe_int))
    (pss_one (ps_ret (pe_op op_catA (pe_tup (pa_cons pe_str pa_nil)) (pe_callTy call_tuple_of (by rfl) T.m_tuple bt_tuple (pa_cons (pe_lc (own := [("_law_turn", 7)]) (g := gName 7) (tt := tYes) rfl sc__law_formula.nd (pi_range1 (by rfl) T.m_range (pa_cons pe_int pa_nil)) (blkOk_by (N := N__law_formula) (sc := defScope s__law_formula) (by decide +kernel)) (fun _ _ _ _ _ => (pg_name (i := 7) sc__law_formula.nd rfl (.inl rfl))) (fun _ _ _ _ _ => pts_nil) (fun _ _ _ _ _ => (pe_call G__law_formula (hr.mono (by omega)) (by rfl) T.g__law_formula T.F__law_formula.kp T.b__law_formula .nil pass0 (pa_cons (pv 0) (pa_cons (pe_op op_sub (pv 1) pe_int) (pa_cons (pv 5) (pa_cons (pv 3) pa_nil))))))) pa_nil)))))) pss_nil)
    (pss_cons (ps_asg (pe_tup (pa_cons (pe_ix ix_list (pe_lst (pa_cons pe_str (pa_cons pe_str (pa_cons pe_str pa_nil)))) (pe_call G__law_take (hr.mono (by omega)) (by rfl) T.g__law_take T.F__law_take.kp T.b__law_take .nil pass0 (pa_cons (pv 0) (pa_cons pe_int pa_nil))) (fun _ _ => rfl)) (pa_cons (pe_op op_add pe_int (pe_call G__law_take (hr.mono (by omega)) (by rfl) T.g__law_take T.F__law_take.kp T.b__law_take .nil pass0 (pa_cons (pv 0) (pa_cons (pe_op op_sub (pv 2) pe_int) pa_nil)))) pa_nil))) (pg_tup rfl (pgs_cons (pg_name (i := 6) sc__law_formula.nd rfl (.inl rfl)) (pgs_cons (pg_name (i := 5) sc__law_formula.nd rfl (.inr rfl)) pgs_nil))))
    (pss_one (ps_ret (pe_tup (pa_cons (pv 6) (pa_cons (pe_call G__law_formula (hr.mono (by omega)) (by rfl) T.g__law_formula T.F__law_formula.kp T.b__law_formula .nil pass0 (pa_cons (pv 0) (pa_cons (pe_op op_sub (pv 1) pe_int) (pa_cons (pv 5) (pa_cons (pv 3) pa_nil))))) (pa_cons (pe_call G__law_formula (hr.mono (by omega)) (by rfl) T.g__law_formula T.F__law_formula.kp T.b__law_formula .nil pass0 (pa_cons (pv 0) (pa_cons (pe_op op_sub (pv 1) pe_int) (pa_cons (pe_op op_sub (pe_op op_sub (pv 2) pe_int) (pv 5)) (pa_cons (pv 3) pa_nil))))) pa_nil))))))))))), ?_⟩
      have hsl : sizeLine = 16777216 := by decide
      refine ⟨.ref p, rfl, p, 7, n, rfl, hB, by decide, by decide, by omega, fun H1 way c1 B1 l1 u1 => ?_⟩
      have fin : ∀ H' v f, But p H1 H' → Bx H' p (n + 4 * ma) → FmAt H' f v → f.Ok de ma wi → Q v H' := fun H' v f b B hf ok => q H' v f (c1.trans b) B hf ok
      refine ⟨_, rfl, _, _, rfl, rfl, _, rfl, ite2 (fun _ => ?_) (fun e1 => ?_)⟩
      · refine iteT ?_
        refine ⟨.ref p, rfl, _, rfl, p, (wi : Int), _, rfl, B1, by omega, by omega, by omega, fun H2 r c2 B2 l2 u2 => ⟨(show 2 ≤ sizeLine by decide), fun t nt => ?_⟩⟩
        obtain ⟨r, rfl⟩ := nat_of l2
        exact fin _ _ (.inp r) (c2.new nt) ((B2.new nt).mono (by omega)) ⟨t, rfl, upd_same⟩ ⟨by simp only [Fm.dep]; omega, by simp only [Fm.sz]; omega, fun i hi => by
          rw [List.mem_singleton.mp hi]
          omega⟩
      have de2 : 2 ≤ de := by
        have : ¬ (de : Int) < 2 := fun z => e1 (decide_eq_true z)
        omega
      refine ⟨_, rfl, _, _, rfl, rfl, _, rfl, ite2 (fun _ => ?_) (fun e2 => ?_)⟩
      · refine iteT ?_
        refine ⟨.ref p, rfl, _, rfl, p, (wi : Int), _, rfl, B1, by omega, by omega, by omega, fun H2 r c2 B2 l2 u2 => ⟨(show 2 ≤ sizeLine by decide), fun t nt => ?_⟩⟩
        obtain ⟨r, rfl⟩ := nat_of l2
        exact fin _ _ (.inp r) (c2.new nt) ((B2.new nt).mono (by omega)) ⟨t, rfl, upd_same⟩ ⟨by simp only [Fm.dep]; omega, by simp only [Fm.sz]; omega, fun i hi => by
          rw [List.mem_singleton.mp hi]
          omega⟩
      have ma2 : 2 ≤ ma := by
        have : ¬ (ma : Int) < 2 := fun z => e2 (decide_eq_true z)
        omega
      refine ⟨_, rfl, rfl, _, rfl, ite2 (fun _ => ?_) (fun _ => ?_)⟩
      · refine ⟨.ref p, rfl, _, rfl, p, (wi : Int), _, rfl, B1, by omega, by omega, by omega, fun H2 r c2 B2 l2 u2 => ⟨(show 2 ≤ sizeLine by decide), fun t nt => ?_⟩⟩
        obtain ⟨r, rfl⟩ := nat_of l2
        exact fin _ _ (.inp r) (c2.new nt) ((B2.new nt).mono (by omega)) ⟨t, rfl, upd_same⟩ ⟨by simp only [Fm.dep]; omega, by simp only [Fm.sz]; omega, fun i hi => by
          rw [List.mem_singleton.mp hi]
          omega⟩
      have ed : (de : Int) - 1 = ((de - 1 : Nat) : Int) := by omega
      have em : (ma : Int) - 1 = ((ma - 1 : Nat) : Int) := by omega
      clear e1 e2
      refine ⟨_, rfl, rfl, _, rfl, ite2 (fun _ => iteT ?_) (fun _ => ⟨_, rfl, _, _, rfl, rfl, _, rfl, ite2 (fun _ => ?_) (fun e3 => ?_)⟩)⟩
      · refine ⟨.ref p, rfl, _, rfl, _, _, rfl, rfl, _, rfl, _, _, rfl, rfl, _, rfl, p, _, de - 1, ma - 1, wi, by rw [← ed, ← em]; rfl, B1, by omega, by omega, by omega, by omega, w1, w2, fun H2 v f c2 B2 hf ok => ⟨(show 2 ≤ sizeLine by decide), fun t nt => ?_⟩⟩
        have o1 := ok.dp
        have o2 := ok.sz
        exact fin _ _ (.less f) (c2.new nt) ((B2.new nt).mono (by omega)) ⟨t, v, rfl, upd_same, hf.same (same_upd nt)⟩ ⟨by simp only [Fm.dep]; omega, by simp only [Fm.sz]; omega, ok.ins⟩
      · refine ⟨.ref p, rfl, _, rfl, _, _, rfl, rfl, _, rfl, _, _, rfl, rfl, _, rfl, p, _, de - 1, ma - 1, wi, by rw [← ed, ← em]; rfl, B1, by omega, by omega, by omega, by omega, w1, w2, fun H2 v f c2 B2 hf ok => ⟨(show 2 ≤ sizeLine by decide), fun t nt => ?_⟩⟩
        have o1 := ok.dp
        have o2 := ok.sz
        exact fin _ _ (.less f) (c2.new nt) ((B2.new nt).mono (by omega)) ⟨t, v, rfl, upd_same, hf.same (same_upd nt)⟩ ⟨by simp only [Fm.dep]; omega, by simp only [Fm.sz]; omega, ok.ins⟩
      have ma3 : 3 ≤ ma := by
        have : ¬ (ma : Int) < 3 := fun z => e3 (decide_eq_true z)
        omega
      clear e3
      refine nx_via (fun σ F => (∃ y5 y6 y7, σ = [some (.ref p), some (.int (de : Nat)), some (.int (ma : Nat)), some (.int (wi : Nat)), some (.int way), y5, y6, y7]) ∧ F = H1) (fun N key => ?_) ?_
      · refine ⟨_, rfl, rfl, _, rfl, ite2 (fun _ => ?_) (fun _ => iteF (key _ _ ⟨⟨_, _, _, rfl⟩, rfl⟩))⟩
        refine ⟨_, rfl, _, _, rfl, rfl, _, rfl, ite2 (fun e4 => ?_) (fun _ => key _ _ ⟨⟨_, _, _, rfl⟩, rfl⟩)⟩
        have ma4 : 4 ≤ ma := by
          have : (3 : Int) < (ma : Int) := of_decide_eq_true e4
          omega
        obtain ⟨l, hl⟩ : ∃ l : Nat, ((ma : Int) - 1) / 3 = (l : Int) := ⟨(ma - 1) / 3, by omega⟩
        have l1 : 1 ≤ l := by omega
        have l3 : 3 * l + 1 ≤ ma := by omega
        refine ⟨_, rfl, _, _, rfl, rfl, _, _, rfl, rfl, ⟨by decide, by decide⟩, ?_⟩
        try dsimp only
        rw [hl]
        refine ⟨(show 1 ≤ sizeLine by decide), fun t0 nt0 => ?_⟩
        have u0 := same_upd nt0 (o := .tup [.str "pick"])
        refine ⟨3, rfl, by decide, by decide, fun D nD => ?_⟩
        have nDp : D ≠ p := ne_new (B1.new (o := .tup [.str "pick"]) nt0) nD
        have ht0 := upd_same (H := H1) (a := t0) (o := .tup [.str "pick"])
        generalize upd H1 t0 (.tup [.str "pick"]) = X at u0 nD ht0 ⊢
        have BX := B1.same u0
        refine lc_range (F3 p D X (n + 1) l (de - 1) wi) ⟨[], rfl, upd_same, fun _ z => (by cases z), (But.refl p X).new nD, BX.new nD⟩ (fun j G hj h => ?_) (fun G h => ?_)
        · obtain ⟨fs, lf, hD, hfs, cG, BG⟩ := h
          have hj3 : j < 3 := by
            have : (3 : Int).toNat = 3 := rfl
            omega
          have ll : 4 * l * j ≤ 4 * l * 2 := Nat.mul_le_mul_left _ (by omega)
          refine ⟨rfl, yes_ite ?_⟩
          refine ⟨.ref p, rfl, _, rfl, _, _, rfl, rfl, _, rfl, _, rfl, p, _, de - 1, l, wi, by rw [← ed]; rfl, BG, by omega, by omega, l1, by omega, w1, w2, fun G2 v f c2 B2 hf ok => ?_⟩
          refine ⟨_, c2 _ _ nDp hD, by rw [List.length_map]; omega, fs ++ [(v, f)], by rw [List.length_append, lf]; rfl, by rw [upd_same, List.map_append]; rfl, fun q' hq => ?_, but_newer (cG.trans c2) nD, ?_⟩
          · have keep : ∀ t xs, G2 t = some (.tup xs) → (upd G2 D (.lst (fs.map Prod.fst ++ [v]))) t = some (.tup xs) := fun t xs e => by
              rw [upd_ne (ne_of e (c2 _ _ nDp hD) (fun z => by cases z))]
              exact e
            rcases List.mem_append.mp hq with hq | hq
            · exact ⟨((hfs q' hq).1.but BG c2).keep keep, (hfs q' hq).2⟩
            · rw [List.mem_singleton.mp hq]
              exact ⟨hf.keep keep, ok⟩
          · have e : n + 1 + 4 * l * j + 4 * l = n + 1 + 4 * l * (j + 1) := by rw [Nat.mul_add, Nat.mul_one]; omega
            rw [← e]
            exact B2.other nDp
        obtain ⟨fs, lf, hD, hfs, cG, BG⟩ := h
        have lf : fs.length = 3 := lf
        have BG : Bx G p (n + 1 + 4 * l * 3) := BG
        obtain ⟨q1, q2, q3, rfl⟩ : ∃ q1 q2 q3, fs = [q1, q2, q3] := by
          match fs, lf with
          | [a, b, c], _ => exact ⟨a, b, c, rfl⟩
        obtain ⟨f1, o1⟩ := hfs q1 (by simp)
        obtain ⟨f2, o2⟩ := hfs q2 (by simp)
        obtain ⟨f3, o3⟩ := hfs q3 (by simp)
        refine ⟨D, _, rfl, .inl ⟨SqL.mk hD, fun t1 nt1 => ?_⟩⟩
        have u1 := same_upd nt1 (o := .tup ([q1, q2, q3].map Prod.fst))
        refine ⟨t0, t1, _, _, rfl, rfl, SqT.mk (u1 _ _ (cG _ _ (BX.ne_tup ht0) ht0)), SqT.mk upd_same, (show 4 ≤ sizeLine by decide), fun z => (by cases z), fun _ z => (by cases z), fun _ _ t2 nt2 => ?_⟩
        have u2 := u1.trans (same_upd nt2 (o := .tup [.str "pick", q1.1, q2.1, q3.1]))
        have cA : But p H1 (upd (upd G t1 (.tup ([q1, q2, q3].map Prod.fst))) t2 (.tup ([V.str "pick"] ++ [q1, q2, q3].map Prod.fst))) := (same_but u0).trans (cG.trans (same_but u2))
        have d1 := o1.dp
        have d2 := o2.dp
        have d3 := o3.dp
        have z1 := o1.sz
        have z2 := o2.sz
        have z3 := o3.sz
        refine fin _ _ (.pick q1.2 q2.2 q3.2) cA ((BG.same u2).mono (by omega)) ⟨t2, q1.1, q2.1, q3.1, rfl, upd_same, f1.same u2, f2.same u2, f3.same u2⟩ ⟨by simp only [Fm.dep]; omega, by simp only [Fm.sz]; omega, fun i hi => ?_⟩
        simp only [Fm.ins, List.mem_append] at hi
        rcases hi with hi | hi | hi
        · exact o1.ins i hi
        · exact o2.ins i hi
        · exact o3.ins i hi
      rintro σ F ⟨⟨y5, y6, y7, rfl⟩, rfl⟩
      refine ⟨(show 3 ≤ sizeLine by decide), fun L nL => ?_⟩
      have uL := same_upd nL (o := .lst [.str "both", .str "either", .str "oneof"])
      have hL := upd_same (H := F) (a := L) (o := .lst [.str "both", .str "either", .str "oneof"])
      generalize upd F L (.lst [.str "both", .str "either", .str "oneof"]) = X at uL hL ⊢
      have BX := B1.same uL
      have nLp : L ≠ p := fun e => by
        obtain ⟨_, _, _, z, _⟩ := BX
        rw [← e, hL] at z
        cases z
      refine ⟨.ref p, rfl, p, 3, _, rfl, BX, by decide, by decide, by omega, fun G1 r1 d1 B2 l2 u2 => ?_⟩
      obtain ⟨wd, ewd, hwd⟩ : ∃ wd : Str, atI [V.str "both", .str "either", .str "oneof"] r1 = some (.str wd) ∧ (wd = "both" ∨ wd = "either" ∨ wd = "oneof") := by
        obtain ⟨r1, rfl⟩ := nat_of l2
        match r1, u2 with
        | 0, _ => exact ⟨"both", atI_nat (j := 0) rfl, .inl rfl⟩
        | 1, _ => exact ⟨"either", atI_nat (j := 1) rfl, .inr (.inl rfl)⟩
        | 2, _ => exact ⟨"oneof", atI_nat (j := 2) rfl, .inr (.inr rfl)⟩
        | r + 3, h => exact absurd h (by omega)
      refine ⟨L, _, _, _, rfl, rfl, SqL.mk (d1 _ _ nLp hL), ewd, ?_⟩
      have em2 : (ma : Int) - 2 = ((ma - 2 : Nat) : Int) := by omega
      refine ⟨.ref p, rfl, _, rfl, _, _, rfl, rfl, p, (ma : Int) - 2, _, rfl, B2, by omega, by omega, by omega, fun G2 r2 d2 B3 l3 u3 => ⟨_, _, rfl, rfl, ?_⟩⟩
      obtain ⟨l, hl⟩ := nat_of (show 0 ≤ 1 + r2 by omega)
      try dsimp only
      rw [hl]
      refine ⟨(show 2 ≤ sizeLine by decide), fun tp ntp => ⟨tp, _, rfl, SqT.mk upd_same, rfl, _, _, rfl, _, _, rfl, rfl, ?_⟩⟩
      have uT := same_upd ntp (o := .tup [.str wd, .int (l : Nat)])
      have BT := B3.same uT
      have cT : But p F (upd G2 tp (.tup [.str wd, .int (l : Nat)])) := (same_but uL).trans (d1.trans (d2.trans (same_but uT)))
      generalize upd G2 tp (.tup [.str wd, .int (l : Nat)]) = Y at BT cT ⊢
      have el : (ma : Int) - 1 - (l : Int) = ((ma - 1 - l : Nat) : Int) := by omega
      refine ⟨_, rfl, .ref p, rfl, _, rfl, _, _, rfl, rfl, _, rfl, _, rfl, p, _, de - 1, l, wi, by rw [← ed]; rfl, BT, by omega, by omega, by omega, by omega, w1, w2, fun Y1 v1 f1 y1 C1 h1 o1 => ?_⟩
      refine ⟨.ref p, rfl, _, rfl, _, _, rfl, rfl, _, rfl, _, _, rfl, rfl, _, rfl, _, _, rfl, rfl, _, rfl, p, _, de - 1, ma - 1 - l, wi, by rw [← ed, ← el]; rfl, C1, by omega, by omega, by omega, by omega, w1, w2, fun Y2 v2 f2 y2 C2 h2 o2 => ⟨(show 3 ≤ sizeLine by decide), fun t nt => ?_⟩⟩
      have cZ : But p F (upd Y2 t (.tup [.str wd, v1, v2])) := (cT.trans (y1.trans y2)).new nt
      have sT := same_upd nt (o := .tup [.str wd, v1, v2])
      have BZ : Bx (upd Y2 t (.tup [.str wd, v1, v2])) p (n + 4 * ma) := (C2.new nt).mono (by omega)
      have a1 := (h1.but C1 y2).same sT
      have a2 := h2.same sT
      have p1 := o1.dp
      have p2 := o2.dp
      have z1 := o1.sz
      have z2 := o2.sz
      have oi : ∀ i, i ∈ f1.ins ++ f2.ins → i < wi := fun i hi => by
        rcases List.mem_append.mp hi with hi | hi
        · exact o1.ins i hi
        · exact o2.ins i hi
      rcases hwd with rfl | rfl | rfl
      · exact fin _ _ (.both f1 f2) cZ BZ ⟨t, v1, v2, rfl, upd_same, a1, a2⟩ ⟨by simp only [Fm.dep]; omega, by simp only [Fm.sz]; omega, oi⟩
      · exact fin _ _ (.either f1 f2) cZ BZ ⟨t, v1, v2, rfl, upd_same, a1, a2⟩ ⟨by simp only [Fm.dep]; omega, by simp only [Fm.sz]; omega, oi⟩
      · exact fin _ _ (.oneof f1 f2) cZ BZ ⟨t, v1, v2, rfl, upd_same, a1, a2⟩ ⟨by simp only [Fm.dep]; omega, by simp only [Fm.sz]; omega, oi⟩
def sp__law_formula (K : PySem.W.Frag) : Sp := spr__law_formula 9 K
theorem ok__law_formula (T : Defs K mg) (TT : Tabs T base) : FnOk P w K mg base CX0 11 T.f__law_formula T.fd__law_formula ["_law_box_here", "_law_deep", "_law_many", "_law_wide"] (sp__law_formula K) := okr__law_formula T TT 9
def sp__law_any (_ : PySem.W.Frag) : Sp := fun vs H Q _ => ∃ (p : Addr) (n : Nat), vs = [.ref p] ∧ Bx H p n ∧ n < 1000000 ∧
  ∀ H' v f, But p H H' → Bx H' p (n + 200) → FmAt H' f v → f.dep ≤ 8 → f.sz ≤ 24 → (∀ i, i ∈ f.ins → i < 6) → Q v H'
theorem bl01 {c : Bool} : 0 ≤ (if c = true then (1 : Int) else 0) ∧ (if c = true then (1 : Int) else 0) < ((2 : Nat) : Int) := by
  cases c <;> decide
theorem ok__law_any (T : Defs K mg) (TT : Tabs T base) : FnOk P w K mg base CX0 12 T.f__law_any T.fd__law_any ["_law_box_here"] (sp__law_any K) := by
  have G__law_formula : FnOk P w K mg base CX0 11 T.f__law_formula T.fd__law_formula ["_law_box_here", "_law_deep", "_law_many", "_law_wide"] (sp__law_formula K) := ok__law_formula T TT
  have G__law_take : FnOk P w K mg base CX0 1 T.f__law_take T.fd__law_take ["_law_box_here", "_law_many"] (sp__law_take K) := ok__law_take T TT
  refine T.F__law_any.ok sc__law_any (fun vs H Q E h => ?_) (fun cdv A outer s H vs Q E hr h => ?_)
  · obtain ⟨p, n, rfl, hB, hn, q⟩ := h
    rfl
  · obtain ⟨p, n, rfl, hB, hn, q⟩ := h
    refine ⟨_, PSs.nox (pss_cons (ps_par (i := 1) (j := 2) (by rfl) sc__law_any.nd rfl rfl (by decide) rfl rfl (pa_cons (pe_cmpR op_eq (pe_call G__law_take (hr.mono (by decide)) (by rfl) T.g__law_take T.F__law_take.kp T.b__law_take .nil pass0 (pa_cons (pv 0) (pa_cons pe_int pa_nil))) pe_int (nomark _)) (pa_cons (pe_op op_add pe_int (pe_call G__law_take (hr.mono (by decide)) (by rfl) T.g__law_take T.F__law_take.kp T.b__law_take .nil pass0 (pa_cons (pv 0) (pa_cons pe_int pa_nil)))) pa_nil)) (by rfl))
    (pss_one (ps_ret (pe_call G__law_formula (hr.mono (by decide)) (by rfl) T.g__law_formula T.F__law_formula.kp T.b__law_formula .nil pass0 (pa_cons (pv 0) (pa_cons (pe_ix ix_list (pe_lst (pa_cons pe_int (pa_cons pe_int pa_nil))) (pe_callTy call_int1 (by rfl) T.m_int bt_int (pa_cons (pv 1) pa_nil)) (fun _ _ => rfl)) (pa_cons (pe_ix ix_list (pe_lst (pa_cons (pe_op op_add pe_int (pe_call G__law_take (hr.mono (by decide)) (by rfl) T.g__law_take T.F__law_take.kp T.b__law_take .nil pass0 (pa_cons (pv 0) (pa_cons pe_int pa_nil)))) (pa_cons pe_int pa_nil))) (pe_callTy call_int1 (by rfl) T.m_int bt_int (pa_cons (pv 1) pa_nil)) (fun _ _ => rfl)) (pa_cons (pv 2) pa_nil)))))))), ?_⟩
    have hsl : sizeLine = 16777216 := by decide
    refine ⟨.ref p, rfl, p, 4, n, rfl, hB, by decide, by decide, by omega, fun H1 r1 c1 B1 l1 u1 => ⟨rfl, ?_⟩⟩
    obtain ⟨gr, egr⟩ : ∃ gr, decide (V.int r1 = V.int 0) = gr := ⟨_, rfl⟩
    rw [egr]
    refine ⟨.ref p, rfl, p, 6, _, rfl, B1, by decide, by decide, by omega, fun H2 r2 c2 B2 l2 u2 => ⟨_, _, rfl, rfl, ?_⟩⟩
    obtain ⟨wi, hwi⟩ := nat_of (show 0 ≤ 1 + r2 by omega)
    try dsimp only
    rw [hwi]
    refine ⟨_, _, rfl, ?_⟩
    refine ⟨.ref p, rfl, (show 2 ≤ sizeLine by decide), fun la na => ?_⟩
    have s3 := same_upd na (o := .lst [.int 5, .int 8])
    obtain ⟨de, ev1, hde⟩ := at_menu (Pr := fun v => v = 5 ∨ v = 8) (xs := [5, 8]) (r := if gr = true then (1 : Int) else 0) bl01.1 bl01.2 (fun x hx => by
      simp only [List.mem_cons, List.not_mem_nil, or_false] at hx
      exact hx)
    refine ⟨.bl gr, rfl, .inr ⟨_, rfl, la, _, _, _, rfl, rfl, SqL.mk upd_same, ev1, ?_⟩⟩
    have B3 := B2.same s3
    have c3 := (c1.trans c2).trans (same_but s3)
    generalize upd H2 la (.lst [.int 5, .int 8]) = H3 at B3 c3 ⊢
    refine ⟨.ref p, rfl, p, 9, _, rfl, B3, by decide, by decide, by omega, fun H4 r4 c4 B4 l4 u4 => ⟨_, _, rfl, rfl, (show 2 ≤ sizeLine by decide), fun lb nb => ?_⟩⟩
    obtain ⟨ma, ev2, hma⟩ := at_menu (Pr := fun v => 1 ≤ v ∧ v ≤ 24) (xs := [1 + r4, 24]) (r := if gr = true then (1 : Int) else 0) bl01.1 bl01.2 (fun x hx => by
      simp only [List.mem_cons, List.not_mem_nil, or_false] at hx
      omega)
    have s5 := same_upd nb (o := .lst [.int (1 + r4), .int 24])
    refine ⟨.bl gr, rfl, .inr ⟨_, rfl, lb, _, _, _, rfl, rfl, SqL.mk upd_same, ev2, ?_⟩⟩
    have B5 := B4.same s5
    obtain ⟨de, rfl⟩ := nat_of (show 0 ≤ de by omega)
    obtain ⟨ma, rfl⟩ := nat_of (show 0 ≤ ma by omega)
    refine ⟨_, rfl, p, _, de, ma, wi, rfl, B5, by omega, by omega, by omega, by omega, by omega, by omega, fun H6 v f c6 B6 hf ok => ?_⟩
    have o1 := ok.dp
    have o2 := ok.sz
    exact q H6 v f ((c3.trans c4).trans ((same_but s5).trans c6)) (B6.mono (by omega)) hf (by omega) (by omega) fun i hi => by
      have := ok.ins i hi
      omega
theorem wd_in {w : Str} (h : w ≠ "in") : decide (V.str w = V.str "in") = false := decide_eq_false fun e => h (V.str.inj e)
theorem not_whole {v : V} {us : List V} : ¬ (HT.sIx (v :: us).length 0 (some 1) = 0 ∧ HT.sIx (v :: us).length (v :: us).length none = (v :: us).length) := by
  rintro ⟨e, _⟩
  rw [show (1 : Int) = ((1 : Nat) : Int) from rfl, HT.sIx_nat] at e
  simp at e
def spr__law_inputs (d : Nat) (_ : PySem.W.Frag) : Sp := fun vs H Q _ => ∃ f v, vs = [v] ∧ FmAt H f v ∧ f.dep ≤ d ∧ f.sz ≤ 100 ∧
  ∀ H' p, Same H H' → H p = none → H' p = some (.lst ((f.ins.map fun (i : Nat) => (i : Int)).map V.int)) → Q (.ref p) H'
theorem no__law_inputs {K : PySem.W.Frag} {vs : List V} {H : Hp} {Q : VK} {E : XK} (h : spr__law_inputs 0 K vs H Q E) : False := by
  obtain ⟨f, v, _, _, z, _⟩ := h
  have := f.dep_pos
  omega
def insN (fs : List Fm) : List Int := ((fs.map Fm.ins).flatten).map fun (i : Nat) => (i : Int)
theorem insN_snoc (fs : List Fm) (f : Fm) : insN (fs ++ [f]) = insN fs ++ f.ins.map fun (i : Nat) => (i : Int) := by
  unfold insN
  rw [List.map_append, List.flatten_append, List.map_append]
  simp
theorem insN_le {f : Fm} (i : Nat) : (insN (f.sds.take i)).length ≤ f.sz := by
  unfold insN
  rw [List.length_map]
  have a : ((f.sds.take i).map Fm.ins).flatten.length ≤ (f.sds.map Fm.ins).flatten.length := by
    conv => rhs; rw [← List.take_append_drop i f.sds, List.map_append, List.flatten_append, List.length_append]
    exact Nat.le_add_right _ _
  have b := f.ins_len
  by_cases h : f.word = "in"
  · cases f with
    | inp j =>
      rw [show (Fm.inp j).sds.take i = [] by simp [Fm.sds]]
      exact Nat.zero_le _
    | _ => exact absurd h (by simp only [Fm.word]; decide +kernel)
  · rw [Fm.sds_ins h] at a
    omega
def sp_is_part (K : PySem.W.Frag) : Sp := fun vs H Q _ => ∃ (p : Addr → Prop) (v : V) (d : PyData), vs = [v] ∧ Tg p H v d ∧ Q (.bl (partD d)) H
theorem okArg_len {xs : List PyData} (h : ¬ xs.length = 1) : okArg xs = false := by
  unfold okArg
  split
  · exact absurd rfl h
  · rfl
theorem ok_is_part (T : Defs K mg) (TT : Tabs T base) : FnOk P w K mg base CX0 3 T.f_is_part T.fd_is_part ["thing"] (sp_is_part K) := by
  have G_is_within : FnOk P w K mg base CX0 2 T.f_is_within T.fd_is_within ["thing", "least", "greatest"] (sp_is_within K) := ok_is_within T TT
  refine T.F_is_part.ok sc_is_part (fun vs H Q E h => ?_) (fun cdv A outer s H vs Q E hr h => ?_)
  · obtain ⟨p, v, d, rfl, hv, q⟩ := h
    rfl
  · obtain ⟨p, v, d, rfl, hv, q⟩ := h
    refine ⟨_, PSs.nox (pss_cons (ps_if (PW.pt (pw_or (pt_not (pt_val (pe_callB call_isi (by rfl) T.m_isinstance bt_isinstance (pa_cons (pv 0) (pa_cons (pe_bltn (v := .ty "tuple") (by rfl) T.m_tuple bt_tuple rfl) pa_nil))))) (pw_or (pt_not (pt_truth (pv 0) (by intro _; rfl))) (pw_or1 (pt_not (pt_val (pe_callB call_isi (by rfl) T.m_isinstance bt_isinstance (pa_cons (pe_ix ix_tup (pv 0) pe_int (fun _ _ => rfl)) (pa_cons (pe_bltn (v := .ty "str") (by rfl) T.m_str bt_str rfl) pa_nil))))))))) (pss_one (ps_ret pe_bl)) pss_nil)
    (pss_cons (ps_if (pt_cmpR op_eq (pe_ix ix_tup (pv 0) pe_int (fun _ _ => rfl)) pe_str (nomark _)) (pss_one (ps_ret (pe_and (pe_cmpR op_eq (pe_callB call_len_seq (by rfl) T.m_len bt_len (pa_cons (pv 0) pa_nil)) pe_int (nomark _)) (pe_one (pe_call G_is_within (hr.mono (by decide)) (by rfl) T.g_is_within T.F_is_within.kp T.b_is_within .nil pass0 (pa_cons (pe_ix ix_tup (pv 0) pe_int (fun _ _ => rfl)) (pa_cons pe_int (pa_cons (pe_globI (by rfl) T.i_GREATEST_INPUT) pa_nil)))))))) pss_nil)
    (pss_one (ps_ret (pe_and (pe_cmpR (op_inS (K' := K) (w' := w) rfl rfl T.e_SIDES) (pe_ix ix_tup (pv 0) pe_int (fun _ _ => rfl)) ((pe_glob (v := .ref T.C_SIDES) (by rfl) T.g_SIDES rfl)) rfl) (pe_one (pe_cmpR op_eq (pe_callB call_len_seq (by rfl) T.m_len bt_len (pa_cons (pv 0) pa_nil)) (pe_op op_add pe_int (pe_ix (ix_S (K' := K) (w' := w) rfl rfl T.e_SIDES) ((pe_glob (v := .ref T.C_SIDES) (by rfl) T.g_SIDES rfl)) (pe_ix ix_tup (pv 0) pe_int (fun _ _ => rfl)) (fun _ _ => rfl))) (nomark _)))))))), ?_⟩
    obtain ⟨t, ty, -, -, kt, -, -⟩ := hv.ty (K := K)
    refine ⟨v, rfl, _, _, _, _, _, rfl, .ty "tuple", ty, kt, _, rfl, ?_⟩
    cases hv with
    | tup ne ha ts =>
      rename_i a xs ds
      refine iteF ⟨.ref a, rfl, !xs.isEmpty, .inr (.inl ⟨xs, SqT.mk ha, rfl⟩), ?_⟩
      cases ts with
      | nil => exact iteT q
      | cons h1 ts =>
        rename_i x xs d ds
        refine iteF ⟨.ref a, rfl, a, _, 0, _, rfl, rfl, SqT.mk ha, atI_nat (j := 0) rfl, ?_⟩
        obtain ⟨t1, ty1, -, -, -, ks, -⟩ := h1.ty (K := K)
        refine ⟨_, _, _, _, _, rfl, .ty "str", ty1, ks, _, rfl, ?_⟩
        cases h1 with
        | str z =>
          refine iteF ⟨.ref a, rfl, a, _, 0, _, rfl, rfl, SqT.mk ha, atI_nat (j := 0) rfl, rfl, _, rfl, ?_⟩
          by_cases e : z = "in"
          · subst e
            rw [decide_eq_true rfl]
            refine iteT ⟨.ref a, rfl, a, _, rfl, .inr (SqT.mk ha), rfl, _, rfl, ?_⟩
            have e2 : partD (.tuple (.str "in" :: ds)) = okArg ds := by simp only [partD, if_true]
            rw [e2] at q
            have ln := ts.len
            by_cases l : ds.length = 1
            · rw [decide_eq_true (show V.int ((V.str "in" :: xs).length : Nat) = V.int 2 by rw [List.length_cons, ln, l]; rfl)]
              match ds, l, xs, ts with
              | [d1], _, [x1], .cons h2 .nil =>
                refine iteT ⟨.ref a, rfl, a, _, 1, _, rfl, rfl, SqT.mk ha, atI_nat (j := 1) rfl, p, x1, d1, 0, 5, rfl, h2, ?_⟩
                have e3 : withinD d1 0 5 = okArg [d1] := by cases d1 <;> rfl
                rw [e3]
                exact q
            · rw [decide_eq_false (show ¬ V.int ((V.str "in" :: xs).length : Nat) = V.int 2 from fun y => by
                have := V.int.inj y
                rw [List.length_cons, ln] at this
                omega)]
              refine iteF ?_
              rw [okArg_len l] at q
              exact q
          · rw [decide_eq_false (show ¬ V.str z = V.str "in" from fun y => e (V.str.inj y))]
            refine iteF ⟨.ref a, rfl, a, _, 0, _, rfl, rfl, SqT.mk ha, atI_nat (j := 0) rfl, z, rfl, rfl, _, rfl, ?_⟩
            have e2 : partD (.tuple (.str z :: ds)) = decide (sideN z = some (ds.length : Int)) := by simp only [partD, if_neg e]
            rw [e2] at q
            cases e3 : sideN z with
            | none =>
              rw [e3] at q
              exact iteF q
            | some n =>
              rw [e3] at q
              refine iteT ⟨.ref a, rfl, a, _, rfl, .inr (SqT.mk ha), .ref a, rfl, a, _, 0, _, rfl, rfl, SqT.mk ha, atI_nat (j := 0) rfl, z, n, rfl, rfl, e3, _, _, rfl, rfl, rfl, ?_⟩
              have e4 : decide (V.int ((V.str z :: xs).length : Nat) = V.int (1 + n)) = decide (some n = some (ds.length : Int)) := decide_eq_decide.mpr ⟨fun y => by
                have := V.int.inj y
                rw [List.length_cons, ts.len] at this
                exact congrArg some (by omega), fun y => by
                have := Option.some.inj y
                rw [List.length_cons, ts.len]
                exact congrArg V.int (by omega)⟩
              show Q (.bl (decide (V.int ((V.str z :: xs).length : Nat) = V.int (1 + n)))) H
              rw [e4]
              exact q
        | _ => exact iteT q
    | _ => exact iteT q
def sp_sides_of (K : PySem.W.Frag) : Sp := fun vs H Q _ => ∃ (p : Addr → Prop) (v : V) (d : PyData), vs = [v] ∧ Tg p H v d ∧ partD d = true ∧ ∀ H' t us, Same H H' → H' t = some (.tup us) → TgA p H' us (sdsD d) → Q (.ref t) H'
theorem ok_sides_of (T : Defs K mg) (TT : Tabs T base) : FnOk P w K mg base CX0 1 T.f_sides_of T.fd_sides_of ["part"] (sp_sides_of K) := by
  refine T.F_sides_of.ok sc_sides_of (fun vs H Q E h => ?_) (fun cdv A outer s H vs Q E hr h => ?_)
  · obtain ⟨p, v, d, rfl, hv, hp, q⟩ := h
    rfl
  · obtain ⟨p, v, d, rfl, hv, hp, q⟩ := h
    refine ⟨_, PSs.nox (pss_cons (ps_if (pt_cmpR op_eq (pe_ix ix_tup (pv 0) pe_int (fun _ _ => rfl)) pe_str (nomark _)) (pss_one (ps_ret (pe_tup pa_nil))) pss_nil)
    (pss_one (ps_ret (pe_slice sl_tup (pv 0) (po_some pe_int) po_none)))), ?_⟩
    obtain ⟨z, ds, rfl⟩ := part_form hp
    cases hv with
    | tup ne ha ts =>
      rename_i a xs
      cases ts with
      | cons h1 ts =>
        rename_i x xs
        cases h1
        refine ⟨.ref a, rfl, a, _, 0, _, rfl, rfl, SqT.mk ha, atI_nat (j := 0) rfl, rfl, _, rfl, ?_⟩
        by_cases e : z = "in"
        · subst e
          rw [decide_eq_true rfl]
          exact iteT ⟨Nat.zero_le _, fun t nt => q _ t [] (same_upd nt) upd_same .nil⟩
        · rw [decide_eq_false (show ¬ V.str z = V.str "in" from fun y => e (V.str.inj y))]
          refine iteF ⟨.ref a, rfl, 1, rfl, a, _, rfl, SqT.mk ha, not_whole, fun t nt => ?_⟩
          rw [cut_tail]
          have e2 : sdsD (.tuple (.str z :: ds)) = ds := by simp only [sdsD, if_neg e]
          rw [e2] at q
          exact q _ t xs (same_upd nt) upd_same (ts.same (same_upd nt))
/-- the things that wait -/
def Wt (l : Addr) (G : Hp) (us : List V) (W : List (PyData × Nat)) : Prop := us.length = W.length ∧ ∀ (i : Nat) (u : V) (e : PyData × Nat), us[i]? = some u → W[i]? = some e → ∃ t v, u = .ref t ∧ t ≠ l ∧ G t = some (.tup [v, .int (e.2 : Nat)]) ∧ Tg (· = l) G v e.1
theorem Wt.but {l : Addr} {G G' : Hp} {us : List V} {W : List (PyData × Nat)} (h : Wt l G us W) (s : But l G G') : Wt l G' us W := ⟨h.1, fun i u e h1 h2 => by
  obtain ⟨t, v, a, b, c, d⟩ := h.2 i u e h1 h2
  exact ⟨t, v, a, b, s _ _ b c, d.but s⟩⟩
theorem Wt.app {l : Addr} {G : Hp} {us vs : List V} {W V' : List (PyData × Nat)} (h : Wt l G us W) (g : Wt l G vs V') : Wt l G (us ++ vs) (W ++ V') := ⟨by rw [List.length_append, List.length_append, h.1, g.1], fun i u e h1 h2 => by
  by_cases z : i < us.length
  · rw [List.getElem?_append_left z] at h1
    rw [List.getElem?_append_left (by rw [← h.1]; exact z)] at h2
    exact h.2 i u e h1 h2
  · rw [List.getElem?_append_right (by omega)] at h1
    rw [List.getElem?_append_right (by rw [← h.1]; omega), ← h.1] at h2
    exact g.2 _ u e h1 h2⟩
theorem Wt.init {l : Addr} {G : Hp} {us : List V} {u : V} {W : List (PyData × Nat)} {e : PyData × Nat} (h : Wt l G (us ++ [u]) (W ++ [e])) : Wt l G us W ∧ us.length = W.length ∧ ∃ t v, u = .ref t ∧ t ≠ l ∧ G t = some (.tup [v, .int (e.2 : Nat)]) ∧ Tg (· = l) G v e.1 := by
  have ln : us.length = W.length := by
    have := h.1
    rw [List.length_append, List.length_append, List.length_singleton, List.length_singleton] at this
    omega
  refine ⟨⟨ln, fun i x y h1 h2 => ?_⟩, ln, h.2 us.length u e (by simp) (by rw [ln]; simp)⟩
  have i1 := (List.getElem?_eq_some_iff.mp h1).1
  exact h.2 i x y (by rw [List.getElem?_append_left i1]; exact h1) (by rw [List.getElem?_append_left (by omega)]; exact h2)
theorem snoc_of {α : Type} {xs : List α} (h : xs ≠ []) : ∃ ys y, xs = ys ++ [y] := ⟨xs.dropLast, xs.getLast h, (List.dropLast_concat_getLast h).symm⟩
theorem sz25 {c : Nat} : (25 - (((c + 1 : Nat) : Int)).toNat) < 25 - ((c : Int)).toNat ∨ 25 ≤ c := by omega
def sp_is_formula (K : PySem.W.Frag) : Sp := fun vs H Q _ => ∃ (p : Addr → Prop) (v : V) (d : PyData), vs = [v] ∧ Tg p H v d ∧ ∀ H', Same H H' → Q (.bl (isF d)) H'
theorem ok_is_formula (T : Defs K mg) (TT : Tabs T base) : FnOk P w K mg base CX0 4 T.f_is_formula T.fd_is_formula ["thing"] (sp_is_formula K) := by
  have G_is_part : FnOk P w K mg base CX0 3 T.f_is_part T.fd_is_part ["thing"] (sp_is_part K) := ok_is_part T TT
  have G_sides_of : FnOk P w K mg base CX0 1 T.f_sides_of T.fd_sides_of ["part"] (sp_sides_of K) := ok_sides_of T TT
  refine T.F_is_formula.ok sc_is_formula (fun vs H Q E h => ?_) (fun cdv A outer s H vs Q E hr h => ?_)
  · obtain ⟨p, v, d, rfl, hv, q⟩ := h
    rfl
  · obtain ⟨p, v, d, rfl, hv, q⟩ := h
    refine ⟨_, PSs.nox (pss_cons (ps_set (i := 1) sc_is_formula.nd rfl (.inl rfl) (pe_lst (pa_cons (pe_tup (pa_cons (pv 0) (pa_cons pe_int pa_nil))) pa_nil)))
    (pss_cons (ps_set (i := 2) sc_is_formula.nd rfl (.inl rfl) pe_int)
    (pss_cons (ps_while PassesOwn.never (pt_truth (pv 1) (by intro _; rfl)) (pss_cons (ps_asg (pe_bm0 PySem.F.plainAttrs_list PySem.F.slot_list_pop PySem.F.type_list_pop mt_pop (pv 1)) (pg_tup rfl (pgs_cons (pg_name (i := 3) sc_is_formula.nd rfl (.inl rfl)) (pgs_cons (pg_name (i := 4) sc_is_formula.nd rfl (.inr rfl)) pgs_nil))))
    (pss_cons (ps_aug (i := 2) sc_is_formula.nd rfl (.inl rfl) pe_int ip_add)
    (pss_cons (ps_if (PW.pt (pw_or (pt_cmpR op_gt (pv 2) (pe_globI (by rfl) T.i_MOST_PARTS) (nomark _)) (pw_or (pt_cmpR op_gt (pv 4) (pe_globI (by rfl) T.i_DEEPEST) (nomark _)) (pw_or1 (pt_not (pt_val (pe_call G_is_part (hr.mono (by decide)) (by rfl) T.g_is_part T.F_is_part.kp T.b_is_part .nil pass0 (pa_cons (pv 3) pa_nil)))))))) (pss_one (ps_ret pe_bl)) pss_nil)
    (pss_one (ps_expr (pe_bm PySem.F.plainAttrs_list PySem.F.slot_list_extend PySem.F.type_list_extend mt_extend (pv 1) (pa_cons (pe_lc (own := [("side", 5)]) (g := gName 5) (tt := tYes) rfl sc_is_formula.nd (pi_tup (pe_call G_sides_of (hr.mono (by decide)) (by rfl) T.g_sides_of T.F_sides_of.kp T.b_sides_of .nil pass0 (pa_cons (pv 3) pa_nil))) (blkOk_by (N := N_is_formula) (sc := defScope s_is_formula) (by decide +kernel)) (fun _ _ _ _ _ => (pg_name (i := 5) sc_is_formula.nd rfl (.inl rfl))) (fun _ _ _ _ _ => pts_nil) (fun _ _ _ _ _ => (pe_tup (pa_cons (pv 5) (pa_cons (pe_op op_add (pv 4) pe_int) pa_nil))))) pa_nil))))))))
    (pss_one (ps_ret pe_bl))))), ?_⟩
    have hsl : sizeLine = 16777216 := by decide
    refine ⟨v, rfl, (show 2 ≤ sizeLine by decide), fun t nt => ⟨(show 1 ≤ sizeLine by decide), fun l nl => ?_⟩⟩
    have s1 := same_upd nt (o := .tup [v, .int 1])
    have ht := upd_same (H := H) (a := t) (o := .tup [v, .int 1])
    have nlH : H l = none := s1.free nl
    generalize upd H t (.tup [v, .int 1]) = H1 at s1 ht nl ⊢
    have hv1 := (hv.same s1).new nl (o := .lst [.ref t])
    have tl : t ≠ l := ne_of_none ht nl
    have ht2 := same_upd nl (o := .lst [.ref t]) _ _ ht
    have s2 := s1.trans (same_upd nl (o := .lst [.ref t]))
    have hl := upd_same (H := H1) (a := l) (o := .lst [.ref t])
    generalize upd H1 l (.lst [.ref t]) = H2 at s2 hl ht2 hv1 ⊢
    dsimp only [gName, tSeq, tAsg, tC, L2.start]
    show tWhile _ _ _ [some v, some (.ref l), some (.int 0), none, none, none] H2
    refine while_by (fun σ G => ∃ (c : Nat) (y3 y4 y5 : Option V) (us : List V) (W : List (PyData × Nat)), σ = [some v, some (.ref l), some (.int (c : Nat)), y3, y4, y5] ∧ Same H G ∧ G l = some (.lst us) ∧ Wt l G us W ∧ c ≤ 24 ∧ W.length ≤ 1 + 3 * c ∧ (OkW W c ↔ isF d = true)) (fun σ _ => match σ with | [_, _, some (.int c), _, _, _] => 25 - c.toNat | _ => 0) ⟨0, none, none, none, [.ref t], [(d, 1)], rfl, s2, hl, ⟨rfl, fun i u e h1 h2 => ?_⟩, Nat.zero_le _, Nat.le_refl _, ok_isF⟩ ?_ ?_
    · cases i with
      | zero =>
        cases h1
        cases h2
        exact ⟨t, v, rfl, tl, ht2, hv1⟩
      | succ i => cases h1
    · rintro σ G ⟨c, y3, y4, y5, us, W, rfl, sG, hG, hW, hc, hl1, hok⟩
      refine ⟨.ref l, rfl, !us.isEmpty, .inl ⟨us, SqL.mk hG, rfl⟩, ?_⟩
      by_cases em : us = []
      · subst em
        have e1 : W = [] := List.eq_nil_of_length_eq_zero hW.1.symm
        subst e1
        have e2 : isF d = true := hok.mp ⟨fun e he => (by cases he), by simpa using hc⟩
        rw [e2] at q
        exact iteF (q _ sG)
      · have em2 : us.isEmpty = false := by
          cases us
          · exact absurd rfl em
          · rfl
        rw [em2]
        refine iteT ?_
        obtain ⟨us', u, rfl⟩ := snoc_of em
        obtain ⟨W', ⟨de, k⟩, rfl⟩ := snoc_of (xs := W) (fun e => by
          have := hW.1
          rw [e] at this
          simp at this)
        obtain ⟨hW', lnW, tt, vv, rfl, ntl, htt, hvv⟩ := hW.init
        refine ⟨.ref l, rfl, .inl ⟨rfl, _, SqL.mk hG⟩, l, _, .ref tt, rfl, rfl, hG, by simp, ?_⟩
        rw [List.dropLast_concat]
        have b1 := (But.refl l G).put (o := .lst us')
        have sG1 := same_newer sG nlH (o := .lst us')
        have hG1 := upd_same (H := G) (a := l) (o := .lst us')
        generalize upd G l (.lst us') = G1 at b1 sG1 hG1 ⊢
        refine ⟨tt, _, rfl, SqT.mk (b1 _ _ ntl htt), rfl, ?_⟩
        refine ⟨_, _, rfl, _, _, rfl, rfl, .int (c : Nat), rfl, _, _, rfl, rfl, ?_⟩
        have hW1 := hW'.but b1
        have hv1 := hvv.but b1
        have fls : (c + 1 > 24 ∨ k > 8 ∨ partD de = false) → isF d = false := fun h => by
          cases e : isF d
          · rfl
          · exact absurd (hok.mpr e) (ok_no h)
        refine ⟨_, rfl, _, _, rfl, rfl, _, rfl, ?_⟩
        by_cases c1 : (24 : Int) < (c : Int) + 1
        · rw [decide_eq_true c1]
          have e := fls (.inl (by omega))
          rw [e] at q
          exact iteT (iteT (q _ sG1))
        rw [decide_eq_false c1]
        refine iteF ⟨_, rfl, _, _, rfl, rfl, _, rfl, ?_⟩
        by_cases c2 : (8 : Int) < ((k : Nat) : Int)
        · have c2' : decide ((8 : Int) < (((de, k) : PyData × Nat).2 : Int)) = true := decide_eq_true c2
          rw [c2']
          have e := fls (.inr (.inl (by omega)))
          rw [e] at q
          exact iteT (iteT (q _ sG1))
        have c2' : decide ((8 : Int) < (((de, k) : PyData × Nat).2 : Int)) = false := decide_eq_false c2
        rw [c2']
        refine iteF ⟨vv, rfl, (· = l), vv, de, rfl, hv1, _, rfl, ?_⟩
        by_cases c3 : partD de = true
        · rw [c3]
          refine iteF ?_
          have s3 := sides3 c3
          have lW : W'.length + 1 ≤ 1 + 3 * c := by
            rw [List.length_append, List.length_singleton] at hl1
            exact hl1
          refine ⟨.ref l, rfl, .inl ⟨rfl, _, SqL.mk hG1⟩, vv, rfl, (· = l), vv, de, rfl, hv1, c3, fun G2 t2 us2 s2 ht2 hts2 => ⟨t2, rfl, ⟨_, SqT.mk ht2⟩, fun C nC => ?_⟩⟩
          have l2 := hts2.len
          have hl2 := s2 _ _ hG1
          refine lc_tup (xs := us2) (fun i G => Same G2 G ∧ ∃ ws, G C = some (.lst ws) ∧ ws.length = i ∧ ∀ j u, j < i → us2[j]? = some u → ∃ t, ws[j]? = some (.ref t) ∧ t ≠ l ∧ G t = some (.tup [u, .int ((k + 1 : Nat) : Int)])) ⟨same_upd nC, [], upd_same, rfl, fun j u hj => absurd hj (Nat.not_lt_zero j)⟩ (fun i G _ h => SqT.mk (h.1 _ _ ht2)) (fun i u G hu h => ?_) (fun G h => ?_)
          · obtain ⟨sG3, ws, hC, lw, hws⟩ := h
            have iu := (List.getElem?_eq_some_iff.mp hu).1
            refine ⟨rfl, yes_ite ?_⟩
            refine ⟨u, rfl, .int (k : Nat), rfl, _, _, rfl, rfl, (show 2 ≤ sizeLine by decide), fun t5 n5 => ?_⟩
            have s5 := same_upd n5 (o := .tup [u, .int ((k : Nat) + 1 : Int)])
            have ne5 : t5 ≠ C := fun e => by rw [e, hC] at n5; cases n5
            have nl5 : t5 ≠ l := fun e => by rw [e, sG3 _ _ hl2] at n5; cases n5
            refine ⟨ws, s5 _ _ hC, by omega, same_newer (sG3.trans s5) nC, _, upd_same, by rw [List.length_append, List.length_singleton, lw], fun j x hj hx => ?_⟩
            by_cases z : j < i
            · obtain ⟨t, h1, h2, h3⟩ := hws j x z hx
              refine ⟨t, by rw [List.getElem?_append_left (by omega)]; exact h1, h2, ?_⟩
              rw [upd_ne (ne_of h3 hC (fun e => by cases e))]
              exact s5 _ _ h3
            · obtain rfl : j = i := by omega
              rw [hu] at hx
              cases hx
              refine ⟨t5, by rw [← lw]; simp, nl5, ?_⟩
              rw [upd_ne ne5]
              exact upd_same
          · obtain ⟨sG3, ws, hC, lw, hws⟩ := h
            have hl3 := sG3 _ _ hl2
            have nlC : l ≠ C := fun e => by rw [← e, hl2] at nC; cases nC
            refine ⟨l, C, us', ws, rfl, rfl, hl3, hC, by omega, ?_⟩
            have bL : But l G1 (upd G l (.lst (us' ++ ws))) := (same_but (s2.trans sG3)).put
            have bL2 : But l G2 (upd G l (.lst (us' ++ ws))) := (same_but sG3).put
            have bL3 : But l G (upd G l (.lst (us' ++ ws))) := (But.refl l G).put
            have wts : Wt l (upd G l (.lst (us' ++ ws))) ws ((sdsD de).map fun s => (s, k + 1)) := by
              refine ⟨by rw [lw, List.length_map, l2], fun i u e h1 h2 => ?_⟩
              have iw := (List.getElem?_eq_some_iff.mp h1).1
              have iu : i < us2.length := by omega
              obtain ⟨t, g1, g2, g3⟩ := hws i us2[i] iu (List.getElem?_eq_getElem iu)
              obtain ⟨dd, g4, g5⟩ := hts2.get (List.getElem?_eq_getElem iu)
              rw [h1] at g1
              cases g1
              rw [List.getElem?_map, g4] at h2
              cases h2
              exact ⟨t, _, rfl, g2, bL3 _ _ g2 g3, g5.but bL2⟩
            refine ⟨⟨c + 1, _, _, _, us' ++ ws, W' ++ (sdsD de).map fun s => (s, k + 1), rfl, same_newer (sG1.trans (s2.trans sG3)) nlH, upd_same, (hW1.but bL).app wts, by omega, by rw [List.length_append, List.length_map]; omega, (ok_step c3 (by omega)).symm.trans hok⟩, ?_⟩
            show 25 - ((c : Int) + 1).toNat < 25 - ((c : Int)).toNat
            omega
        · have c3' : partD de = false := by
            cases e : partD de
            · rfl
            · exact absurd e c3
          rw [c3']
          have e := fls (.inr (.inr c3'))
          rw [e] at q
          exact iteT (q _ sG1)
    · rintro σ H1 Q1 Q2 hQ ⟨v, hv, k, tk, h3⟩
      exact ⟨v, hv, k, tk, hQ _ _ h3⟩
/-! k03: what a row is, and what is none -/
def isRowD (d : PyData) : Bool := match d with
  | .tuple ds => decide (1 ≤ ds.length ∧ ds.length ≤ 4096) && ds.all fun x => withinD x 0 1
  | _ => false
def sp_is_bit (K : PySem.W.Frag) : Sp := fun vs H Q _ => ∃ (p : Addr → Prop) (x : V) (d : PyData), vs = [x] ∧ Tg p H x d ∧ Q (.bl (withinD d 0 1)) H
theorem ok_is_bit (T : Defs K mg) (TT : Tabs T base) : FnOk P w K mg base CX0 3 T.f_is_bit T.fd_is_bit ["thing"] (sp_is_bit K) := by
  have G_is_within : FnOk P w K mg base CX0 2 T.f_is_within T.fd_is_within ["thing", "least", "greatest"] (sp_is_within K) := ok_is_within T TT
  refine T.F_is_bit.ok sc_is_bit (fun vs H Q E h => ?_) (fun cdv A outer s H vs Q E hr h => ?_)
  · obtain ⟨p, x, d, rfl, hx, q⟩ := h
    rfl
  · obtain ⟨p, x, d, rfl, hx, q⟩ := h
    refine ⟨_, PSs.nox (pss_one (ps_ret (pe_call G_is_within (hr.mono (by decide)) (by rfl) T.g_is_within T.F_is_within.kp T.b_is_within .nil pass0 (pa_cons (pv 0) (pa_cons pe_int (pa_cons pe_int pa_nil)))))), ?_⟩
    exact ⟨x, rfl, p, x, d, 0, 1, rfl, hx, q⟩
theorem all_take {α : Type} (f : α → Bool) (xs : List α) (i : Nat) (x : α) (h : xs[i]? = some x) (a : ∀ j y, j < i → xs[j]? = some y → f y = true) (b : f x = true) : ∀ j y, j < i + 1 → xs[j]? = some y → f y = true := fun j y hj e => by
  by_cases z : j < i
  · exact a j y z e
  · obtain rfl : j = i := by omega
    rw [h] at e
    cases e
    exact b
theorem all_of_get {α : Type} (f : α → Bool) (xs : List α) (h : ∀ j y, j < xs.length → xs[j]? = some y → f y = true) : xs.all f = true := List.all_eq_true.mpr fun x hx => by
  obtain ⟨i, e⟩ := List.getElem?_of_mem hx
  exact h i x (List.getElem?_eq_some_iff.mp e).1 e
theorem not_all {α : Type} (f : α → Bool) (xs : List α) {i : Nat} {x : α} (h : xs[i]? = some x) (b : f x = false) : xs.all f = false := by
  cases e : xs.all f
  · rfl
  · rw [List.all_eq_true.mp e x (List.mem_of_getElem? h)] at b
    cases b
def sp_is_row {K : PySem.W.Frag} {mg : Str → Option Value} (T : Defs K mg) : Sp := fun vs H Q _ => ∃ (p : Addr → Prop) (v : V) (d : PyData), vs = [v] ∧ Tg p H v d ∧ GxR.TabG H T.P_is_row ∧ ∀ H', Sam H H' → Q (.bl (isRowD d)) H'
theorem ok_is_row (T : Defs K mg) (TT : Tabs T base) : FnOk P w K mg base CX0 5 T.f_is_row T.fd_is_row ["thing"] (sp_is_row T) := by
  have G_is_bit : FnOk P w K mg base CX0 3 T.f_is_bit T.fd_is_bit ["thing"] (sp_is_bit K) := ok_is_bit T TT
  refine okC T.F_is_row T.k_is_row sc_is_row (fun vs H Q E h => ?_) (fun A outer s H vs Q E hr h => ?_)
  · obtain ⟨p, v, d, rfl, hv, tab, q⟩ := h
    rfl
  · obtain ⟨p, v, d, rfl, hv, tab, q⟩ := h
    refine ⟨_, PSs.nox (pss_cons (ps_if (PW.pt (pw_or (pt_not (pt_val (pe_callB call_isi (by rfl) T.m_isinstance bt_isinstance (pa_cons (pv 0) (pa_cons (pe_bltn (v := .ty "tuple") (by rfl) T.m_tuple bt_tuple rfl) pa_nil))))) (pw_or1 (pt_not (pt_chain op_le op_le pe_int (pe_callB call_len_seq (by rfl) T.m_len bt_len (pa_cons (pv 0) pa_nil)) (pe_globI (by rfl) T.i_LONGEST)))))) (pss_one (ps_ret pe_bl)) pss_nil)
    (pss_one (ps_ret (pe_allE (k := 3) (own := [("bit", 1)]) (g := gName 1) (tt := tYes) (hr.mono (by decide)) (by rfl) T.m_all bt_all rfl sc_is_row.nd TT.t_is_row rfl (genOk_by (N := N_is_row) (sc := defScope s_is_row) (own := [("bit", 1)]) (by decide +kernel) rfl (by decide +kernel) rfl) (pi_tup (pv 0)) (fun _ _ _ _ _ hr => (pg_name (i := 1) sc_is_row.nd rfl (.inl rfl))) (fun _ _ _ _ _ hr => pts_nil) (fun _ _ _ _ _ hr => (pe_call G_is_bit (hr.mono (by decide)) (by rfl) T.g_is_bit T.F_is_bit.kp T.b_is_bit .nil pass0 (pa_cons (pv 1) pa_nil))))))), ?_⟩
    have hsl : sizeLine = 16777216 := by decide
    obtain ⟨t, ty, -, -, kt, -, -⟩ := hv.ty (K := K)
    refine ⟨v, rfl, _, _, _, _, _, rfl, .ty "tuple", ty, kt, _, rfl, ?_⟩
    cases hv with
    | tup np ha hxs =>
      rename_i a xs ds
      have ln := hxs.len
      refine iteF ⟨.ref a, rfl, a, _, rfl, .inr (SqT.mk ha), _, _, rfl, rfl, _, rfl, ?_⟩
      have no : ¬ (1 ≤ ds.length ∧ ds.length ≤ 4096) → isRowD (.tuple ds) = false := fun z => by
        show (decide (1 ≤ ds.length ∧ ds.length ≤ 4096) && _) = false
        rw [decide_eq_false z]
        rfl
      by_cases c1 : (1 : Int) ≤ (xs.length : Nat)
      · rw [decide_eq_true c1]
        refine iteT ⟨_, _, rfl, rfl, _, rfl, ?_⟩
        by_cases c2 : ((xs.length : Nat) : Int) ≤ 4096
        · rw [decide_eq_true c2]
          refine iteF ?_
          refine ⟨.ref a, rfl, a, rfl, ⟨_, SqT.mk ha⟩, tab, fun H2 tb => ?_⟩
          have s2 := Sam.tabbed tab tb
          refine ga_it (walk_tup (xs := xs)) (fun i H3 => Sam H H3 ∧ ∀ j y, j < i → ds[j]? = some y → withinD y 0 1 = true) ⟨s2, fun j y hj => absurd hj (Nat.not_lt_zero j)⟩ (fun i H3 _ h => SqT.mk (h.1.tup ha)) ?_ ?_
          · rintro i x H3 H4 hi ⟨s3, hb⟩ ⟨rfl, hx⟩
            obtain ⟨e, he, tx⟩ := hxs.get hx
            refine ⟨rfl, yes_ite ?_⟩
            refine ⟨x, rfl, p, x, e, rfl, tx.sam s3, ⟨withinD e 0 1, rfl, fun z => ?_⟩, fun z => ⟨s3, all_take _ ds i e he hb (by injection z)⟩⟩
            have r : isRowD (.tuple ds) = false := by
              show (_ && ds.all fun x => withinD x 0 1) = false
              rw [not_all _ ds he z, Bool.and_false]
            rw [r] at q
            exact q _ s3
          · rintro H3 ⟨s3, hb⟩
            have r : isRowD (.tuple ds) = true := by
              show (decide (1 ≤ ds.length ∧ ds.length ≤ 4096) && ds.all fun x => withinD x 0 1) = true
              rw [decide_eq_true (by omega), all_of_get _ ds fun j y hj e => hb j y (by omega) e]
              rfl
            rw [r] at q
            exact q _ s3
        · rw [decide_eq_false c2]
          rw [no (by omega)] at q
          exact iteT (q _ (Sam.refl _))
      · rw [decide_eq_false c1]
        rw [no (by omega)] at q
        exact iteF ⟨_, rfl, iteT (q _ (Sam.refl _))⟩
    | _ => exact iteT (iteT (q _ (Sam.refl _)))
def isFrD : PyData → Bool
  | .tuple [.int x, .int y] => decide (0 < y ∧ Int.gcd x y = 1)
  | _ => false
theorem gcd1 {t b : Int} (hb : 0 < b) : decide (V.int (if (1 : Int) > (Int.gcd t b : Int) then 1 else (Int.gcd t b : Int)) = V.int 1) = decide (Int.gcd t b = 1) := by
  have h2 : 0 < Int.gcd t b := Int.gcd_pos_of_ne_zero_right t (by omega)
  rw [if_neg (show ¬ (1 : Int) > (Int.gcd t b : Int) by omega)]
  refine decide_eq_decide.mpr ⟨fun e => ?_, fun e => ?_⟩
  · have := V.int.inj e
    omega
  · rw [e]
    rfl
def sp_is_fraction (_ : PySem.W.Frag) : Sp := fun vs H Q _ => ∃ (p : Addr → Prop) (v : V) (d : PyData), vs = [v] ∧ Tg p H v d ∧ Q (.bl (isFrD d)) H
theorem ok_is_fraction (T : Defs K mg) (TT : Tabs T base) : FnOk P w K mg base CX0 2 T.f_is_fraction T.fd_is_fraction ["thing"] (sp_is_fraction K) := by
  have G_is_number : FnOk P w K mg base CX0 1 T.f_is_number T.fd_is_number ["thing"] (sp_is_number K) := ok_is_number T TT
  have G_common_divisor : FnOk P w K mg base CX0 1 T.f_common_divisor T.fd_common_divisor ["one", "other"] (sp_common_divisor K) := ok_common_divisor T TT
  refine T.F_is_fraction.ok sc_is_fraction (fun vs H Q E h => ?_) (fun cdv A outer s H vs Q E hr h => ?_)
  · obtain ⟨p, v, d, rfl, hv, q⟩ := h
    rfl
  · obtain ⟨p, v, d, rfl, hv, q⟩ := h
    refine ⟨_, PSs.nox (pss_cons (ps_if (PW.pt (pw_or (pt_not (pt_val (pe_callB call_isi (by rfl) T.m_isinstance bt_isinstance (pa_cons (pv 0) (pa_cons (pe_bltn (v := .ty "tuple") (by rfl) T.m_tuple bt_tuple rfl) pa_nil))))) (pw_or1 (pt_cmpR op_ne (pe_callB call_len_seq (by rfl) T.m_len bt_len (pa_cons (pv 0) pa_nil)) pe_int (nomark _))))) (pss_one (ps_ret pe_bl)) pss_nil)
    (pss_cons (ps_asg (pv 0) (pg_tup rfl (pgs_cons (pg_name (i := 1) sc_is_fraction.nd rfl (.inl rfl)) (pgs_cons (pg_name (i := 2) sc_is_fraction.nd rfl (.inl rfl)) pgs_nil))))
    (pss_cons (ps_if (PW.pt (pw_or (pt_not (pt_val (pe_call G_is_number (hr.mono (by decide)) (by rfl) T.g_is_number T.F_is_number.kp T.b_is_number .nil pass0 (pa_cons (pv 1) pa_nil)))) (pw_or1 (pt_not (pt_val (pe_call G_is_number (hr.mono (by decide)) (by rfl) T.g_is_number T.F_is_number.kp T.b_is_number .nil pass0 (pa_cons (pv 2) pa_nil))))))) (pss_one (ps_ret pe_bl)) pss_nil)
    (pss_one (ps_ret (pe_and (pe_cmpR op_gt (pv 2) pe_int (nomark _)) (pe_one (pe_cmpR op_eq (pe_call G_common_divisor (hr.mono (by decide)) (by rfl) T.g_common_divisor T.F_common_divisor.kp T.b_common_divisor .nil pass0 (pa_cons (pv 1) (pa_cons (pv 2) pa_nil))) pe_int (nomark _))))))))), ?_⟩
    obtain ⟨t, ty, h1, h2, kt, h3⟩ := hv.ty (K := K)
    clear h1 h2 h3
    refine ⟨v, rfl, _, _, _, _, _, rfl, .ty "tuple", ty, kt, _, rfl, ?_⟩
    cases hv with
    | tup np ha hxs =>
      rename_i a xs ds
      have ll := hxs.len
      refine iteF ⟨.ref a, rfl, a, _, rfl, .inr (SqT.mk ha), rfl, _, rfl, ?_⟩
      match xs, ds, hxs, ha, ll, q with
      | [x1, x2], [d1, d2], hxs, ha, _, q =>
        refine iteF ?_
        obtain ⟨_, e1, t1⟩ := hxs.get (i := 0) rfl
        obtain ⟨_, e2, t2⟩ := hxs.get (i := 1) rfl
        cases e1
        cases e2
        refine ⟨.ref a, rfl, a, _, rfl, SqT.mk ha, rfl, _, _, rfl, _, _, rfl, rfl, ?_⟩
        refine ⟨x1, rfl, p, x1, d1, rfl, t1, _, rfl, ?_⟩
        cases i1 : isIntD d1 with
        | false =>
          have e : isFrD (.tuple [d1, d2]) = false := by cases d1 <;> first | rfl | cases i1
          rw [e] at q
          exact iteT q
        | true =>
          obtain ⟨x, rfl⟩ := isInt_is i1
          obtain rfl := t1.intv
          refine iteF ⟨x2, rfl, p, x2, d2, rfl, t2, _, rfl, ?_⟩
          cases i2 : isIntD d2 with
          | false =>
            have e : isFrD (.tuple [.int x, d2]) = false := by cases d2 <;> first | rfl | cases i2
            rw [e] at q
            exact iteT q
          | true =>
            obtain ⟨y, rfl⟩ := isInt_is i2
            obtain rfl := t2.intv
            have e0 : isFrD (.tuple [.int x, .int y]) = decide (0 < y ∧ Int.gcd x y = 1) := rfl
            rw [e0] at q
            refine iteF ⟨_, rfl, _, _, rfl, rfl, _, rfl, ?_⟩
            by_cases z : 0 < y
            · rw [decide_eq_true (show y > 0 from z)]
              refine iteT ⟨_, rfl, _, rfl, x, y, rfl, rfl, ?_⟩
              rw [gcd1 z]
              have e : decide (Int.gcd x y = 1) = decide (0 < y ∧ Int.gcd x y = 1) := decide_eq_decide.mpr ⟨fun w => ⟨z, w⟩, fun w => w.2⟩
              rw [e]
              exact q
            · rw [decide_eq_false (show ¬ y > 0 from z)]
              refine iteF ?_
              rw [decide_eq_false (fun w => z w.1)] at q
              exact q
      | [], [], _, _, _, q => exact iteT q
      | [x1], [d1], _, _, _, q =>
        have e : isFrD (.tuple [d1]) = false := by cases d1 <;> rfl
        rw [e] at q
        exact iteT q
      | x1 :: x2 :: x3 :: r, d1 :: d2 :: d3 :: r', _, _, _, q =>
        rw [decide_eq_false (show ¬ V.int (((x1 :: x2 :: x3 :: r).length : Nat) : Int) = V.int 2 from fun e => by
          have e := V.int.inj e
          simp only [List.length_cons] at e
          omega)]
        have e : isFrD (.tuple (d1 :: d2 :: d3 :: r')) = false := by
          cases d1 <;> cases d2 <;> rfl
        rw [e] at q
        exact iteT q
    | _ => exact iteT q
theorem fr_is {d : PyData} (h : isFrD d = true) : ∃ x y, d = .tuple [.int x, .int y] ∧ 0 < y ∧ Int.gcd x y = 1 := by
  unfold isFrD at h
  split at h
  · exact ⟨_, _, rfl, (of_decide_eq_true h).1, (of_decide_eq_true h).2⟩
  · cases h
def isShD (d : PyData) : Bool := match d with
  | .tuple [.int x, .int y] => decide (0 < y ∧ Int.gcd x y = 1 ∧ 0 ≤ x ∧ x ≤ y)
  | _ => false
theorem sh_fr {d : PyData} (h : isFrD d = false) : isShD d = false := by
  cases e : isShD d with
  | false => rfl
  | true =>
    unfold isShD at e
    split at e
    · have := of_decide_eq_true e
      have : isFrD (.tuple [.int _, .int _]) = true := decide_eq_true ⟨this.1, this.2.1⟩
      rw [this] at h
      cases h
    · cases e
def sp_is_share (_ : PySem.W.Frag) : Sp := fun vs H Q _ => ∃ (p : Addr → Prop) (v : V) (d : PyData), vs = [v] ∧ Tg p H v d ∧ Q (.bl (isShD d)) H
theorem ok_is_share (T : Defs K mg) (TT : Tabs T base) : FnOk P w K mg base CX0 3 T.f_is_share T.fd_is_share ["thing"] (sp_is_share K) := by
  have G_is_fraction : FnOk P w K mg base CX0 2 T.f_is_fraction T.fd_is_fraction ["thing"] (sp_is_fraction K) := ok_is_fraction T TT
  refine T.F_is_share.ok sc_is_share (fun vs H Q E h => ?_) (fun cdv A outer s H vs Q E hr h => ?_)
  · obtain ⟨p, v, d, rfl, hv, q⟩ := h
    rfl
  · obtain ⟨p, v, d, rfl, hv, q⟩ := h
    refine ⟨_, PSs.nox (pss_one (ps_ret (pe_and (pe_call G_is_fraction (hr.mono (by decide)) (by rfl) T.g_is_fraction T.F_is_fraction.kp T.b_is_fraction .nil pass0 (pa_cons (pv 0) pa_nil)) (pe_one (pe_chain op_le op_le pe_int (pe_ix ix_tup (pv 0) pe_int (fun _ _ => rfl)) (pe_ix ix_tup (pv 0) pe_int (fun _ _ => rfl))))))), ?_⟩
    refine ⟨v, rfl, p, v, d, rfl, hv, _, rfl, ?_⟩
    cases e : isFrD d with
    | false =>
      rw [sh_fr e] at q
      exact iteF q
    | true =>
      obtain ⟨x, y, rfl, hy, hg⟩ := fr_is e
      obtain ⟨a, xs, rfl, _, ha, hx⟩ := hv.tupv
      obtain ⟨v1, v2, rfl, t1, t2⟩ := hx.two
      obtain rfl := t1.intv
      obtain rfl := t2.intv
      refine iteT ⟨.ref a, rfl, a, _, 0, _, rfl, rfl, SqT.mk ha, atI_nat (j := 0) rfl, _, _, rfl, rfl, _, rfl, ?_⟩
      have e2 : isShD (.tuple [.int x, .int y]) = decide (0 < y ∧ Int.gcd x y = 1 ∧ 0 ≤ x ∧ x ≤ y) := rfl
      rw [e2] at q
      by_cases z : 0 ≤ x
      · rw [decide_eq_true z]
        refine iteT ⟨.ref a, rfl, a, _, 1, _, rfl, rfl, SqT.mk ha, atI_nat (j := 1) rfl, _, _, rfl, rfl, ?_⟩
        have e3 : decide (x ≤ y) = decide (0 < y ∧ Int.gcd x y = 1 ∧ 0 ≤ x ∧ x ≤ y) := decide_eq_decide.mpr ⟨fun w => ⟨hy, hg, z, w⟩, fun w => w.2.2.2⟩
        show Q (.bl (decide (x ≤ y))) H
        rw [e3]
        exact q
      · rw [decide_eq_false z]
        rw [decide_eq_false (fun w => z w.2.2.1)] at q
        exact iteF q
/-! machines, as things -/
def askN (z : Str) : Option Int := dl_ASKED.lookup z
def isAh (d : PyData) : Bool := match d with
  | .tuple ds => decide (1 ≤ ds.length ∧ ds.length ≤ 16) && ds.all fun x => withinD x 0 1
  | _ => false
/-- what a piece is, whatever stands for the numbers of pieces -/
inductive Shp : Str → List PyData → Prop
  | make {m k : PyData} : isMkD m → withinD k 0 64 = true → Shp "make" [m, k]
  | keep {a b f : PyData} : withinD f 0 1 = true → Shp "keep" [a, b, f]
  | late {a h : PyData} : isAh h = true → Shp "late" [a, h]
  | keeper {a b m at_ : PyData} {n : Int} : isMkD m → 1 ≤ n → n ≤ 64 → withinD at_ 0 n = true → Shp "keeper" [a, b, m, .int n, at_]
  | side {z : Str} {ds : List PyData} : sideN z = some (ds.length : Int) → Shp z ds
theorem side_words {z : Str} {n : Int} (h : sideN z = some n) : z ≠ "make" ∧ z ≠ "keep" ∧ z ≠ "late" ∧ z ≠ "keeper" := by
  have k : ∀ y : Str, sideN y = none → z ≠ y := fun y e x => by
    rw [x, e] at h
    cases h
  exact ⟨k _ (by decide +kernel), k _ (by decide +kernel), k _ (by decide +kernel), k _ (by decide +kernel)⟩
theorem shp_make {ds : List PyData} (h : Shp "make" ds) : ∃ m k, ds = [m, k] ∧ isMkD m ∧ withinD k 0 64 = true := by
  generalize hz : ("make" : Str) = z at h
  cases h with
  | make a b => exact ⟨_, _, rfl, a, b⟩
  | keep a => exact absurd hz (by decide +kernel)
  | late a => exact absurd hz (by decide +kernel)
  | keeper a b c d => exact absurd hz (by decide +kernel)
  | side a => exact absurd hz.symm (side_words a).1
theorem shp_keep {ds : List PyData} (h : Shp "keep" ds) : ∃ a b f, ds = [a, b, f] ∧ withinD f 0 1 = true := by
  generalize hz : ("keep" : Str) = z at h
  cases h with
  | make a b => exact absurd hz (by decide +kernel)
  | keep a => exact ⟨_, _, _, rfl, a⟩
  | late a => exact absurd hz (by decide +kernel)
  | keeper a b c d => exact absurd hz (by decide +kernel)
  | side a => exact absurd hz.symm (side_words a).2.1
theorem shp_late {ds : List PyData} (h : Shp "late" ds) : ∃ a b, ds = [a, b] ∧ isAh b = true := by
  generalize hz : ("late" : Str) = z at h
  cases h with
  | make a b => exact absurd hz (by decide +kernel)
  | keep a => exact absurd hz (by decide +kernel)
  | late a => exact ⟨_, _, rfl, a⟩
  | keeper a b c d => exact absurd hz (by decide +kernel)
  | side a => exact absurd hz.symm (side_words a).2.2.1
theorem shp_keeper {ds : List PyData} (h : Shp "keeper" ds) : ∃ a b m at_ n, ds = [a, b, m, .int n, at_] ∧ isMkD m ∧ 1 ≤ n ∧ n ≤ 64 ∧ withinD at_ 0 n = true := by
  generalize hz : ("keeper" : Str) = z at h
  cases h with
  | make a b => exact absurd hz (by decide +kernel)
  | keep a => exact absurd hz (by decide +kernel)
  | late a => exact absurd hz (by decide +kernel)
  | keeper a b c d => exact ⟨_, _, _, _, _, rfl, a, b, c, d⟩
  | side a => exact absurd hz.symm (side_words a).2.2.2
theorem shp_side {z : Str} {ds : List PyData} (h : Shp z ds) (n1 : z ≠ "make") (n2 : z ≠ "keep") (n3 : z ≠ "late") (n4 : z ≠ "keeper") : sideN z = some (ds.length : Int) := by
  cases h with
  | make a b => exact absurd rfl n1
  | keep a => exact absurd rfl n2
  | late a => exact absurd rfl n3
  | keeper a b c d => exact absurd rfl n4
  | side a => exact a
theorem shp_len {z : Str} {ds : List PyData} (h : Shp z ds) (e : sideN z = none) : (z = "make" ∧ ds.length = 2) ∨ (z = "keep" ∧ ds.length = 3) ∨ (z = "late" ∧ ds.length = 2) ∨ (z = "keeper" ∧ ds.length = 5) := by
  cases h with
  | make a b => exact .inl ⟨rfl, rfl⟩
  | keep a => exact .inr (.inl ⟨rfl, rfl⟩)
  | late a => exact .inr (.inr (.inl ⟨rfl, rfl⟩))
  | keeper a b c d => exact .inr (.inr (.inr ⟨rfl, rfl⟩))
  | side a => rw [e] at a; cases a
/-- a piece of that number in a machine of so many -/
def Pc (number many : Nat) (d : PyData) : Prop := ∃ z ds n, d = .tuple (.str z :: ds) ∧ Shp z ds ∧ askN z = some n ∧ ∀ e, e ∈ ds.take n.toNat → withinD e 0 (if z = "late" ∨ z = "keeper" then (many : Int) - 1 else (number : Int) - 1) = true
def isMc (d : PyData) : Prop := ∃ ds, d = .tuple ds ∧ 1 ≤ ds.length ∧ ds.length ≤ 24 ∧ ∀ i e, ds[i]? = some e → Pc i ds.length e
theorem shp_ask {z : Str} {ds : List PyData} (h : Shp z ds) : ∃ n : Nat, askN z = some (n : Int) ∧ n ≤ 3 := by
  cases h with
  | make a b => exact ⟨0, by decide +kernel, by decide⟩
  | keep a => exact ⟨2, by decide +kernel, by decide⟩
  | late a => exact ⟨1, by decide +kernel, by decide⟩
  | keeper a b c d => exact ⟨2, by decide +kernel, by decide⟩
  | side a =>
    have : z = "less" ∨ z = "both" ∨ z = "either" ∨ z = "oneof" ∨ z = "pick" := by
      unfold sideN dl_SIDES at a
      simp only [List.lookup_cons, List.lookup_nil] at a
      by_cases h1 : z = "less"
      · exact .inl h1
      by_cases h2 : z = "both"
      · exact .inr (.inl h2)
      by_cases h3 : z = "either"
      · exact .inr (.inr (.inl h3))
      by_cases h4 : z = "oneof"
      · exact .inr (.inr (.inr (.inl h4)))
      by_cases h5 : z = "pick"
      · exact .inr (.inr (.inr (.inr h5)))
      rw [beq_false_of_ne h1, beq_false_of_ne h2, beq_false_of_ne h3, beq_false_of_ne h4, beq_false_of_ne h5] at a
      cases a
    rcases this with rfl | rfl | rfl | rfl | rfl
    · exact ⟨1, by decide +kernel, by decide⟩
    · exact ⟨2, by decide +kernel, by decide⟩
    · exact ⟨2, by decide +kernel, by decide⟩
    · exact ⟨2, by decide +kernel, by decide⟩
    · exact ⟨3, by decide +kernel, by decide⟩
def sp_asks_of (_ : PySem.W.Frag) : Sp := fun vs H Q _ => ∃ (a : Addr) (z : Str) (xs : List V) (n : Nat), vs = [.ref a] ∧ H a = some (.tup (.str z :: xs)) ∧ askN z = some (n : Int) ∧ ∀ H' t, Same H H' → H' t = some (.tup (xs.take n)) → Q (.ref t) H'
theorem cut_1n (x : V) (xs : List V) (n : Nat) : cutV (x :: xs) (some 1) (some (1 + (n : Int))) = xs.take n := by
  unfold cutV
  rw [show (1 + (n : Int)) = ((n + 1 : Nat) : Int) by omega, show (1 : Int) = ((1 : Nat) : Int) from rfl, HT.sIx_nat, HT.sIx_nat, List.length_cons, Nat.min_eq_left (show 1 ≤ xs.length + 1 by omega)]
  show (xs.take _) = _
  by_cases h : n ≤ xs.length
  · rw [Nat.min_eq_left (by omega), show n + 1 - 1 = n by omega]
  · rw [Nat.min_eq_right (by omega), show xs.length + 1 - 1 = xs.length by omega, List.take_of_length_le (Nat.le_refl _), List.take_of_length_le (by omega)]
theorem ok_asks_of (T : Defs K mg) (TT : Tabs T base) : FnOk P w K mg base CX0 1 T.f_asks_of T.fd_asks_of ["piece"] (sp_asks_of K) := by
  refine T.F_asks_of.ok sc_asks_of (fun vs H Q E h => ?_) (fun cdv A outer s H vs Q E hr h => ?_)
  · obtain ⟨a, z, xs, n, rfl, ha, hn, q⟩ := h
    rfl
  · obtain ⟨a, z, xs, n, rfl, ha, hn, q⟩ := h
    refine ⟨_, PSs.nox (pss_one (ps_ret (pe_slice sl_tupS (pv 0) (po_some pe_int) (po_some (pe_op op_add pe_int (pe_ix (ix_K (x := "ASKED") (K' := K) (w' := w) rfl rfl T.e_ASKED DW.k_ASKED (DW.v_ASKED w)) (pe_glob (v := .ref T.C_ASKED) (by rfl) T.g_ASKED rfl) (pe_ix ix_tup (pv 0) pe_int (fun _ _ => rfl)) (fun _ _ => rfl))))))), ?_⟩
    refine ⟨.ref a, rfl, 1, rfl, .ref a, rfl, a, _, 0, _, rfl, rfl, SqT.mk ha, atI_nat (j := 0) rfl, z, (n : Int), rfl, rfl, hn, _, _, rfl, rfl, _, rfl, a, _, rfl, ha, fun G t sG ht => ?_⟩
    rw [cut_1n] at ht
    exact q G t sG ht
def sp_is_ahead {K : PySem.W.Frag} {mg : Str → Option Value} (T : Defs K mg) : Sp := fun vs H Q _ => ∃ (p : Addr → Prop) (v : V) (d : PyData), vs = [v] ∧ Tg p H v d ∧ GxR.TabG H T.P_is_ahead ∧ ∀ H', Sam H H' → Q (.bl (isAh d)) H'
theorem ok_is_ahead (T : Defs K mg) (TT : Tabs T base) : FnOk P w K mg base CX0 5 T.f_is_ahead T.fd_is_ahead ["thing"] (sp_is_ahead T) := by
  have G_is_bit : FnOk P w K mg base CX0 3 T.f_is_bit T.fd_is_bit ["thing"] (sp_is_bit K) := ok_is_bit T TT
  refine okC T.F_is_ahead T.k_is_ahead sc_is_ahead (fun vs H Q E h => ?_) (fun A outer s H vs Q E hr h => ?_)
  · obtain ⟨p, v, d, rfl, hv, tab, q⟩ := h
    rfl
  · obtain ⟨p, v, d, rfl, hv, tab, q⟩ := h
    refine ⟨_, PSs.nox (pss_one (ps_ret (pe_and (pe_callB call_isi (by rfl) T.m_isinstance bt_isinstance (pa_cons (pv 0) (pa_cons (pe_bltn (v := .ty "tuple") (by rfl) T.m_tuple bt_tuple rfl) pa_nil))) (pe_and (pe_chain op_le op_le pe_int (pe_callB call_len_seq (by rfl) T.m_len bt_len (pa_cons (pv 0) pa_nil)) (pe_globI (by rfl) T.i_MOST_AHEAD)) (pe_one (pe_allE (k := 3) (own := [("bit", 1)]) (g := gName 1) (tt := tYes) (hr.mono (by decide)) (by rfl) T.m_all bt_all rfl sc_is_ahead.nd TT.t_is_ahead rfl (genOk_by (N := N_is_ahead) (sc := defScope s_is_ahead) (own := [("bit", 1)]) (by decide +kernel) rfl (by decide +kernel) rfl) (pi_tup (pv 0)) (fun _ _ _ _ _ hr => (pg_name (i := 1) sc_is_ahead.nd rfl (.inl rfl))) (fun _ _ _ _ _ hr => pts_nil) (fun _ _ _ _ _ hr => (pe_call G_is_bit (hr.mono (by decide)) (by rfl) T.g_is_bit T.F_is_bit.kp T.b_is_bit .nil pass0 (pa_cons (pv 1) pa_nil))))))))), ?_⟩
    obtain ⟨t, ty, -, -, kt, -, -⟩ := hv.ty (K := K)
    refine ⟨v, rfl, _, _, _, _, _, rfl, .ty "tuple", ty, kt, _, rfl, ?_⟩
    cases hv with
    | tup np ha hxs =>
      rename_i a xs ds
      have ln := hxs.len
      have no : ¬ (1 ≤ ds.length ∧ ds.length ≤ 16) → isAh (.tuple ds) = false := fun z => by
        show (decide (1 ≤ ds.length ∧ ds.length ≤ 16) && _) = false
        rw [decide_eq_false z]
        rfl
      refine iteT ⟨.ref a, rfl, a, _, rfl, .inr (SqT.mk ha), _, _, rfl, rfl, _, rfl, ?_⟩
      by_cases c1 : (1 : Int) ≤ (xs.length : Nat)
      rotate_left
      · rw [decide_eq_false c1]
        rw [no (by omega)] at q
        exact iteF ⟨_, rfl, iteF (q _ (Sam.refl _))⟩
      rw [decide_eq_true c1]
      refine iteT ⟨_, _, rfl, rfl, _, rfl, ?_⟩
      by_cases c2 : ((xs.length : Nat) : Int) ≤ 16
      rotate_left
      · rw [decide_eq_false c2]
        rw [no (by omega)] at q
        exact iteF (q _ (Sam.refl _))
      rw [decide_eq_true c2]
      refine iteT ⟨.ref a, rfl, a, rfl, ⟨_, SqT.mk ha⟩, tab, fun H2 tb => ?_⟩
      have s2 := Sam.tabbed tab tb
      refine ga_it (walk_tup (xs := xs)) (fun i H3 => Sam H H3 ∧ ∀ j y, j < i → ds[j]? = some y → withinD y 0 1 = true) ⟨s2, fun j y hj => absurd hj (Nat.not_lt_zero j)⟩ (fun i H3 _ h => SqT.mk (h.1.tup ha)) ?_ ?_
      · rintro i x H3 H4 hi ⟨s3, hb⟩ ⟨rfl, hx⟩
        obtain ⟨e, he, tx⟩ := hxs.get hx
        refine ⟨rfl, yes_ite ?_⟩
        refine ⟨x, rfl, p, x, e, rfl, tx.sam s3, ⟨withinD e 0 1, rfl, fun z => ?_⟩, fun z => ⟨s3, all_take _ ds i e he hb (by injection z)⟩⟩
        have r : isAh (.tuple ds) = false := by
          show (_ && ds.all fun x => withinD x 0 1) = false
          rw [not_all _ ds he z, Bool.and_false]
        rw [r] at q
        exact q _ s3
      · rintro H3 ⟨s3, hb⟩
        have r : isAh (.tuple ds) = true := by
          show (decide (1 ≤ ds.length ∧ ds.length ≤ 16) && ds.all fun x => withinD x 0 1) = true
          rw [decide_eq_true (by omega), all_of_get _ ds fun j y hj e => hb j y (by omega) e]
          rfl
        rw [r] at q
        exact q _ s3
    | _ => exact iteF (q _ (Sam.refl _))
def sp_is_shaped {K : PySem.W.Frag} {mg : Str → Option Value} (T : Defs K mg) : Sp := fun vs H Q _ => ∃ (p : Addr → Prop) (v : V) (z : Str) (ds : List PyData) (kb nb wb : Nat), vs = [v] ∧ Tg p H v (.tuple (.str z :: ds)) ∧ Bd kb nb wb (.tuple (.str z :: ds)) ∧ nb ≤ 60 ∧ GxR.TabG H T.P_is_table ∧ GxR.TabG H T.P_is_ahead ∧ ∀ H' r, Sam H H' → (r = true ↔ Shp z ds) → Q (.bl r) H'
theorem ok_is_shaped (T : Defs K mg) (TT : Tabs T base) : FnOk P w K mg base CX0 11 T.f_is_shaped T.fd_is_shaped ["piece"] (sp_is_shaped T) := by
  have G_is_bit : FnOk P w K mg base CX0 3 T.f_is_bit T.fd_is_bit ["thing"] (sp_is_bit K) := ok_is_bit T TT
  have G_is_ahead : FnOk P w K mg base CX0 5 T.f_is_ahead T.fd_is_ahead ["thing"] (sp_is_ahead T) := ok_is_ahead T TT
  have G_is_maker : FnOk P w K mg base CX0 10 T.f_is_maker T.fd_is_maker ["thing"] (sp_is_maker T) := ok_is_maker T TT
  have G_is_within : FnOk P w K mg base CX0 2 T.f_is_within T.fd_is_within ["thing", "least", "greatest"] (sp_is_within K) := ok_is_within T TT
  refine T.F_is_shaped.ok sc_is_shaped (fun vs H Q E h => ?_) (fun cdv A outer s H vs Q E hr h => ?_)
  · obtain ⟨p, v, z, ds, kb, nb, wb, rfl, hv, bd, nb60, tab, tah, q⟩ := h
    rfl
  · obtain ⟨p, v, z, ds, kb, nb, wb, rfl, hv, bd, nb60, tab, tah, q⟩ := h
    refine ⟨_, PSs.nox (pss_one (ps_match (pv 0) (pcs_seq rfl sc_is_shaped.nd pe_str (pcap_cons (i := 1) rfl (.inl rfl) (pcap_cons (i := 2) rfl (.inl rfl) pcap_nil)) (pss_one (ps_ret (pe_and (pe_call G_is_maker (hr.mono (by decide)) (by rfl) T.g_is_maker T.F_is_maker.kp T.b_is_maker .nil pass0 (pa_cons (pv 1) pa_nil)) (pe_one (pe_call G_is_within (hr.mono (by decide)) (by rfl) T.g_is_within T.F_is_within.kp T.b_is_within .nil pass0 (pa_cons (pv 2) (pa_cons pe_int (pa_cons (pe_globI (by rfl) T.i_GREATEST_K) pa_nil))))))))
    (pcs_seq rfl sc_is_shaped.nd pe_str (pcap_cons (i := 3) rfl (.inl rfl) (pcap_cons (i := 4) rfl (.inl rfl) (pcap_cons (i := 5) rfl (.inl rfl) pcap_nil))) (pss_one (ps_ret (pe_call G_is_bit (hr.mono (by decide)) (by rfl) T.g_is_bit T.F_is_bit.kp T.b_is_bit .nil pass0 (pa_cons (pv 5) pa_nil))))
    (pcs_seq rfl sc_is_shaped.nd pe_str (pcap_cons (i := 3) rfl (.inl rfl) (pcap_cons (i := 6) rfl (.inl rfl) pcap_nil)) (pss_one (ps_ret (pe_call G_is_ahead (hr.mono (by decide)) (by rfl) T.g_is_ahead T.F_is_ahead.kp T.b_is_ahead .nil pass0 (pa_cons (pv 6) pa_nil))))
    (pcs_seq rfl sc_is_shaped.nd pe_str (pcap_cons (i := 3) rfl (.inl rfl) (pcap_cons (i := 4) rfl (.inl rfl) (pcap_cons (i := 1) rfl (.inl rfl) (pcap_cons (i := 7) rfl (.inl rfl) (pcap_cons (i := 8) rfl (.inl rfl) pcap_nil))))) (pss_one (ps_ret (pe_and (pe_call G_is_maker (hr.mono (by decide)) (by rfl) T.g_is_maker T.F_is_maker.kp T.b_is_maker .nil pass0 (pa_cons (pv 1) pa_nil)) (pe_and (pe_call G_is_within (hr.mono (by decide)) (by rfl) T.g_is_within T.F_is_within.kp T.b_is_within .nil pass0 (pa_cons (pv 7) (pa_cons pe_int (pa_cons (pe_globI (by rfl) T.i_MOST_HELD) pa_nil)))) (pe_one (pe_call G_is_within (hr.mono (by decide)) (by rfl) T.g_is_within T.F_is_within.kp T.b_is_within .nil pass0 (pa_cons (pv 8) (pa_cons pe_int (pa_cons (pv 7) pa_nil)))))))))
    (pcs_any (pss_one (ps_ret (pe_and (pe_cmpR (op_inK (x := "SIDES") (K' := K) (w' := w) rfl rfl T.e_SIDES DW.k_SIDES (DW.v_SIDES w)) (pe_ix ix_tup (pv 0) pe_int (fun _ _ => rfl)) (pe_glob (v := .ref T.C_SIDES) (by rfl) T.g_SIDES rfl) rfl) (pe_one (pe_cmpR op_eq (pe_callB call_len_seq (by rfl) T.m_len bt_len (pa_cons (pv 0) pa_nil)) (pe_op op_add pe_int (pe_ix (ix_K (x := "SIDES") (K' := K) (w' := w) rfl rfl T.e_SIDES DW.k_SIDES (DW.v_SIDES w)) (pe_glob (v := .ref T.C_SIDES) (by rfl) T.g_SIDES rfl) (pe_ix ix_tup (pv 0) pe_int (fun _ _ => rfl)) (fun _ _ => rfl))) (nomark _))))))))))))), ?_⟩
    have no : ¬ Shp z ds → ∀ H', Sam H H' → Q (.bl false) H' := fun z H' s => q H' false s ⟨fun e => (by cases e), fun e => absurd e z⟩
    obtain ⟨a, xs, rfl, np, ha, hx⟩ := hv.tupv
    cases hx with
    | cons t0 tr =>
    rename_i x0 ys
    obtain rfl := t0.strv
    have ll := tr.len
    have bdi := bd.itemsT.2
    have nb1 := bd.itemsT.1
    have each : ∀ e, e ∈ ds → Bd kb nb wb e := fun e he => (bdi.get (d := e) (List.mem_cons_of_mem _ he)).mono (Nat.le_refl _) (by omega) (Nat.le_refl _)
    refine ⟨.ref a, rfl, a, _, rfl, SqT.mk ha, ?_⟩
    have fin : z ≠ "make" ∨ ds.length ≠ 2 → z ≠ "keep" ∨ ds.length ≠ 3 → z ≠ "late" ∨ ds.length ≠ 2 → z ≠ "keeper" ∨ ds.length ≠ 5 → ∀ n, sideN z = n → (n = none → Q (.bl false) H) ∧ (∀ k, n = some k → Q (.bl (decide (V.int ((V.str z :: ys).length : Nat) = V.int (1 + k)))) H) := fun h1 h2 h3 h4 n hn => by
      subst hn
      refine ⟨fun e => no (fun s => ?_) H (Sam.refl H), fun k e => q H _ (Sam.refl H) ⟨fun y => ?_, fun s => ?_⟩⟩
      · rcases shp_len s e with ⟨a, b⟩ | ⟨a, b⟩ | ⟨a, b⟩ | ⟨a, b⟩
        · exact h1.elim (fun w => w a) (fun w => w b)
        · exact h2.elim (fun w => w a) (fun w => w b)
        · exact h3.elim (fun w => w a) (fun w => w b)
        · exact h4.elim (fun w => w a) (fun w => w b)
      · have y := V.int.inj (of_decide_eq_true y)
        rw [List.length_cons] at y
        have ek : k = (ds.length : Int) := by omega
        subst ek
        exact .side e
      · have w := side_words e
        have := shp_side s w.1 w.2.1 w.2.2.1 w.2.2.2
        rw [e] at this
        have := Option.some.inj this
        exact decide_eq_true (congrArg V.int (by rw [List.length_cons]; omega))
    by_cases l2 : ds.length = 2
    · obtain ⟨d1, d2, rfl⟩ : ∃ d1 d2, ds = [d1, d2] := by
        match ds, l2 with
        | [d1, d2], _ => exact ⟨d1, d2, rfl⟩
      obtain ⟨x1, x2, rfl, t1, t2⟩ := tr.two
      refine .inr ⟨z, [x1, x2], rfl, rfl, ?_⟩
      by_cases w1 : z = "make"
      · subst w1
        refine .inl ⟨rfl, x1, rfl, p, x1, d1, kb, nb, wb, rfl, t1, each d1 (by simp), nb60, tab, fun H1 r s1 hr => ⟨_, rfl, ?_⟩⟩
        cases r with
        | false =>
          refine iteF (no ?_ H1 s1)
          intro s
          obtain ⟨m, k, e, h1, h2⟩ := shp_make s
          cases e
          have := hr.mpr h1
          cases this
        | true =>
          refine iteT ⟨x2, rfl, p, x2, d2, 0, 64, rfl, t2.sam s1, q H1 _ s1 ⟨fun e => .make (hr.mp rfl) e, fun s => ?_⟩⟩
          obtain ⟨m, k, e, h1, h2⟩ := shp_make s
          cases e
          exact h2
      refine .inr ⟨w1, .inl ⟨by simp, .inr ⟨z, [x1, x2], rfl, rfl, ?_⟩⟩⟩
      by_cases w2 : z = "late"
      · subst w2
        refine .inl ⟨rfl, x2, rfl, p, x2, d2, rfl, t2, tah, fun H1 s1 => q H1 _ s1 ⟨fun e => .late e, fun s => ?_⟩⟩
        obtain ⟨m, k, e, h1⟩ := shp_late s
        cases e
        exact h1
      refine .inr ⟨w2, .inl ⟨by simp, ?_⟩⟩
      obtain ⟨f1, f2⟩ := fin (.inl w1) (.inr (by simp)) (.inl w2) (.inr (by simp)) _ rfl
      refine ⟨.ref a, rfl, a, _, 0, _, rfl, rfl, SqT.mk ha, atI_nat (j := 0) rfl, z, rfl, rfl, _, rfl, ?_⟩
      cases e : sideN z with
      | none => 
        rw [show dl_SIDES.lookup z = none from e]
        exact iteF (f1 e)
      | some n =>
        rw [show dl_SIDES.lookup z = some n from e]
        exact iteT ⟨.ref a, rfl, a, _, rfl, .inr (SqT.mk ha), .ref a, rfl, a, _, 0, _, rfl, rfl, SqT.mk ha, atI_nat (j := 0) rfl, z, n, rfl, rfl, e, _, _, rfl, rfl, rfl, f2 n e⟩
    by_cases l3 : ds.length = 3
    · obtain ⟨d1, d2, d3, rfl⟩ : ∃ d1 d2 d3, ds = [d1, d2, d3] := by
        match ds, l3 with
        | [d1, d2, d3], _ => exact ⟨d1, d2, d3, rfl⟩
      obtain ⟨x1, x2, x3, rfl, t1, t2, t3⟩ := tr.three
      refine .inl ⟨by simp, .inr ⟨z, [x1, x2, x3], rfl, rfl, ?_⟩⟩
      by_cases w1 : z = "keep"
      · subst w1
        refine .inl ⟨rfl, x3, rfl, p, x3, d3, rfl, t3, q H _ (Sam.refl H) ⟨fun e => .keep e, fun s => ?_⟩⟩
        obtain ⟨_, _, k, e, h1⟩ := shp_keep s
        cases e
        exact h1
      refine .inr ⟨w1, .inl ⟨by simp, .inl ⟨by simp, ?_⟩⟩⟩
      obtain ⟨f1, f2⟩ := fin (.inr (by simp)) (.inl w1) (.inr (by simp)) (.inr (by simp)) _ rfl
      refine ⟨.ref a, rfl, a, _, 0, _, rfl, rfl, SqT.mk ha, atI_nat (j := 0) rfl, z, rfl, rfl, _, rfl, ?_⟩
      cases e : sideN z with
      | none => 
        rw [show dl_SIDES.lookup z = none from e]
        exact iteF (f1 e)
      | some n =>
        rw [show dl_SIDES.lookup z = some n from e]
        exact iteT ⟨.ref a, rfl, a, _, rfl, .inr (SqT.mk ha), .ref a, rfl, a, _, 0, _, rfl, rfl, SqT.mk ha, atI_nat (j := 0) rfl, z, n, rfl, rfl, e, _, _, rfl, rfl, rfl, f2 n e⟩
    by_cases l5 : ds.length = 5
    · obtain ⟨d1, d2, d3, d4, d5, rfl⟩ : ∃ d1 d2 d3 d4 d5, ds = [d1, d2, d3, d4, d5] := by
        match ds, l5 with
        | [d1, d2, d3, d4, d5], _ => exact ⟨d1, d2, d3, d4, d5, rfl⟩
      cases tr with
      | cons t1 tr =>
      obtain ⟨x2, x3, x4, x5, rfl, t2, t3, t4, t5⟩ := tr.four
      rename_i x1
      refine .inl ⟨by simp, .inl ⟨by simp, .inl ⟨by simp, .inr ⟨z, [x1, x2, x3, x4, x5], rfl, rfl, ?_⟩⟩⟩⟩
      by_cases w1 : z = "keeper"
      · subst w1
        refine .inl ⟨rfl, x3, rfl, p, x3, d3, kb, nb, wb, rfl, t3, each d3 (by simp), nb60, tab, fun H1 r s1 hr => ⟨_, rfl, ?_⟩⟩
        cases r with
        | false =>
          refine iteF (no ?_ H1 s1)
          intro s
          obtain ⟨_, _, m, k, n, e, h1, _⟩ := shp_keeper s
          cases e
          have := hr.mpr h1
          cases this
        | true =>
          refine iteT ⟨x4, rfl, p, x4, d4, 1, 64, rfl, t4.sam s1, _, rfl, ?_⟩
          cases h4 : withinD d4 1 64 with
          | false =>
            refine iteF (no ?_ H1 s1)
            intro s
            obtain ⟨_, _, m, k, n, e, h1, b1, b2, _⟩ := shp_keeper s
            cases e
            exact within_no h4 ⟨b1, b2⟩
          | true =>
            obtain ⟨n, rfl, b1, b2⟩ := within_is h4
            obtain rfl := t4.intv
            refine iteT ⟨x5, rfl, _, rfl, p, x5, d5, 0, n, rfl, t5.sam s1, q H1 _ s1 ⟨fun e => .keeper (hr.mp rfl) b1 b2 e, fun s => ?_⟩⟩
            obtain ⟨_, _, m, k, n', e, h1, b1, b2, b3⟩ := shp_keeper s
            cases e
            exact b3
      refine .inr ⟨w1, ?_⟩
      obtain ⟨f1, f2⟩ := fin (.inr (by simp)) (.inr (by simp)) (.inr (by simp)) (.inl w1) _ rfl
      refine ⟨.ref a, rfl, a, _, 0, _, rfl, rfl, SqT.mk ha, atI_nat (j := 0) rfl, z, rfl, rfl, _, rfl, ?_⟩
      cases e : sideN z with
      | none => 
        rw [show dl_SIDES.lookup z = none from e]
        exact iteF (f1 e)
      | some n =>
        rw [show dl_SIDES.lookup z = some n from e]
        exact iteT ⟨.ref a, rfl, a, _, rfl, .inr (SqT.mk ha), .ref a, rfl, a, _, 0, _, rfl, rfl, SqT.mk ha, atI_nat (j := 0) rfl, z, n, rfl, rfl, e, _, _, rfl, rfl, rfl, f2 n e⟩
    have lle : (V.str z :: ys).length = ds.length + 1 := by rw [List.length_cons, ll]
    refine .inl ⟨by rw [lle]; show _ ≠ 2 + 1; omega, .inl ⟨by rw [lle]; show _ ≠ 3 + 1; omega, .inl ⟨by rw [lle]; show _ ≠ 2 + 1; omega, .inl ⟨by rw [lle]; show _ ≠ 5 + 1; omega, ?_⟩⟩⟩⟩
    obtain ⟨f1, f2⟩ := fin (.inr l2) (.inr l3) (.inr l2) (.inr l5) _ rfl
    refine ⟨.ref a, rfl, a, _, 0, _, rfl, rfl, SqT.mk ha, atI_nat (j := 0) rfl, z, rfl, rfl, _, rfl, ?_⟩
    cases e : sideN z with
    | none => 
      rw [show dl_SIDES.lookup z = none from e]
      exact iteF (f1 e)
    | some n =>
      rw [show dl_SIDES.lookup z = some n from e]
      exact iteT ⟨.ref a, rfl, a, _, rfl, .inr (SqT.mk ha), .ref a, rfl, a, _, 0, _, rfl, rfl, SqT.mk ha, atI_nat (j := 0) rfl, z, n, rfl, rfl, e, _, _, rfl, rfl, rfl, f2 n e⟩
/-! enumerate of a tuple -/
abbrev itObj (l : Addr) : Obj := { cls := .type "tuple_iterator", data := .fields #[.ref l, .int 0 0] }
abbrev enObj (a : Addr) : Obj := { cls := .type "enumerate", data := .fields #[.none, .bool false, .ref a, rawInt 0, .none, .none] }
set_option maxHeartbeats 1000000 in
theorem enum_newT (l : Addr) (items : Array Value) : Meets (Builtin.«enumerate.__new__» ⟨[.type "enumerate", .ref l], []⟩)
    (fun _ R s => s.heap.IsTuple l items ∧ R (.ok (.ret (.ref (s.heap.push (itObj l)).objs.size))) { s with heap := (s.heap.push (itObj l)).push (enObj s.heap.objs.size) }) :=
  .of_wp fun prog w A R s h => by
    obtain ⟨hp, g, d, tk, os⟩ := s
    obtain ⟨h1, h⟩ := h
    have hsub := sub_enumerate
    have q1 : ∀ {A' : Around} {E : Value → Shared → Prop} {Q : Value → Shared → Prop}, Q (.ref hp.objs.size) ⟨hp.push (itObj l), g, d, tk, os⟩ → wpAny (model prog w) A' (pyIter (.ref l)) Q E ⟨hp, g, d, tk, os⟩ := fun q => (begins_tuple l items).iter prog w _ _ ⟨hp, g, d, tk, os⟩ _ h1 q
    obtain ⟨⟨c, dct, dt, sl⟩, hl, hc, n, hd⟩ := h1
    replace hc : c = .type "tuple" := hc
    replace hd : dt = .seq items n := hd
    subst hc hd
    wp_walk using AutoSeq1.wpAny_loadPart' hl, q1
    refine wpAny_stack_any fun st => wpAny_pure ?_
    split
    · rename_i c _ _ _ _ _
      cases (c == Value.type "enumerate") <;> (wp_walk using AutoSeq1.wpAny_loadPart' hl, q1; exact ⟨_, rfl, h⟩)
    · wp_walk using AutoSeq1.wpAny_loadPart' hl, q1
      exact ⟨_, rfl, h⟩
theorem enum_callT {prog : Program} {w : World} {A : Around} {E : Value → Shared → Prop} {s : Shared} {l : Addr} {items : Array Value} {Q : Value → Shared → Prop} (hL : s.heap.IsTuple l items)
    (h : ∀ h', IsEnum h' (s.heap.objs.size + 1) s.heap.objs.size 0 .none → h'.IsTupleIter s.heap.objs.size l 0 → (∀ b o, s.heap.get? b = some o → h'.get? b = some o) → Q (.ref (s.heap.objs.size + 1)) { s with heap := h' }) :
    wpAny (model prog w) A (call (.type "enumerate") [.ref l]) Q E s := by
  refine callType_new F.called_enumerate (by decide) (F.typeCall_enumerate_1 _) (F.newCall_enumerate_1 _) (fun obj => F.args_object_init_2 obj _) F.entry_enumerate_new (enum_newT l items) ⟨hL, ?_⟩
  have hz : (s.heap.push (itObj l)).objs.size = s.heap.objs.size + 1 := Heap.size_push ..
  show _ ∧ _
  rw [hz]
  have he : IsEnum ((s.heap.push (itObj l)).push (enObj s.heap.objs.size)) (s.heap.objs.size + 1) s.heap.objs.size 0 .none := by
    have e := Heap.get?_push_size (s.heap.push (itObj l)) (o := enObj s.heap.objs.size) rfl
    rw [hz] at e
    exact e
  exact ⟨⟨_, he, rfl⟩, h _ he ⟨_, Heap.get?_push_of_some _ (Heap.get?_push_size _ rfl), rfl, rfl⟩ fun b o x => Heap.get?_push_of_some _ (Heap.get?_push_of_some _ x)⟩
/-- the tuple at a, each item in a new pair -/
def ItN (K : PySem.W.Frag) (a : Addr) : It :=
  ⟨fun i H => ∃ (xs : List V) (x : V), SqT K H a xs ∧ xs[i]? = some x, fun i H v H' => ∃ T x, v = .ref T ∧ H T = none ∧ H' = upd H T (.tup [.int (i : Nat), x]) ∧ ∀ xs, SqT K H a xs → xs[i]? = some x, fun i H => ∃ xs : List V, SqT K H a xs ∧ xs.length ≤ i⟩
theorem turn_N {P : Program} {w : World} {K : PySem.W.Frag} {elts : List Expr} {kk : Nat} {tpos : Pos} (a e it : Addr) (hae : a ≠ e) (hai : a ≠ it) :
    Turn P w K (.Tuple elts kk tpos) (ItN K a) [e, it] e (fun i h => (∃ old, IsEnum h e it ((i : Nat) : Int) old) ∧ h.IsTupleIter it a i ∧ e ≠ it) where
  mem := List.mem_cons_self
  obj := fun i h st b hb => by
    obtain ⟨⟨old, he⟩, ⟨o, ho, hc, hd⟩, _⟩ := st
    rcases List.mem_cons.mp hb with z | z
    · rw [z]
      exact ⟨_, he, fun v q => nomatch q⟩
    · rw [List.mem_singleton.mp z]
      exact ⟨o, ho, fun v q => by rw [hd] at q; cases q⟩
  keep := fun i h h' st k => let ⟨⟨old, he⟩, hi, hne⟩ := st; ⟨⟨old, k e List.mem_cons_self _ he⟩, hi.at fun o q => k it (List.mem_cons_of_mem _ List.mem_cons_self) o q, hne⟩
  item := by
    intro X hP hw hK hc i pins s σ H E I hf st hg
    subst hP hw hK
    obtain ⟨⟨old, he⟩, hit, hne⟩ := st
    obtain ⟨xs, x, hq, hx⟩ := hg
    obtain ⟨its, rv, p, hz⟩ := I.tuple hq
    obtain ⟨u, hu, ru⟩ := rv.get hx
    have hel : e < s.heap.objs.size := Heap.lt_size he
    have hil : it < s.heap.objs.size := by
      obtain ⟨_, q, _⟩ := hit
      exact Heap.lt_size q
    have hlt : i < its.toArray.size := by
      rw [List.size_toArray]
      exact (List.getElem?_eq_some_iff.mp hu).1
    refine wpAny_pyNext_enum_itemD (Draws.tuple (A := X.A.in1) (I.ok.hd hc) it a hai its.toArray) he ⟨hit, (show s.heap.IsTuple a its.toArray from p)⟩ hlt hne (fun z => ?_) fun x' h' tk hP' ho hst' hT hsz hk => ?_
    · rcases List.mem_cons.mp z with z | z
      · exact hne z
      · exact hae (List.mem_singleton.mp z).symm
    have ex : x' = u := by
      have hP' : its.toArray[i]? = some x' := hP'
      have hu' : its.toArray[i]? = some u := by simpa using hu
      rw [hu'] at hP'
      exact (Option.some.inj hP').symm
    subst ex
    refine ⟨_, rfl, wpAny_letOwnedTupleGo_enum (s := { s with heap := h', toks := tk + 1 }) ho fun h'' he' sb => ?_⟩
    have hT2 : h''.get? s.heap.objs.size = some { cls := .type "tuple", data := .seq #[.int i tk, x'] } := (sb.2 _ (Nat.ne_of_gt hel)).trans hT
    have new : ObjOk X.prog X.w (upd H s.heap.objs.size (.tup [.int (i : Nat), x])) h'' s.heap.objs.size (.tup [.int (i : Nat), x]) := ⟨(show 2 ≤ sizeLine by decide), [.int i tk, x'], .cons ⟨_, rfl⟩ (.cons ru .nil), ⟨_, hT2, rfl, _, rfl⟩⟩
    have I1 : Inv X pins σ (upd H s.heap.objs.size (.tup [.int (i : Nat), x])) { s with heap := h'', toks := tk + 1 } :=
      I.turnedNew (ch := [e, it]) (fun b ob hb q => (sb.2 b (fun z => hb (by rw [z]; exact List.mem_cons_self))).trans (hk b ob (fun z => hb (by rw [z]; exact List.mem_cons_self)) (fun z => hb (by rw [z]; exact List.mem_cons_of_mem _ List.mem_cons_self)) q)) hf (Nat.le_refl _) new
    refine ⟨.ref s.heap.objs.size, _, I1, rfl, ⟨_, x, rfl, I.hok.fresh (Nat.le_refl _), rfl, fun ys hy => by rw [I.tuple_inj hy hq]; exact hx⟩, ⟨⟨x', ?_⟩, hst'.1.at fun o q => (sb.2 it (Ne.symm hne)).trans q, hne⟩, fun b hb => ?_⟩
    · rw [show ((i + 1 : Nat) : Int) = (i : Int) + 1 by omega]
      exact he'
    · have hb' : b < s.heap.objs.size := by
        rcases List.mem_cons.mp hb with z | z
        · rw [z]
          exact hel
        · rw [List.mem_singleton.mp z]
          exact hil
      rw [upd_ne (Nat.ne_of_lt hb')]
      exact (hf b hb).1
  done := by
    intro X hP hw hK hc i pins s σ H E I hf st hg
    subst hP hw hK
    obtain ⟨⟨old, he⟩, hit, hne⟩ := st
    obtain ⟨xs, hq, hx⟩ := hg
    obtain ⟨its, rv, p, hz⟩ := I.tuple hq
    obtain ⟨f0, f1, f2, f3, f4, f5⟩ := hf it (List.mem_cons_of_mem _ List.mem_cons_self)
    have hl := rv.length
    have hT : s.TypeIs (.ref e) "enumerate" := ⟨_, he, rfl⟩
    have hend : its.toArray[i]? = none := by
      rw [List.getElem?_toArray, List.getElem?_eq_none (by omega)]
    unfold pyNext
    refine wpAny_bind (wpAny_attempt (wpAny_callSpecial?_slot (name := Str.ofString "__next__") hT F.slot_enumerate_next (wpAny_call_entry F.slot_enumerate_next hT F.entry_enumerate_next ?_ (F.args_enumerate_next_1 _))))
    show wpAny _ _ (field (.ref e) 2 >>= _) _ _ _
    refine wpAny_bind (wpAny_field he rfl (x := .ref it) rfl ?_)
    refine wpAny_bind (wpAny_nextOf_tuple_end (I.ok.hd hc) hit (show s.heap.IsTuple a its.toArray from p) hend fun h' x eb hx' => ?_)
    obtain ⟨o, ho, hcl⟩ := hx'
    refine wpAny_bind (wpAny_isInstance (T := "StopIteration") (b := true) ⟨o, ho, hcl⟩ isSubtype_stop ?_)
    exact wpAny_pure ⟨rfl, I.turned (t' := s.toks) (fun b o hb q => eb b o hb q) f0 f1 f3 f4 f5⟩
  self := fun A i s Q E st h => let ⟨⟨_, he⟩, _⟩ := st; wpAny_pyIter_enum he h
def iEnumT (K : PySem.W.Frag) (ta : TA) : TI := fun σ H R => ta σ H fun vs H1 => ∃ a xs, vs = [.ref a] ∧ SqT K H1 a xs ∧ R (ItN K a) H1
theorem pi_enumT {X : Cx} {e : Expr} {ta : TA} {p pos tpos : Pos} {elts : List Expr} {kk : Nat} (hg : Gl X "enumerate") (hm : X.mg "enumerate" = none) (ha : PA X [e] ta) (hs : starEach [e] X.env = [(false, eval e X.env)] := by rfl) :
    PI X (.Tuple elts kk tpos) (.Call (.Name "enumerate" p) [e] [] pos) (iEnumT X.K ta) := by
  refine ⟨fun pins s σ H R I h => ?_⟩
  refine Call_ (ld_blt I hg hm boot_enumerate (PyProof.Rows.callWith_type1 (thn (ha.run pos pins s σ H _ I h) fun us s1 ⟨vs, H1, I1, r1, q1⟩ => ?_) hs rfl))
  obtain ⟨a, xs, ex, hq, q⟩ := q1
  subst ex
  rw [Vals.ref1 r1]
  obtain ⟨its, rv, p', hz⟩ := I1.tuple hq
  have lta : a < s1.heap.objs.size := by
    obtain ⟨o, ho, _⟩ := id p'
    exact Heap.lt_size ho
  refine enum_callT (show s1.heap.IsTuple a its.toArray from p') fun h' he hit hk => wpAny_pyIter_enum he ?_
  have I2 : Inv X pins σ H1 { s1 with heap := h' } := I1.kept (t' := s1.toks) hk
  refine ⟨s1.heap.objs.size + 1, [s1.heap.objs.size + 1, s1.heap.objs.size], _, _, H1, rfl, I2, turn_N a (s1.heap.objs.size + 1) s1.heap.objs.size (Nat.ne_of_lt (Nat.lt_succ_of_lt lta)) (Nat.ne_of_lt lta), ⟨⟨.none, he⟩, hit, Nat.succ_ne_self _⟩, fun b hb => ?_, q⟩
  have hle : s1.heap.objs.size ≤ b := by
    rcases List.mem_cons.mp hb with z | z
    · rw [z]
      exact Nat.le_succ _
    · rw [List.mem_singleton.mp z]
      exact Nat.le_refl _
  exact I1.fpOk hle (I1.hok.fresh hle)
theorem walk_enumT {K : PySem.W.Frag} {a : Addr} {xs : List V} : Walk (ItN K a) xs.length (fun H => SqT K H a xs) (YPair (fun i => some (.int (i : Nat))) (fun i => xs[i]?)) := by
  refine ⟨fun i _ hi q => ⟨xs, xs[i], q, List.getElem?_eq_getElem hi⟩, fun _ q => ⟨xs, q, Nat.le_refl _⟩, fun i H v H' _ q y => ?_⟩
  obtain ⟨T, x, h1, h2, h3, h4⟩ := y
  exact ⟨T, .int (i : Nat), x, h1, h2, h3, rfl, h4 xs q⟩
structure MTab {K : PySem.W.Frag} {mg : Str → Option Value} (T : Defs K mg) (H : Hp) : Prop where
  tb : GxR.TabG H T.P_is_table
  ah : GxR.TabG H T.P_is_ahead
  pc : GxR.TabG H T.P_is_piece
theorem MTab.sam {T : Defs K mg} {H H' : Hp} (h : MTab T H) (s : Sam H H') : MTab T H' := ⟨s.tabG h.tb, s.tabG h.ah, s.tabG h.pc⟩
def sp_is_piece {K : PySem.W.Frag} {mg : Str → Option Value} (T : Defs K mg) : Sp := fun vs H Q _ => ∃ (p : Addr → Prop) (v : V) (d : PyData) (number many kb nb wb : Nat), vs = [v, .int (number : Nat), .int (many : Nat)] ∧ Tg p H v d ∧ Bd kb nb wb d ∧ nb ≤ 60 ∧ MTab T H ∧ ∀ H' r, Sam H H' → (r = true ↔ Pc number many d) → Q (.bl r) H'
theorem lk_in (z : Str) : inV (.str z) [.str "late", .str "keeper"] = decide (z = "late" ∨ z = "keeper") := by
  by_cases h1 : z = "late"
  · subst h1
    rw [decide_eq_true (.inl rfl)]
    decide +kernel
  by_cases h2 : z = "keeper"
  · subst h2
    rw [decide_eq_true (.inr rfl)]
    decide +kernel
  rw [decide_eq_false (fun e => e.elim h1 h2)]
  show (eqV (.str "late") (.str z) || (eqV (.str "keeper") (.str z) || false)) = false
  have e1 : eqV (.str "late") (.str z) = false := by
    show (("late" : Str) == z) = false
    exact beq_false_of_ne fun e => h1 e.symm
  have e2 : eqV (.str "keeper") (.str z) = false := by
    show (("keeper" : Str) == z) = false
    exact beq_false_of_ne fun e => h2 e.symm
  rw [e1, e2]
  rfl
theorem ok_is_piece (T : Defs K mg) (TT : Tabs T base) : FnOk P w K mg base CX0 12 T.f_is_piece T.fd_is_piece ["thing", "number", "many"] (sp_is_piece T) := by
  have G_is_shaped : FnOk P w K mg base CX0 11 T.f_is_shaped T.fd_is_shaped ["piece"] (sp_is_shaped T) := ok_is_shaped T TT
  have G_is_within : FnOk P w K mg base CX0 2 T.f_is_within T.fd_is_within ["thing", "least", "greatest"] (sp_is_within K) := ok_is_within T TT
  have G_asks_of : FnOk P w K mg base CX0 1 T.f_asks_of T.fd_asks_of ["piece"] (sp_asks_of K) := ok_asks_of T TT
  refine okC T.F_is_piece T.k_is_piece sc_is_piece (fun vs H Q E h => ?_) (fun A outer s H vs Q E hr h => ?_)
  · obtain ⟨p, v, d, number, many, kb, nb, wb, rfl, hv, bd, nb60, tab, q⟩ := h
    rfl
  · obtain ⟨p, v, d, number, many, kb, nb, wb, rfl, hv, bd, nb60, tab, q⟩ := h
    refine ⟨_, PSs.nox (pss_cons (ps_if (PW.pt (pw_or (pt_not (pt_val (pe_callB call_isi (by rfl) T.m_isinstance bt_isinstance (pa_cons (pv 0) (pa_cons (pe_bltn (v := .ty "tuple") (by rfl) T.m_tuple bt_tuple rfl) pa_nil))))) (pw_or (pt_not (pt_truth (pv 0) (by intro _; rfl))) (pw_or (pt_not (pt_val (pe_callB call_isi (by rfl) T.m_isinstance bt_isinstance (pa_cons (pe_ix ix_tup (pv 0) pe_int (fun _ _ => rfl)) (pa_cons (pe_bltn (v := .ty "str") (by rfl) T.m_str bt_str rfl) pa_nil))))) (pw_or1 (pt_not (pt_val (pe_call G_is_shaped (hr.mono (by decide)) (by rfl) T.g_is_shaped T.F_is_shaped.kp T.b_is_shaped .nil pass0 (pa_cons (pv 0) pa_nil))))))))) (pss_one (ps_ret pe_bl)) pss_nil)
    (pss_cons (ps_set (i := 3) sc_is_piece.nd rfl (.inr rfl) (pe_ifExp (pt_cmpR op_in_seq (pe_ix ix_tup (pv 0) pe_int (fun _ _ => rfl)) (pe_tup (pa_cons pe_str (pa_cons pe_str pa_nil))) rfl) (pe_op op_sub (pv 2) pe_int) (pe_op op_sub (pv 1) pe_int)))
    (pss_one (ps_ret (pe_allE (k := 10) (own := [("asked", 4)]) (g := gName 4) (tt := tYes) (hr.mono (by decide)) (by rfl) T.m_all bt_all rfl sc_is_piece.nd TT.t_is_piece rfl (genOk_by (N := N_is_piece) (sc := defScope s_is_piece) (own := [("asked", 4)]) (by decide +kernel) rfl (by decide +kernel) rfl) (pi_tup (pe_call G_asks_of (hr.mono (by decide)) (by rfl) T.g_asks_of T.F_asks_of.kp T.b_asks_of .nil pass0 (pa_cons (pv 0) pa_nil))) (fun _ _ _ _ _ hr => (pg_name (i := 4) sc_is_piece.nd rfl (.inl rfl))) (fun _ _ _ _ _ hr => pts_nil) (fun _ _ _ _ _ hr => (pe_call G_is_within (hr.mono (by decide)) (by rfl) T.g_is_within T.F_is_within.kp T.b_is_within .nil pass0 (pa_cons (pv 4) (pa_cons pe_int (pa_cons (pv 3) pa_nil)))))))))), ?_⟩
    have no : ¬ Pc number many d → ∀ H', Sam H H' → Q (.bl false) H' := fun z H' s => q H' false s ⟨fun e => (by cases e), fun e => absurd e z⟩
    obtain ⟨t, ty, -, -, kt, -, -⟩ := hv.ty (K := K)
    refine ⟨v, rfl, _, _, _, _, _, rfl, .ty "tuple", ty, kt, _, rfl, ?_⟩
    cases d with
    | tuple ds =>
      obtain ⟨a, xs, rfl, np, ha, hx⟩ := hv.tupv
      refine iteF ⟨.ref a, rfl, !xs.isEmpty, .inr (.inl ⟨xs, SqT.mk ha, rfl⟩), ?_⟩
      cases hx with
      | nil =>
        refine iteT (no ?_ H (Sam.refl H))
        rintro ⟨z, ds, n, e, _⟩
        cases e
      | cons t0 tr =>
      rename_i x0 ys d0 dr
      obtain ⟨ty0, tyx, -, -, -, ks, -⟩ := t0.ty (K := K)
      refine iteF ⟨.ref a, rfl, a, _, 0, _, rfl, rfl, SqT.mk ha, atI_nat (j := 0) rfl, _, _, _, _, _, rfl, .ty "str", tyx, ks, _, rfl, ?_⟩
      cases d0 with
      | str z =>
        obtain rfl := t0.strv
        refine iteF ⟨.ref a, rfl, p, .ref a, z, dr, kb, nb, wb, rfl, hv, bd, nb60, tab.tb, tab.ah, fun H1 r s1 hr => ⟨_, rfl, ?_⟩⟩
        cases r with
        | false =>
          refine iteT (no ?_ H1 s1)
          rintro ⟨z', ds', n, e, hs, _⟩
          cases e
          have := hr.mpr hs
          cases this
        | true =>
        have hs := hr.mp rfl
        obtain ⟨n, hn, n3⟩ := shp_ask hs
        obtain ⟨g, hg⟩ : ∃ g : Int, (if z = "late" ∨ z = "keeper" then (many : Int) - 1 else (number : Int) - 1) = g := ⟨_, rfl⟩
        have pc : Pc number many (.tuple (.str z :: dr)) ↔ ∀ e, e ∈ dr.take n → withinD e 0 g = true := by
          constructor
          · rintro ⟨z', ds', n', e, _, h2, h3⟩
            cases e
            rw [hn] at h2
            cases h2
            rw [hg] at h3
            exact h3
          · intro h
            exact ⟨z, dr, (n : Int), rfl, hs, hn, by rw [hg]; exact h⟩
        have ha1 := s1.tup ha
        refine iteF ?_
        refine nx_via (fun σ X => σ = [some (.ref a), some (.int (number : Nat)), some (.int (many : Nat)), some (.int g), none] ∧ Sam H X) (fun N key => ?_) ?_
        · refine ⟨.ref a, rfl, a, _, 0, _, rfl, rfl, SqT.mk ha1, atI_nat (j := 0) rfl, (show 2 ≤ sizeLine by decide), fun tq ntq => ⟨tq, _, rfl, .inr (SqT.mk upd_same), rfl, rfl, _, rfl, ?_⟩⟩
          have s2 := s1.trans (Sam.of (same_upd ntq (o := .tup [.str "late", .str "keeper"])))
          rw [if_neg Bool.false_ne_true, lk_in]
          by_cases w : z = "late" ∨ z = "keeper"
          · rw [decide_eq_true w]
            rw [if_pos w] at hg
            refine iteT ⟨_, rfl, _, _, rfl, rfl, ?_⟩
            try dsimp only
            rw [hg]
            exact key _ _ ⟨rfl, s2⟩
          · rw [decide_eq_false w]
            rw [if_neg w] at hg
            refine iteF ⟨_, rfl, _, _, rfl, rfl, ?_⟩
            try dsimp only
            rw [hg]
            exact key _ _ ⟨rfl, s2⟩
        rintro σ X ⟨rfl, sX⟩
        have tr2 : ∀ Y, Sam H Y → TgA p Y (ys.take n) (dr.take n) := fun Y s => ((tr.split n).1).sam s
        refine ⟨.ref a, rfl, a, z, ys, n, rfl, sX.tup ha, hn, fun X1 t1 sX1 ht1 => ⟨t1, rfl, ⟨_, SqT.mk ht1⟩, (tab.sam (sX.trans (Sam.of sX1))).pc, fun X2 tb => ?_⟩⟩
        have sX1' := sX.trans (Sam.of sX1)
        have s12 := Sam.tabbed (tab.sam sX1').pc tb
        have ll := tr.len
        refine ga_it (walk_tup (xs := ys.take n)) (fun i H3 => Sam X1 H3 ∧ ∀ j y, j < i → (dr.take n)[j]? = some y → withinD y 0 g = true) ⟨s12, fun j y hj => absurd hj (Nat.not_lt_zero j)⟩ (fun i H3 _ h => SqT.mk (h.1.tup ht1)) ?_ ?_
        · rintro i x H3 H4 hi ⟨s3, hb⟩ ⟨rfl, hx⟩
          obtain ⟨e, he, tx⟩ := (tr2 _ (sX1'.trans s3)).get hx
          refine ⟨rfl, yes_ite ?_⟩
          refine ⟨x, rfl, _, rfl, p, x, e, 0, g, rfl, tx, ⟨withinD e 0 g, rfl, fun zz => ?_⟩, fun zz => ⟨s3, all_take _ _ i e he hb (by injection zz)⟩⟩
          refine no (fun y => ?_) _ (sX1'.trans s3)
          rw [pc.mp y e (List.mem_of_getElem? he)] at zz
          cases zz
        · rintro H3 ⟨s3, hb⟩
          refine q _ true (sX1'.trans s3) ⟨fun _ => pc.mpr fun e he => ?_, fun _ => rfl⟩
          obtain ⟨j, hj⟩ := List.getElem?_of_mem he
          have hj2 := (List.getElem?_eq_some_iff.mp hj).1
          have l1 : (ys.take n).length = (dr.take n).length := by rw [List.length_take, List.length_take, ll]
          exact hb j e (by omega) hj
      | _ => exact iteT (no (by rintro ⟨z, ds, n, e, _⟩; cases e) H (Sam.refl H))
    | _ => exact iteT (no (by rintro ⟨z, ds, n, e, _⟩; cases e) H (Sam.refl H))
def sp_is_machine {K : PySem.W.Frag} {mg : Str → Option Value} (T : Defs K mg) : Sp := fun vs H Q _ => ∃ (p : Addr → Prop) (v : V) (d : PyData) (kb nb wb : Nat), vs = [v] ∧ Tg p H v d ∧ Bd kb nb wb d ∧ nb ≤ 60 ∧ MTab T H ∧ GxR.TabG H T.P_is_machine ∧ ∀ H' r, Sam H H' → (r = true ↔ isMc d) → Q (.bl r) H'
theorem ok_is_machine (T : Defs K mg) (TT : Tabs T base) : FnOk P w K mg base CX0 14 T.f_is_machine T.fd_is_machine ["thing"] (sp_is_machine T) := by
  have G_is_piece : FnOk P w K mg base CX0 12 T.f_is_piece T.fd_is_piece ["thing", "number", "many"] (sp_is_piece T) := ok_is_piece T TT
  refine okC T.F_is_machine T.k_is_machine sc_is_machine (fun vs H Q E h => ?_) (fun A outer s H vs Q E hr h => ?_)
  · obtain ⟨p, v, d, kb, nb, wb, rfl, hv, bd, nb60, mt, tab, q⟩ := h
    rfl
  · obtain ⟨p, v, d, kb, nb, wb, rfl, hv, bd, nb60, mt, tab, q⟩ := h
    refine ⟨_, PSs.nox (pss_cons (ps_if (PW.pt (pw_or (pt_not (pt_val (pe_callB call_isi (by rfl) T.m_isinstance bt_isinstance (pa_cons (pv 0) (pa_cons (pe_bltn (v := .ty "tuple") (by rfl) T.m_tuple bt_tuple rfl) pa_nil))))) (pw_or1 (pt_not (pt_chain op_le op_le pe_int (pe_callB call_len_seq (by rfl) T.m_len bt_len (pa_cons (pv 0) pa_nil)) (pe_globI (by rfl) T.i_MOST_PIECES)))))) (pss_one (ps_ret pe_bl)) pss_nil)
    (pss_one (ps_ret (pe_allE (k := 12) (own := [("number", 1), ("piece", 2)]) (g := gTup K 2 (gCons (gName 1) (gCons (gName 2) gNil))) (tt := tYes) (hr.mono (by decide)) (by rfl) T.m_all bt_all rfl sc_is_machine.nd TT.t_is_machine rfl (genOk_by (N := N_is_machine) (sc := defScope s_is_machine) (own := [("number", 1), ("piece", 2)]) (by decide +kernel) rfl (by decide +kernel) rfl) (pi_enumT (by rfl) T.m_enumerate (pa_cons (pv 0) pa_nil)) (fun _ _ _ _ _ hr => (pg_tupK (K := K) rfl rfl (pgs_cons (pg_name (i := 1) sc_is_machine.nd rfl (.inl rfl)) (pgs_cons (pg_name (i := 2) sc_is_machine.nd rfl (.inl rfl)) pgs_nil)))) (fun _ _ _ _ _ hr => pts_nil) (fun _ _ _ _ _ hr => (pe_call G_is_piece (hr.mono (by decide)) (by rfl) T.g_is_piece T.F_is_piece.kp T.b_is_piece .nil pass0 (pa_cons (pv 2) (pa_cons (pv 1) (pa_cons (pe_callB (lenK (K := K) rfl) (by rfl) T.m_len bt_len (pa_cons (pv 0) pa_nil)) pa_nil))))))))), ?_⟩
    have no : ¬ isMc d → ∀ H', Sam H H' → Q (.bl false) H' := fun z H' s => q H' false s ⟨fun e => (by cases e), fun e => absurd e z⟩
    obtain ⟨t, ty, -, -, kt, -, -⟩ := hv.ty (K := K)
    refine ⟨v, rfl, _, _, _, _, _, rfl, .ty "tuple", ty, kt, _, rfl, ?_⟩
    cases d with
    | tuple ds =>
      obtain ⟨a, xs, rfl, np, ha, hx⟩ := hv.tupv
      have ll := hx.len
      have bdi := bd.itemsT.2
      have nb1 := bd.itemsT.1
      refine iteF ⟨.ref a, rfl, a, _, rfl, .inr (SqT.mk ha), _, _, rfl, rfl, _, rfl, ?_⟩
      by_cases c1 : (1 : Int) ≤ (xs.length : Nat)
      rotate_left
      · rw [decide_eq_false c1]
        refine iteF ⟨_, rfl, iteT (no ?_ H (Sam.refl H))⟩
        rintro ⟨ds', e, l, _⟩
        cases e
        omega
      rw [decide_eq_true c1]
      refine iteT ⟨_, _, rfl, rfl, _, rfl, ?_⟩
      by_cases c2 : ((xs.length : Nat) : Int) ≤ 24
      rotate_left
      · rw [decide_eq_false c2]
        refine iteT (no ?_ H (Sam.refl H))
        rintro ⟨ds', e, _, l, _⟩
        cases e
        omega
      rw [decide_eq_true c2]
      refine iteF ⟨.ref a, rfl, a, _, rfl, SqT.mk ha, tab, fun H2 tb => ?_⟩
      have s2 := Sam.tabbed tab tb
      refine ga_it (walk_enumT (K := K) (a := a) (xs := xs)) (fun i H3 => Sam H H3 ∧ ∀ j e, j < i → ds[j]? = some e → Pc j ds.length e) ⟨s2, fun j y hj => absurd hj (Nat.not_lt_zero j)⟩ (fun i H3 _ h => SqT.mk (h.1.tup ha)) ?_ ?_
      · rintro i x H3 H4 hi ⟨s3, hb⟩ ⟨t5, x1, x2, rfl, nt5, rfl, e1, e2⟩
        have e1 : some (V.int (i : Nat)) = some x1 := e1
        cases e1
        obtain ⟨e, he, tx⟩ := hx.get e2
        have s4 := s3.trans (Sam.of (same_upd nt5 (o := .tup [.int (i : Nat), x2])))
        refine ⟨t5, _, rfl, SqT.mk upd_same, rfl, _, _, rfl, _, _, rfl, rfl, rfl, yes_ite ?_⟩
        refine ⟨x2, rfl, _, rfl, .ref a, rfl, a, _, rfl, .inr (SqT.mk (s4.tup ha)), p, x2, e, i, ds.length, kb, nb, wb, ?_, tx.sam s4, (bdi.get (List.mem_of_getElem? he)).mono (Nat.le_refl _) (by omega) (Nat.le_refl _), nb60, mt.sam s4, fun H5 r s5 hr => ⟨⟨r, rfl, fun zz => ?_⟩, fun zz => ⟨s4.trans s5, fun j y hj ey => ?_⟩⟩⟩
        · rw [ll]
          rfl
        · refine no (fun y => ?_) _ (s4.trans s5)
          obtain ⟨ds', e', _, _, hp⟩ := y
          cases e'
          have := hr.mpr (hp i e he)
          rw [this] at zz
          cases zz
        · by_cases z : j < i
          · exact hb j y z ey
          · obtain rfl : j = i := by omega
            rw [he] at ey
            cases ey
            exact hr.mp (V.bl.inj zz)
      · rintro H3 ⟨s3, hb⟩
        refine q _ true s3 ⟨fun _ => ⟨ds, rfl, by omega, by omega, fun i e he => hb i e ?_ he⟩, fun _ => rfl⟩
        have := (List.getElem?_eq_some_iff.mp he).1
        omega
    | _ => exact iteT (no (by rintro ⟨ds, e, _⟩; cases e) H (Sam.refl H))
/-! two lists of the same numbers -/
theorem dp_ints {K : PySem.W.Frag} {H : Hp} : ∀ ns : List Int, DpAll K H (ns.map V.int) (ns.map PyData.int)
  | [] => .nil
  | x :: r => .cons (.int x) (dp_ints r)
theorem sh_ints (ns : List Int) : SeqAt.shaped (.list (ns.map PyData.int)) = true := by
  have h1 : PyData.canLayAll0 (ns.map PyData.int) = true := by
    induction ns with
    | nil => rfl
    | cons x r ih =>
      show (PyData.canLay0 (.int x) && PyData.canLayAll0 (r.map PyData.int)) = true
      rw [ih]
      rfl
  have h2 : PyData.depthAll (ns.map PyData.int) = 0 := by
    induction ns with
    | nil => rfl
    | cons x r ih =>
      show max (PyData.depth (.int x)) (PyData.depthAll (r.map PyData.int)) = 0
      rw [ih (by
        have : (PyData.canLay0 (.int x) && PyData.canLayAll0 (r.map PyData.int)) = true := h1
        exact (Bool.and_eq_true_iff.mp this).2)]
      rfl
  show (PyData.canLayAll0 (ns.map PyData.int) && decide (PyData.depthAll (ns.map PyData.int) + 1 ≤ 64)) = true
  rw [h1, h2]
  rfl
theorem eqv_ints (ns : List Int) : PyData.eqv (.list (ns.map PyData.int)) (.list (ns.map PyData.int)) = true := by
  have : PyData.eqvAll (ns.map PyData.int) (ns.map PyData.int) = true := by
    induction ns with
    | nil => rfl
    | cons x r ih =>
      show (PyData.eqv (.int x) (.int x) && PyData.eqvAll (r.map PyData.int) (r.map PyData.int)) = true
      rw [ih]
      show ((x == x) && true) = true
      simp
  exact this
theorem neL {K : PySem.W.Frag} {H : Hp} {a b : Addr} {ns ms : List Int} (ha : H a = some (.lst (ns.map V.int))) (hb : H b = some (.lst (ms.map V.int))) (e : ns = ms) {Q : VK} (q : Q (.bl false) H) : rNeD K (.ref a) (.ref b) H Q := by
  subst e
  refine ⟨_, _, .lst (SqL.mk ha) (dp_ints ns), .lst (SqL.mk hb) (dp_ints ns), sh_ints ns, sh_ints ns, ?_⟩
  rw [eqv_ints]
  exact q
/-! texts of formulas and of what is told of them -/
def Fm.data : Fm → PyData
  | .inp i => .tuple [.str "in", .int (i : Nat)]
  | .less f => .tuple [.str "less", f.data]
  | .both f g => .tuple [.str "both", f.data, g.data]
  | .either f g => .tuple [.str "either", f.data, g.data]
  | .oneof f g => .tuple [.str "oneof", f.data, g.data]
  | .pick f g h => .tuple [.str "pick", f.data, g.data, h.data]
theorem fm_dp {K : PySem.W.Frag} {H : Hp} : ∀ {f : Fm} {v : V}, FmAt H f v → Dp K H v f.data
  | .inp i, _, ⟨_, rfl, h⟩ => .tup (SqT.mk h) (.cons (.str _) (.cons (.int _) .nil))
  | .less f, _, ⟨_, _, rfl, h, h1⟩ => .tup (SqT.mk h) (.cons (.str _) (.cons (fm_dp h1) .nil))
  | .both f g, _, ⟨_, _, _, rfl, h, h1, h2⟩ => .tup (SqT.mk h) (.cons (.str _) (.cons (fm_dp h1) (.cons (fm_dp h2) .nil)))
  | .either f g, _, ⟨_, _, _, rfl, h, h1, h2⟩ => .tup (SqT.mk h) (.cons (.str _) (.cons (fm_dp h1) (.cons (fm_dp h2) .nil)))
  | .oneof f g, _, ⟨_, _, _, rfl, h, h1, h2⟩ => .tup (SqT.mk h) (.cons (.str _) (.cons (fm_dp h1) (.cons (fm_dp h2) .nil)))
  | .pick f g k, _, ⟨_, _, _, _, rfl, h, h1, h2, h3⟩ => .tup (SqT.mk h) (.cons (.str _) (.cons (fm_dp h1) (.cons (fm_dp h2) (.cons (fm_dp h3) .nil))))
theorem shs_t {k n w : Nat} {ds : List PyData} (a : lvsA k ds = true) (b : PyData.depthAll ds ≤ n) (c : PyData.weightAll ds ≤ w) : Shs k (n + 1) w (.tuple ds) := ⟨by simpa only [lvs] using a, by simp only [PyData.depth]; omega, by simpa only [PyData.weight] using c⟩
theorem wd_ok (s : Str) (h : (s.cps.toList.all fun c => decide (c < 16 ^ 8)) = true) (w : s.cps.size ≤ 12) : Shs 12 0 12 (.str s) := shs_str h w
theorem s_in : Shs 12 0 12 (.str "in") := wd_ok _ (by decide +kernel) (by decide +kernel)
theorem s_less : Shs 12 0 12 (.str "less") := wd_ok _ (by decide +kernel) (by decide +kernel)
theorem s_both : Shs 12 0 12 (.str "both") := wd_ok _ (by decide +kernel) (by decide +kernel)
theorem s_either : Shs 12 0 12 (.str "either") := wd_ok _ (by decide +kernel) (by decide +kernel)
theorem s_oneof : Shs 12 0 12 (.str "oneof") := wd_ok _ (by decide +kernel) (by decide +kernel)
theorem s_pick : Shs 12 0 12 (.str "pick") := wd_ok _ (by decide +kernel) (by decide +kernel)
theorem shs_2 {k n w v m : Nat} {a b : PyData} (h : Shs k 0 w a) (g : Shs k n v b) (e : w + v + 2 ≤ m) : Shs k (n + 1) m (.tuple [a, b]) := shs_t (by simp only [lvsA, h.l, g.l]; rfl) (by have := h.dp; have := g.dp; simp only [PyData.depthAll]; omega) (by have := h.wt; have := g.wt; simp only [PyData.weightAll]; omega)
theorem shs_3 {k n w v u m : Nat} {a b c : PyData} (h : Shs k 0 w a) (g : Shs k n v b) (j : Shs k n u c) (e : w + v + u + 3 ≤ m) : Shs k (n + 1) m (.tuple [a, b, c]) := shs_t (by simp only [lvsA, h.l, g.l, j.l]; rfl) (by have := h.dp; have := g.dp; have := j.dp; simp only [PyData.depthAll]; omega) (by have := h.wt; have := g.wt; have := j.wt; simp only [PyData.weightAll]; omega)
theorem shs_4 {k n w v u x m : Nat} {a b c d : PyData} (h : Shs k 0 w a) (g : Shs k n v b) (j : Shs k n u c) (i : Shs k n x d) (e : w + v + u + x + 4 ≤ m) : Shs k (n + 1) m (.tuple [a, b, c, d]) := shs_t (by simp only [lvsA, h.l, g.l, j.l, i.l]; rfl) (by have := h.dp; have := g.dp; have := j.dp; have := i.dp; simp only [PyData.depthAll]; omega) (by have := h.wt; have := g.wt; have := j.wt; have := i.wt; simp only [PyData.weightAll]; omega)
theorem fm_shs : ∀ {f : Fm}, (∀ i, i ∈ f.ins → i < 6) → Shs 12 f.dep (80 * f.sz) f.data
  | .inp i, h => shs_2 s_in (shs_int (i := (i : Int)) (by have := h i List.mem_cons_self; omega)) (by simp only [Fm.sz]; decide)
  | .less f, h => shs_2 s_less (fm_shs (f := f) h) (by simp only [Fm.sz]; omega)
  | .both f g, h => by
    have a := fm_shs (f := f) fun i hi => h i (List.mem_append_left _ hi)
    have b := fm_shs (f := g) fun i hi => h i (List.mem_append_right _ hi)
    exact shs_3 s_both (a.mono (Nat.le_max_left _ _) (Nat.le_refl _)) (b.mono (Nat.le_max_right _ _) (Nat.le_refl _)) (by simp only [Fm.sz]; omega)
  | .either f g, h => by
    have a := fm_shs (f := f) fun i hi => h i (List.mem_append_left _ hi)
    have b := fm_shs (f := g) fun i hi => h i (List.mem_append_right _ hi)
    exact shs_3 s_either (a.mono (Nat.le_max_left _ _) (Nat.le_refl _)) (b.mono (Nat.le_max_right _ _) (Nat.le_refl _)) (by simp only [Fm.sz]; omega)
  | .oneof f g, h => by
    have a := fm_shs (f := f) fun i hi => h i (List.mem_append_left _ hi)
    have b := fm_shs (f := g) fun i hi => h i (List.mem_append_right _ hi)
    exact shs_3 s_oneof (a.mono (Nat.le_max_left _ _) (Nat.le_refl _)) (b.mono (Nat.le_max_right _ _) (Nat.le_refl _)) (by simp only [Fm.sz]; omega)
  | .pick f g k, h => by
    have a := fm_shs (f := f) fun i hi => h i (List.mem_append_left _ hi)
    have b := fm_shs (f := g) fun i hi => h i (List.mem_append_right _ (List.mem_append_left _ hi))
    have c := fm_shs (f := k) fun i hi => h i (List.mem_append_right _ (List.mem_append_right _ hi))
    exact shs_4 s_pick (a.mono (Nat.le_max_left _ _) (Nat.le_refl _)) (b.mono (Nat.le_trans (Nat.le_max_left _ _) (Nat.le_max_right _ _)) (Nat.le_refl _)) (c.mono (Nat.le_trans (Nat.le_max_right _ _) (Nat.le_max_right _ _)) (Nat.le_refl _)) (by simp only [Fm.sz]; omega)
theorem fm_gd : ∀ {f : Fm}, (∀ i, i ∈ f.ins → i < 6) → gd 12 f.data = true
  | .inp i, h => by
    have := h i List.mem_cons_self
    simp only [Fm.data, gd, gdA, Bool.and_true, Bool.and_eq_true, decide_eq_true_eq]
    exact ⟨ok_of _, by omega⟩
  | .less f, h => by
    simp only [Fm.data, gd, gdA, Bool.and_true, fm_gd (f := f) h]
    exact ok_of _
  | .both f g, h => by
    simp only [Fm.data, gd, gdA, Bool.and_true, fm_gd (f := f) fun i hi => h i (List.mem_append_left _ hi), fm_gd (f := g) fun i hi => h i (List.mem_append_right _ hi)]
    exact ok_of _
  | .either f g, h => by
    simp only [Fm.data, gd, gdA, Bool.and_true, fm_gd (f := f) fun i hi => h i (List.mem_append_left _ hi), fm_gd (f := g) fun i hi => h i (List.mem_append_right _ hi)]
    exact ok_of _
  | .oneof f g, h => by
    simp only [Fm.data, gd, gdA, Bool.and_true, fm_gd (f := f) fun i hi => h i (List.mem_append_left _ hi), fm_gd (f := g) fun i hi => h i (List.mem_append_right _ hi)]
    exact ok_of _
  | .pick f g k, h => by
    simp only [Fm.data, gd, gdA, Bool.and_true, fm_gd (f := f) fun i hi => h i (List.mem_append_left _ hi), fm_gd (f := g) fun i hi => h i (List.mem_append_right _ (List.mem_append_left _ hi)), fm_gd (f := k) fun i hi => h i (List.mem_append_right _ (List.mem_append_right _ hi))]
    exact ok_of _
theorem fm_bd {f : Fm} (h : ∀ i, i ∈ f.ins → i < 6) : Bd 12 f.dep (80 * f.sz) f.data := ⟨fm_gd h, (fm_shs h).dp, (fm_shs h).wt⟩
theorem tg_fm {p : Addr → Prop} {H : Hp} (np : ∀ a xs, H a = some (.tup xs) → ¬ p a) : ∀ {f : Fm} {v : V}, FmAt H f v → Tg p H v f.data
  | .inp i, _, ⟨_, rfl, h⟩ => .tup (np _ _ h) h (.cons (.str _) (.cons (.int _) .nil))
  | .less f, _, ⟨_, _, rfl, h, h1⟩ => .tup (np _ _ h) h (.cons (.str _) (.cons (tg_fm np h1) .nil))
  | .both f g, _, ⟨_, _, _, rfl, h, h1, h2⟩ => .tup (np _ _ h) h (.cons (.str _) (.cons (tg_fm np h1) (.cons (tg_fm np h2) .nil)))
  | .either f g, _, ⟨_, _, _, rfl, h, h1, h2⟩ => .tup (np _ _ h) h (.cons (.str _) (.cons (tg_fm np h1) (.cons (tg_fm np h2) .nil)))
  | .oneof f g, _, ⟨_, _, _, rfl, h, h1, h2⟩ => .tup (np _ _ h) h (.cons (.str _) (.cons (tg_fm np h1) (.cons (tg_fm np h2) .nil)))
  | .pick f g k, _, ⟨_, _, _, _, rfl, h, h1, h2, h3⟩ => .tup (np _ _ h) h (.cons (.str _) (.cons (tg_fm np h1) (.cons (tg_fm np h2) (.cons (tg_fm np h3) .nil))))
/-! which kinds a thing is of -/
theorem in_words {z : Str} {n : Int} (h : sideN z = some n) : z = "less" ∨ z = "both" ∨ z = "either" ∨ z = "oneof" ∨ z = "pick" := by
  unfold sideN dl_SIDES at h
  simp only [List.lookup_cons, List.lookup_nil] at h
  by_cases h1 : z = "less"
  · exact .inl h1
  by_cases h2 : z = "both"
  · exact .inr (.inl h2)
  by_cases h3 : z = "either"
  · exact .inr (.inr (.inl h3))
  by_cases h4 : z = "oneof"
  · exact .inr (.inr (.inr (.inl h4)))
  by_cases h5 : z = "pick"
  · exact .inr (.inr (.inr (.inr h5)))
  rw [beq_false_of_ne h1, beq_false_of_ne h2, beq_false_of_ne h3, beq_false_of_ne h4, beq_false_of_ne h5] at h
  cases h
def mkW (z : Str) : Prop := z = "counter" ∨ z = "turned" ∨ z = "register" ∨ z = "table" ∨ z = "slow" ∨ z = "slip" ∨ z = "late"
theorem mk_form {m : Mk} : ∃ z ds, mkd m = .tuple (.str z :: ds) ∧ mkW z := by
  cases m with
  | counter r s t => exact ⟨_, _, rfl, .inl rfl⟩
  | turned w s => exact ⟨_, _, rfl, .inr (.inl rfl)⟩
  | register w q s => exact ⟨_, _, rfl, .inr (.inr (.inl rfl))⟩
  | table ns => exact ⟨_, _, rfl, .inr (.inr (.inr (.inl rfl)))⟩
  | slow n m => exact ⟨_, _, rfl, .inr (.inr (.inr (.inr (.inl rfl))))⟩
  | slip n m => exact ⟨_, _, rfl, .inr (.inr (.inr (.inr (.inr (.inl rfl)))))⟩
  | late n m => exact ⟨_, _, rfl, .inr (.inr (.inr (.inr (.inr (.inr rfl)))))⟩
theorem isMk_form {d : PyData} (h : isMkD d) : ∃ z ds, d = .tuple (.str z :: ds) ∧ mkW z := by
  obtain ⟨m, rfl, _⟩ := h
  exact mk_form
def fmW (z : Str) : Prop := z = "in" ∨ z = "less" ∨ z = "both" ∨ z = "either" ∨ z = "oneof" ∨ z = "pick"
theorem isF_form {d : PyData} (h : isF d = true) : ∃ z ds, d = .tuple (.str z :: ds) ∧ fmW z := by
  have w : well d = true := (Bool.and_eq_true_iff.mp h).1
  cases d with
  | tuple xs =>
    cases xs with
    | nil => simp only [well, wellT] at w; cases w
    | cons x xs =>
      cases x with
      | str z =>
        refine ⟨z, xs, rfl, ?_⟩
        simp only [well, wellT, wordOf] at w
        by_cases e : z = "in"
        · exact .inl e
        · rw [if_neg e] at w
          have := of_decide_eq_true (Bool.and_eq_true_iff.mp w).1
          exact .inr (in_words this)
      | _ => simp only [well, wellT, wordOf] at w; cases w
  | _ => simp only [well] at w; cases w
theorem fm_mk {z : Str} (h : fmW z) : ¬ mkW z := by
  rcases h with rfl | rfl | rfl | rfl | rfl | rfl <;> (intro k; rcases k with k | k | k | k | k | k | k <;> exact absurd k (by decide +kernel))
noncomputable def kinds (d : PyData) : List Bool := [isShD d, isRowD d, @decide (isMkD d) (Classical.propDecidable _), isF d, @decide (isMc d) (Classical.propDecidable _)]
theorem dec_f {p : Prop} (h : ¬ p) : @decide p (Classical.propDecidable _) = false := @decide_eq_false p (Classical.propDecidable p) h
theorem dec_t {p : Prop} (h : p) : @decide p (Classical.propDecidable _) = true := @decide_eq_true p (Classical.propDecidable p) h
theorem dec_r {p : Prop} {r : Bool} (h : r = true ↔ p) : @decide p (Classical.propDecidable _) = r := by
  cases r with
  | true => exact dec_t (h.mp rfl)
  | false => exact dec_f fun k => by cases h.mpr k
theorem pc_form {n m : Nat} {d : PyData} (h : Pc n m d) : ∃ z ds, d = .tuple (.str z :: ds) ∧ Shp z ds := by
  obtain ⟨z, ds, _, e, s, _⟩ := h
  exact ⟨z, ds, e, s⟩
theorem mc_form {d : PyData} (h : isMc d) : ∃ e ds, d = .tuple (e :: ds) ∧ Pc 0 (ds.length + 1) e := by
  obtain ⟨ds, rfl, l, _, h⟩ := h
  cases ds with
  | nil => exact absurd l (by simp)
  | cons e ds => exact ⟨e, ds, rfl, h 0 e rfl⟩
theorem row_no {d : PyData} {ds : List PyData} (h : ∀ i, d ≠ .int i) : isRowD (.tuple (d :: ds)) = false := by
  show (_ && (withinD d 0 1 && _)) = false
  have : withinD d 0 1 = false := by
    cases d with
    | int i => exact absurd rfl (h i)
    | _ => rfl
  rw [this, Bool.false_and, Bool.and_false]
theorem sh_no {d : PyData} {ds : List PyData} (h : ∀ i, d ≠ .int i) : isShD (.tuple (d :: ds)) = false := by
  cases d with
  | int i => exact absurd rfl (h i)
  | _ => rfl
/-- a thing whose first part is a text -/
theorem kd_word {z : Str} {ds : List PyData} : kinds (.tuple (.str z :: ds)) = [false, false, @decide (isMkD (.tuple (.str z :: ds))) (Classical.propDecidable _), isF (.tuple (.str z :: ds)), false] := by
  unfold kinds
  rw [sh_no (fun i e => by cases e), row_no (fun i e => by cases e), dec_f (p := isMc (.tuple (.str z :: ds))) (fun h => by
    obtain ⟨e, ds', e1, h⟩ := mc_form h
    cases e1
    obtain ⟨_, _, e2, _⟩ := pc_form h
    cases e2)]
theorem isF_no {d : PyData} (h : ∀ z ds, d = .tuple (.str z :: ds) → ¬ fmW z) : isF d = false := by
  cases e : isF d with
  | false => rfl
  | true =>
    obtain ⟨z, ds, e1, k⟩ := isF_form e
    exact absurd k (h z ds e1)
theorem kd_mk {d : PyData} (h : isMkD d) : kinds d = [false, false, true, false, false] := by
  obtain ⟨z, ds, rfl, k⟩ := isMk_form h
  rw [kd_word, dec_t h, isF_no (fun z' ds' e f => by
    cases e
    exact fm_mk f k)]
theorem kd_fm {d : PyData} (h : isF d = true) : kinds d = [false, false, false, true, false] := by
  obtain ⟨z, ds, rfl, k⟩ := isF_form h
  rw [kd_word, h, dec_f (fun m => by
    obtain ⟨z', ds', e, m⟩ := isMk_form m
    cases e
    exact fm_mk k m)]
theorem kd_list (ds : List PyData) : kinds (.list ds) = [false, false, false, false, false] := by
  unfold kinds
  rw [dec_f (p := isMkD (.list ds)) (fun h => by obtain ⟨z, ds', e, _⟩ := isMk_form h; cases e), dec_f (p := isMc (.list ds)) (fun h => by obtain ⟨z, ds', e, _⟩ := mc_form h; cases e), isF_no (fun z ds' e => by cases e)]
  rfl
/-- a tuple of a tuple that is no piece -/
theorem kd_tup {es ds : List PyData} (h : ∀ n m, ¬ Pc n m (.tuple es)) : kinds (.tuple (.tuple es :: ds)) = [false, false, false, false, false] := by
  unfold kinds
  rw [sh_no (fun i e => by cases e), row_no (fun i e => by cases e), dec_f (p := isMkD _) (fun h => by obtain ⟨z, ds', e, _⟩ := isMk_form h; cases e), isF_no (fun z ds' e => by cases e), dec_f (p := isMc _) (fun k => by
    obtain ⟨e, ds', e1, k⟩ := mc_form k
    cases e1
    exact h _ _ k)]
theorem kd_mc {es ds : List PyData} (h : isMc (.tuple (.tuple es :: ds))) : kinds (.tuple (.tuple es :: ds)) = [false, false, false, false, true] := by
  unfold kinds
  rw [sh_no (fun i e => by cases e), row_no (fun i e => by cases e), dec_f (p := isMkD _) (fun h => by obtain ⟨z, ds', e, _⟩ := isMk_form h; cases e), isF_no (fun z ds' e => by cases e), dec_t h]
/-- tuples of numbers -/
theorem kd_int {i : Int} {ds : List PyData} : kinds (.tuple (.int i :: ds)) = [isShD (.tuple (.int i :: ds)), isRowD (.tuple (.int i :: ds)), false, false, false] := by
  unfold kinds
  rw [dec_f (p := isMkD _) (fun h => by obtain ⟨z, ds', e, _⟩ := isMk_form h; cases e), isF_no (fun z ds' e => by cases e), dec_f (p := isMc _) (fun k => by
    obtain ⟨e, ds', e1, k⟩ := mc_form k
    cases e1
    obtain ⟨_, _, e2, _⟩ := pc_form k
    cases e2)]
theorem npc_int {i : Int} {ds : List PyData} : ∀ n m, ¬ Pc n m (.tuple (.int i :: ds)) := fun n m h => by
  obtain ⟨_, _, e2, _⟩ := pc_form h
  cases e2
theorem npc_tup {es ds : List PyData} : ∀ n m, ¬ Pc n m (.tuple (.tuple es :: ds)) := fun n m h => by
  obtain ⟨_, _, e2, _⟩ := pc_form h
  cases e2
theorem npc_mk {m : Mk} : ∀ a b, ¬ Pc a b (mkd m) := fun a b h => by
  have key : ∀ z ds, mkd m = .tuple (.str z :: ds) → Shp z ds → (z = "slow" ∨ z = "slip" ∨ z = "late" → ∃ n m', ds = [.int n, mkd m']) → mkW z → False := fun z ds e s hd k => by
    have hl : z = "late" := by
      rcases k with rfl | rfl | rfl | rfl | rfl | rfl | rfl
      all_goals first
        | rfl
        | (exact absurd (shp_len s (by decide +kernel)) (by rintro (⟨w, _⟩ | ⟨w, _⟩ | ⟨w, _⟩ | ⟨w, _⟩) <;> exact absurd w (by decide +kernel)))
    subst hl
    obtain ⟨n, m', rfl⟩ := hd (.inr (.inr rfl))
    obtain ⟨a, b, e, h⟩ := shp_late s
    cases e
    obtain ⟨z, ds, e2, _⟩ := mk_form (m := m')
    rw [e2] at h
    have : isAh (.tuple (.str z :: ds)) = false := by
      show (_ && (false && _)) = false
      rw [Bool.false_and, Bool.and_false]
    rw [this] at h
    cases h
  obtain ⟨z, ds, e, s⟩ := pc_form h
  cases m with
  | slow n m => exact key z ds e s (fun _ => ⟨n, m, (List.cons.inj (PyData.tuple.inj e.symm)).2⟩) (by have := PyData.str.inj (List.cons.inj (PyData.tuple.inj e)).1; exact .inr (.inr (.inr (.inr (.inl this.symm)))))
  | slip n m => exact key z ds e s (fun _ => ⟨n, m, (List.cons.inj (PyData.tuple.inj e.symm)).2⟩) (by have := PyData.str.inj (List.cons.inj (PyData.tuple.inj e)).1; exact .inr (.inr (.inr (.inr (.inr (.inl this.symm))))))
  | late n m => exact key z ds e s (fun _ => ⟨n, m, (List.cons.inj (PyData.tuple.inj e.symm)).2⟩) (by have := PyData.str.inj (List.cons.inj (PyData.tuple.inj e)).1; exact .inr (.inr (.inr (.inr (.inr (.inr this.symm))))))
  | counter r s' t => exact key z ds e s (fun w => by have := PyData.str.inj (List.cons.inj (PyData.tuple.inj e)).1; subst this; rcases w with w | w | w <;> exact absurd w (by decide +kernel)) (by have := PyData.str.inj (List.cons.inj (PyData.tuple.inj e)).1; exact .inl this.symm)
  | turned r s' => exact key z ds e s (fun w => by have := PyData.str.inj (List.cons.inj (PyData.tuple.inj e)).1; subst this; rcases w with w | w | w <;> exact absurd w (by decide +kernel)) (by have := PyData.str.inj (List.cons.inj (PyData.tuple.inj e)).1; exact .inr (.inl this.symm))
  | register r s' t => exact key z ds e s (fun w => by have := PyData.str.inj (List.cons.inj (PyData.tuple.inj e)).1; subst this; rcases w with w | w | w <;> exact absurd w (by decide +kernel)) (by have := PyData.str.inj (List.cons.inj (PyData.tuple.inj e)).1; exact .inr (.inr (.inl this.symm)))
  | table ns => exact key z ds e s (fun w => by have := PyData.str.inj (List.cons.inj (PyData.tuple.inj e)).1; subst this; rcases w with w | w | w <;> exact absurd w (by decide +kernel)) (by have := PyData.str.inj (List.cons.inj (PyData.tuple.inj e)).1; exact .inr (.inr (.inr (.inl this.symm))))
/-- formulas -/
theorem fm_tup (f : Fm) : ∃ es, f.data = .tuple es := by
  cases f <;> exact ⟨_, rfl⟩
theorem npc_fm {f : Fm} : ∀ a b, ¬ Pc a b f.data := fun a b h => by
  obtain ⟨z, ds, n, e, s, hn, hw⟩ := h
  have no : ∀ (y : Str) (g : Fm) (gs : List PyData) (k : Nat), f.data = .tuple (.str y :: g.data :: gs) → askN y = some ((k + 1 : Nat) : Int) → False := fun y g gs k e1 e2 => by
    rw [e] at e1
    cases e1
    rw [hn] at e2
    cases e2
    have := hw g.data (by
      rw [Int.toNat_natCast, List.take_succ_cons]
      exact List.mem_cons_self)
    obtain ⟨es, e3⟩ := fm_tup g
    rw [e3] at this
    cases this
  cases f with
  | inp i =>
    have ez : z = "in" := (PyData.str.inj (List.cons.inj (PyData.tuple.inj e)).1).symm
    subst ez
    exact absurd (shp_len s (by decide +kernel)) (by rintro (⟨w, _⟩ | ⟨w, _⟩ | ⟨w, _⟩ | ⟨w, _⟩) <;> exact absurd w (by decide +kernel))
  | less g => exact no "less" g _ 0 rfl (by decide +kernel)
  | both g h => exact no "both" g _ 1 rfl (by decide +kernel)
  | either g h => exact no "either" g _ 1 rfl (by decide +kernel)
  | oneof g h => exact no "oneof" g _ 1 rfl (by decide +kernel)
  | pick g h k => exact no "pick" g _ 2 rfl (by decide +kernel)
theorem fm_well : ∀ {f : Fm}, (∀ i, i ∈ f.ins → i < 6) → well f.data = true ∧ siz f.data = f.sz ∧ dpt f.data = f.dep
  | .inp i, h => by
    have := h i List.mem_cons_self
    refine ⟨?_, ?_, ?_⟩
    · simp only [Fm.data, well, wellT, wordOf, if_true, okArg]
      exact decide_eq_true (by omega)
    · simp only [Fm.data, siz, sizT, wordOf, if_true, Fm.sz]
    · simp only [Fm.data, dpt, dptT, wordOf, if_true, Fm.dep]
  | .less f, h => by
    obtain ⟨a, b, c⟩ := fm_well (f := f) h
    have n : ¬ ("less" : Str) = "in" := by decide +kernel
    refine ⟨?_, ?_, ?_⟩
    · simp only [Fm.data, well, wellT, wordOf, if_neg n, wellA, a, Bool.and_true]
      exact decide_eq_true (show sideN "less" = some 1 by decide +kernel)
    · simp only [Fm.data, siz, sizT, wordOf, if_neg n, sizA, b, Fm.sz]
      omega
    · simp only [Fm.data, dpt, dptT, wordOf, if_neg n, dptA, c, Fm.dep]
      omega
  | .both f g, h => by
    obtain ⟨a, b, c⟩ := fm_well (f := f) fun i hi => h i (List.mem_append_left _ hi)
    obtain ⟨a2, b2, c2⟩ := fm_well (f := g) fun i hi => h i (List.mem_append_right _ hi)
    have n : ¬ ("both" : Str) = "in" := by decide +kernel
    refine ⟨?_, ?_, ?_⟩
    · simp only [Fm.data, well, wellT, wordOf, if_neg n, wellA, a, a2, Bool.and_true]
      exact decide_eq_true (show sideN "both" = some 2 by decide +kernel)
    · simp only [Fm.data, siz, sizT, wordOf, if_neg n, sizA, b, b2, Fm.sz]
      omega
    · simp only [Fm.data, dpt, dptT, wordOf, if_neg n, dptA, c, c2, Fm.dep]
      omega
  | .either f g, h => by
    obtain ⟨a, b, c⟩ := fm_well (f := f) fun i hi => h i (List.mem_append_left _ hi)
    obtain ⟨a2, b2, c2⟩ := fm_well (f := g) fun i hi => h i (List.mem_append_right _ hi)
    have n : ¬ ("either" : Str) = "in" := by decide +kernel
    refine ⟨?_, ?_, ?_⟩
    · simp only [Fm.data, well, wellT, wordOf, if_neg n, wellA, a, a2, Bool.and_true]
      exact decide_eq_true (show sideN "either" = some 2 by decide +kernel)
    · simp only [Fm.data, siz, sizT, wordOf, if_neg n, sizA, b, b2, Fm.sz]
      omega
    · simp only [Fm.data, dpt, dptT, wordOf, if_neg n, dptA, c, c2, Fm.dep]
      omega
  | .oneof f g, h => by
    obtain ⟨a, b, c⟩ := fm_well (f := f) fun i hi => h i (List.mem_append_left _ hi)
    obtain ⟨a2, b2, c2⟩ := fm_well (f := g) fun i hi => h i (List.mem_append_right _ hi)
    have n : ¬ ("oneof" : Str) = "in" := by decide +kernel
    refine ⟨?_, ?_, ?_⟩
    · simp only [Fm.data, well, wellT, wordOf, if_neg n, wellA, a, a2, Bool.and_true]
      exact decide_eq_true (show sideN "oneof" = some 2 by decide +kernel)
    · simp only [Fm.data, siz, sizT, wordOf, if_neg n, sizA, b, b2, Fm.sz]
      omega
    · simp only [Fm.data, dpt, dptT, wordOf, if_neg n, dptA, c, c2, Fm.dep]
      omega
  | .pick f g k, h => by
    obtain ⟨a, b, c⟩ := fm_well (f := f) fun i hi => h i (List.mem_append_left _ hi)
    obtain ⟨a2, b2, c2⟩ := fm_well (f := g) fun i hi => h i (List.mem_append_right _ (List.mem_append_left _ hi))
    obtain ⟨a3, b3, c3⟩ := fm_well (f := k) fun i hi => h i (List.mem_append_right _ (List.mem_append_right _ hi))
    have n : ¬ ("pick" : Str) = "in" := by decide +kernel
    refine ⟨?_, ?_, ?_⟩
    · simp only [Fm.data, well, wellT, wordOf, if_neg n, wellA, a, a2, a3, Bool.and_true]
      exact decide_eq_true (show sideN "pick" = some 3 by decide +kernel)
    · simp only [Fm.data, siz, sizT, wordOf, if_neg n, sizA, b, b2, b3, Fm.sz]
      omega
    · simp only [Fm.data, dpt, dptT, wordOf, if_neg n, dptA, c, c2, c3, Fm.dep]
      omega
theorem fm_isF {f : Fm} (h : ∀ i, i ∈ f.ins → i < 6) (d : f.dep ≤ 8) (s : f.sz ≤ 24) : isF f.data = true := by
  obtain ⟨a, b, c⟩ := fm_well h
  unfold isF
  rw [a, b, c, decide_eq_true (by omega), decide_eq_true (by omega)]
  rfl
def sp__law_row (_ : PySem.W.Frag) : Sp := fun vs H Q _ => ∃ (p : Addr) (m n : Nat), vs = [.ref p, .int (m : Nat)] ∧ Bx H p n ∧ 1 ≤ m ∧ m ≤ 4096 ∧ n < 1000000000 ∧
  ∀ H' a (rs : List Int), But p H H' → Bx H' p (n + 5000) → H' a = some (.tup (rs.map V.int)) → rs.length = m → Bits rs → Q (.ref a) H'
theorem ok__law_row (T : Defs K mg) (TT : Tabs T base) : FnOk P w K mg base CX0 2 T.f__law_row T.fd__law_row ["_law_box_here", "_law_long_here"] (sp__law_row K) := by
  have G__law_take : FnOk P w K mg base CX0 1 T.f__law_take T.fd__law_take ["_law_box_here", "_law_many"] (sp__law_take K) := ok__law_take T TT
  refine T.F__law_row.ok sc__law_row (fun vs H Q E h => ?_) (fun cdv A outer s H vs Q E hr h => ?_)
  · obtain ⟨p, m, n, rfl, hB, hm, hm2, hn, q⟩ := h
    rfl
  · obtain ⟨p, m, n, rfl, hB, hm, hm2, hn, q⟩ := h
    refine ⟨_, PSs.nox (pss_cons (ps_set (i := 2) sc__law_row.nd rfl (.inl rfl) (pe_call G__law_take (hr.mono (by decide)) (by rfl) T.g__law_take T.F__law_take.kp T.b__law_take .nil pass0 (pa_cons (pv 0) (pa_cons pe_int pa_nil))))
    (pss_cons (ps_if (pt_cmpR op_eq (pv 2) pe_int (nomark _)) (pss_one (ps_ret (pe_op op_repA (pe_tup (pa_cons (pe_call G__law_take (hr.mono (by decide)) (by rfl) T.g__law_take T.F__law_take.kp T.b__law_take .nil pass0 (pa_cons (pv 0) (pa_cons pe_int pa_nil))) pa_nil)) (pv 1)))) pss_nil)
    (pss_cons (ps_if (pt_cmpR op_eq (pv 2) pe_int (nomark _)) (pss_cons (ps_asg (pe_tup (pa_cons (pe_call G__law_take (hr.mono (by decide)) (by rfl) T.g__law_take T.F__law_take.kp T.b__law_take .nil pass0 (pa_cons (pv 0) (pa_cons (pv 1) pa_nil))) (pa_cons (pe_call G__law_take (hr.mono (by decide)) (by rfl) T.g__law_take T.F__law_take.kp T.b__law_take .nil pass0 (pa_cons (pv 0) (pa_cons pe_int pa_nil))) pa_nil))) (pg_tup rfl (pgs_cons (pg_name (i := 3) sc__law_row.nd rfl (.inr rfl)) (pgs_cons (pg_name (i := 4) sc__law_row.nd rfl (.inr rfl)) pgs_nil))))
    (pss_one (ps_ret (pe_callTy call_tuple_of (by rfl) T.m_tuple bt_tuple (pa_cons (pe_lc (own := [("_law_place", 7)]) (g := gName 7) (tt := tYes) rfl sc__law_row.nd (pi_range1 (by rfl) T.m_range (pa_cons (pv 1) pa_nil)) (blkOk_by (N := N__law_row) (sc := defScope s__law_row) (by decide +kernel)) (fun _ _ _ _ _ => (pg_name (i := 7) sc__law_row.nd rfl (.inl rfl))) (fun _ _ _ _ _ => pts_nil) (fun _ _ _ _ _ => (pe_ifExp (pt_cmpR op_eq (pv 7) (pv 3) (nomark _)) (pv 4) (pe_op op_sub pe_int (pv 4))))) pa_nil))))) pss_nil)
    (pss_cons (ps_if (pt_cmpR op_eq (pv 2) pe_int (nomark _)) (pss_cons (ps_asg (pe_tup (pa_cons (pe_op op_add pe_int (pe_call G__law_take (hr.mono (by decide)) (by rfl) T.g__law_take T.F__law_take.kp T.b__law_take .nil pass0 (pa_cons (pv 0) (pa_cons pe_int pa_nil)))) (pa_cons (pe_call G__law_take (hr.mono (by decide)) (by rfl) T.g__law_take T.F__law_take.kp T.b__law_take .nil pass0 (pa_cons (pv 0) (pa_cons pe_int pa_nil))) pa_nil))) (pg_tup rfl (pgs_cons (pg_name (i := 5) sc__law_row.nd rfl (.inr rfl)) (pgs_cons (pg_name (i := 6) sc__law_row.nd rfl (.inr rfl)) pgs_nil))))
    (pss_one (ps_ret (pe_callTy call_tuple_of (by rfl) T.m_tuple bt_tuple (pa_cons (pe_lc (own := [("_law_place", 7)]) (g := gName 7) (tt := tYes) rfl sc__law_row.nd (pi_range1 (by rfl) T.m_range (pa_cons (pv 1) pa_nil)) (blkOk_by (N := N__law_row) (sc := defScope s__law_row) (by decide +kernel)) (fun _ _ _ _ _ => (pg_name (i := 7) sc__law_row.nd rfl (.inl rfl))) (fun _ _ _ _ _ => pts_nil) (fun _ _ _ _ _ => (pe_callTy call_int1 (by rfl) T.m_int bt_int (pa_cons (pe_cmpR op_eq (pe_op op_mod (pe_op op_add (pv 7) (pv 6)) (pv 5)) pe_int (nomark _)) pa_nil)))) pa_nil))))) pss_nil)
    (pss_one (ps_ret (pe_callTy call_tuple_of (by rfl) T.m_tuple bt_tuple (pa_cons (pe_lc (own := [("_law_place", 7)]) (g := gName 7) (tt := tYes) rfl sc__law_row.nd (pi_range1 (by rfl) T.m_range (pa_cons (pv 1) pa_nil)) (blkOk_by (N := N__law_row) (sc := defScope s__law_row) (by decide +kernel)) (fun _ _ _ _ _ => (pg_name (i := 7) sc__law_row.nd rfl (.inl rfl))) (fun _ _ _ _ _ => pts_nil) (fun _ _ _ _ _ => (pe_call G__law_take (hr.mono (by decide)) (by rfl) T.g__law_take T.F__law_take.kp T.b__law_take .nil pass0 (pa_cons (pv 0) (pa_cons pe_int pa_nil))))) pa_nil)))))))), ?_⟩
    refine ⟨.ref p, rfl, p, 5, n, rfl, hB, by decide, by decide, by omega, fun H1 r1 b1 B1 l1 u1 => ?_⟩
    refine ⟨.int r1, rfl, rfl, _, rfl, ite2 (fun _ => ?_) (fun _ => ?_)⟩
    · refine ⟨.ref p, rfl, p, 2, n + 1, rfl, B1, by decide, by decide, by omega, fun H2 r2 b2 B2 l2 u2 => ?_⟩
      have hbit : r2 = 0 ∨ r2 = 1 := by omega
      refine ⟨(show 1 ≤ sizeLine by decide), fun t nt => ?_⟩
      refine ⟨.int (m : Nat), rfl, t, m, _, rfl, rfl, SqT.mk upd_same, by simp, hm, (show 1 * m ≤ 1000000 by omega), fun z => ?_, fun z a na => ?_⟩
      · exact q _ t [r2] ((b1.trans b2).new nt) ((B2.new nt).mono (by omega)) upd_same z.symm (fun x hx => by
          rw [List.mem_singleton] at hx
          rw [hx]
          exact hbit)
      · refine q _ a (List.replicate m r2) (((b1.trans b2).new nt).new na) (((B2.new nt).new na).mono (by omega)) ?_ List.length_replicate (fun x hx => ?_)
        · rw [upd_same, rep_one]
        · rw [List.eq_of_mem_replicate hx]
          exact hbit
    refine ⟨.int r1, rfl, rfl, _, rfl, ite2 (fun _ => ?_) (fun _ => ?_)⟩
    · refine ⟨.ref p, rfl, .int (m : Nat), rfl, p, m, n + 1, rfl, B1, by omega, by omega, by omega, fun H2 r2 b2 B2 l2 u2 => ?_⟩
      refine ⟨.ref p, rfl, p, 2, n + 2, rfl, B2, by decide, by decide, by omega, fun H3 r3 b3 B3 l3 u3 => ?_⟩
      refine ⟨(show 2 ≤ sizeLine by decide), fun t nt => ?_⟩
      refine ⟨t, _, rfl, SqT.mk upd_same, rfl, _, _, rfl, _, _, rfl, rfl, ?_⟩
      have B4 := B3.new (o := .tup [.int r2, .int r3]) nt
      have b4 := ((b1.trans b2).trans b3).new (o := .tup [.int r2, .int r3]) nt
      generalize upd H3 t (.tup [.int r2, .int r3]) = H4 at *
      refine ⟨.int (m : Nat), rfl, m, rfl, by omega, by omega, fun D nD => ?_⟩
      refine lc_range (PV p D H4 (n + 3)) (pv_start nD B4) (fun i H5 hi h5 => ?_) (fun H5 h5 => ?_)
      · refine ⟨rfl, yes_ite ?_⟩
        have h5' := h5
        obtain ⟨_, _, _, _, B5, _⟩ := h5'
        have st : ∀ x : Int, (x = 0 ∨ x = 1) → _ := fun x hx => pv_step (H4 := H5) nD (ne_new B4 nD) h5 (But.refl p H5) (B5.mono (by omega)) (by omega) hx
        refine ⟨_, rfl, .int r2, rfl, rfl, _, rfl, ite2 (fun _ => ?_) (fun _ => ?_)⟩
        · exact ⟨.int r3, rfl, st r3 (by omega)⟩
        · exact ⟨.int r3, rfl, _, _, rfl, rfl, st (1 - r3) (by omega)⟩
      · obtain ⟨rs, hl, hb, b5, B5, hD⟩ := h5
        refine ⟨D, _, rfl, .inl ⟨SqL.mk hD, fun l nl => ?_⟩⟩
        exact q _ l rs ((b4.trans b5).new nl) ((B5.new nl).mono (by omega)) upd_same (by omega) hb
    refine ⟨.int r1, rfl, rfl, _, rfl, ite2 (fun _ => ?_) (fun _ => ?_)⟩
    · refine ⟨.ref p, rfl, p, 5, n + 1, rfl, B1, by omega, by omega, by omega, fun H2 r2 b2 B2 l2 u2 => ⟨_, _, rfl, rfl, ?_⟩⟩
      refine ⟨.ref p, rfl, p, 2, n + 2, rfl, B2, by decide, by decide, by omega, fun H3 r3 b3 B3 l3 u3 => ?_⟩
      refine ⟨(show 2 ≤ sizeLine by decide), fun t nt => ?_⟩
      refine ⟨t, _, rfl, SqT.mk upd_same, rfl, _, _, rfl, _, _, rfl, rfl, ?_⟩
      have B4 := B3.new (o := .tup [.int (2 + r2), .int r3]) nt
      have b4 := ((b1.trans b2).trans b3).new (o := .tup [.int (2 + r2), .int r3]) nt
      generalize upd H3 t (.tup [.int (2 + r2), .int r3]) = H4 at *
      refine ⟨.int (m : Nat), rfl, m, rfl, by omega, by omega, fun D nD => ?_⟩
      refine lc_range (PV p D H4 (n + 3)) (pv_start nD B4) (fun i H5 hi h5 => ?_) (fun H5 h5 => ?_)
      · refine ⟨rfl, yes_ite ?_⟩
        have h5' := h5
        obtain ⟨_, _, _, _, B5, _⟩ := h5'
        have st : ∀ x : Int, (x = 0 ∨ x = 1) → _ := fun x hx => pv_step (H4 := H5) nD (ne_new B4 nD) h5 (But.refl p H5) (B5.mono (by omega)) (by omega) hx
        refine ⟨_, rfl, .int r3, rfl, _, _, rfl, rfl, .int (2 + r2), rfl, _, _, rfl, rfl, (show (0 : Int) < 2 + r2 by omega), rfl, .inr ⟨_, rfl, st _ ?_⟩⟩
        split
        · exact .inr rfl
        · exact .inl rfl
      · obtain ⟨rs, hl, hb, b5, B5, hD⟩ := h5
        refine ⟨D, _, rfl, .inl ⟨SqL.mk hD, fun l nl => ?_⟩⟩
        exact q _ l rs ((b4.trans b5).new nl) ((B5.new nl).mono (by omega)) upd_same (by omega) hb
    · refine ⟨.int (m : Nat), rfl, m, rfl, by omega, by omega, fun D nD => ?_⟩
      refine lc_range (PV p D H1 (n + 1)) (pv_start nD B1) (fun i H5 hi h5 => ?_) (fun H5 h5 => ?_)
      · refine ⟨rfl, yes_ite ?_⟩
        have h5' := h5
        obtain ⟨_, _, _, _, B5, _⟩ := h5'
        refine ⟨.ref p, rfl, p, 2, n + 1 + i, rfl, B5, by decide, by decide, by omega, fun H6 r6 b6 B6 l6 u6 => ?_⟩
        exact pv_step nD (ne_new B1 nD) h5 b6 B6 (by omega) (by omega)
      · obtain ⟨rs, hl, hb, b5, B5, hD⟩ := h5
        refine ⟨D, _, rfl, .inl ⟨SqL.mk hD, fun l nl => ?_⟩⟩
        exact q _ l rs ((b1.trans b5).new nl) ((B5.new nl).mono (by omega)) upd_same (by omega) hb
def sp__law_long (_ : PySem.W.Frag) : Sp := fun vs H Q _ => ∃ (p : Addr) (n : Nat), vs = [.ref p] ∧ Bx H p n ∧ n < 1000000000 ∧
  ∀ H' (m : Nat), But p H H' → Bx H' p (n + 4) → 1 ≤ m → m ≤ 400 → Q (.int (m : Nat)) H'
theorem ok__law_long (T : Defs K mg) (TT : Tabs T base) : FnOk P w K mg base CX0 2 T.f__law_long T.fd__law_long ["_law_box_here"] (sp__law_long K) := by
  have G__law_take : FnOk P w K mg base CX0 1 T.f__law_take T.fd__law_take ["_law_box_here", "_law_many"] (sp__law_take K) := ok__law_take T TT
  refine T.F__law_long.ok sc__law_long (fun vs H Q E h => ?_) (fun cdv A outer s H vs Q E hr h => ?_)
  · obtain ⟨p, n, rfl, hB, hn, q⟩ := h
    rfl
  · obtain ⟨p, n, rfl, hB, hn, q⟩ := h
    refine ⟨_, PSs.nox (pss_cons (ps_if (pt_cmpR op_eq (pe_call G__law_take (hr.mono (by decide)) (by rfl) T.g__law_take T.F__law_take.kp T.b__law_take .nil pass0 (pa_cons (pv 0) (pa_cons pe_int pa_nil))) pe_int (nomark _)) (pss_one (ps_ret (pe_op op_add pe_int (pe_call G__law_take (hr.mono (by decide)) (by rfl) T.g__law_take T.F__law_take.kp T.b__law_take .nil pass0 (pa_cons (pv 0) (pa_cons pe_int pa_nil)))))) pss_nil)
    (pss_one (ps_ret (pe_ix ix_list (pe_lst (pa_cons pe_int (pa_cons pe_int (pa_cons (pe_op op_add pe_int (pe_call G__law_take (hr.mono (by decide)) (by rfl) T.g__law_take T.F__law_take.kp T.b__law_take .nil pass0 (pa_cons (pv 0) (pa_cons pe_int pa_nil)))) (pa_cons (pe_op op_add pe_int (pe_call G__law_take (hr.mono (by decide)) (by rfl) T.g__law_take T.F__law_take.kp T.b__law_take .nil pass0 (pa_cons (pv 0) (pa_cons pe_int pa_nil)))) pa_nil))))) (pe_call G__law_take (hr.mono (by decide)) (by rfl) T.g__law_take T.F__law_take.kp T.b__law_take .nil pass0 (pa_cons (pv 0) (pa_cons pe_int pa_nil))) (fun _ _ => rfl))))), ?_⟩
    refine ⟨.ref p, rfl, p, 8, n, rfl, hB, by decide, by decide, by omega, fun H1 r1 b1 B1 l1 u1 => ?_⟩
    refine ⟨rfl, _, rfl, ite2 (fun _ => ?_) (fun _ => ?_)⟩
    · refine ⟨.ref p, rfl, p, 400, n + 1, rfl, B1, by decide, by decide, by omega, fun H2 r2 b2 B2 l2 u2 => ⟨_, _, rfl, rfl, ?_⟩⟩
      obtain ⟨m, em⟩ := nat_of (show 0 ≤ 1 + r2 by omega)
      show Q (.int (1 + r2)) H2
      rw [em]
      exact q H2 m (b1.trans b2) (B2.mono (by omega)) (by omega) (by omega)
    · refine ⟨.ref p, rfl, p, 12, n + 1, rfl, B1, by decide, by decide, by omega, fun H2 r2 b2 B2 l2 u2 => ⟨_, _, rfl, rfl, ?_⟩⟩
      refine ⟨.ref p, rfl, p, 40, n + 2, rfl, B2, by decide, by decide, by omega, fun H3 r3 b3 B3 l3 u3 => ⟨_, _, rfl, rfl, ?_⟩⟩
      refine ⟨(show 4 ≤ sizeLine by decide), fun l nl => ?_⟩
      refine ⟨.ref p, rfl, p, 4, n + 3, rfl, B3.new nl, by decide, by decide, by omega, fun H4 r4 b4 B4 l4 u4 => ?_⟩
      obtain ⟨v, ev, hv⟩ := at_menu (Pr := fun v => 1 ≤ v ∧ v ≤ 40) (xs := [1, 2, 1 + r2, 1 + r3]) l4 u4 (fun x hx => by
        rcases List.mem_cons.mp hx with rfl | hx
        · omega
        rcases List.mem_cons.mp hx with rfl | hx
        · omega
        rcases List.mem_cons.mp hx with rfl | hx
        · omega
        rcases List.mem_cons.mp hx with rfl | hx
        · omega
        · cases hx)
      obtain ⟨m, rfl⟩ := nat_of (show 0 ≤ v by omega)
      exact ⟨l, _, _, _, rfl, rfl, SqL.mk (b4 _ _ (ne_new B3 nl) upd_same), ev, q _ m ((((b1.trans b2).trans b3).new nl).trans b4) B4 (by omega) (by omega)⟩
/-! things without lists -/
mutual
def tO : PyData → Bool
  | .list _ | .dict _ => false
  | .tuple xs => tOA xs
  | _ => true
def tOA : List PyData → Bool
  | [] => true
  | x :: xs => tO x && tOA xs
end
mutual
theorem Tg.kt {p : Addr → Prop} {H H' : Hp} (s : ∀ a xs, H a = some (.tup xs) → H' a = some (.tup xs)) : ∀ (d : PyData) (v : V), tO d = true → Tg p H v d → Tg p H' v d
  | .none, _, _, h => by cases h; exact .non
  | .bool b, _, _, h => by cases h; exact .bl b
  | .int i, _, _, h => by cases h; exact .int i
  | .str x, _, _, h => by cases h; exact .str x
  | .list ds, _, t, h => by simp only [tO] at t; cases t
  | .tuple ds, _, t, h => by
    cases h with
    | tup n e h => exact .tup n (s _ _ e) (TgA.kt s ds _ (by simpa only [tO] using t) h)
  | .dict _, _, _, h => by cases h
theorem TgA.kt {p : Addr → Prop} {H H' : Hp} (s : ∀ a xs, H a = some (.tup xs) → H' a = some (.tup xs)) : ∀ (ds : List PyData) (vs : List V), tOA ds = true → TgA p H vs ds → TgA p H' vs ds
  | [], _, _, h => by cases h; exact .nil
  | d :: ds, _, t, h => by
    cases h with
    | cons a b =>
      have t : tO d = true ∧ tOA ds = true := by simpa only [tOA, Bool.and_eq_true] using t
      exact .cons (Tg.kt s d _ t.1 a) (TgA.kt s ds _ t.2 b)
end
theorem tO_ints : ∀ ns : List Int, tOA (ns.map PyData.int) = true
  | [] => rfl
  | n :: ns => by
    show (true && _) = true
    rw [tO_ints ns]
    rfl
theorem tO_mk : ∀ m : Mk, tO (mkd m) = true
  | .counter _ _ _ => rfl
  | .turned _ _ => rfl
  | .register _ _ _ => rfl
  | .table ns => by
    show (true && (tOA (ns.map PyData.int) && true)) = true
    rw [tO_ints]
    rfl
  | .slow _ m => by
    show (true && (true && (tO (mkd m) && true))) = true
    rw [tO_mk m]
    rfl
  | .slip _ m => by
    show (true && (true && (tO (mkd m) && true))) = true
    rw [tO_mk m]
    rfl
  | .late _ m => by
    show (true && (true && (tO (mkd m) && true))) = true
    rw [tO_mk m]
    rfl
/-! drawn pieces -/
def PIt (b : Addr) (H : Hp) (n : Nat) (v : V) : Prop := ∃ d, Tg (fun q => q = b) H v d ∧ Bd 21 6 7000 d ∧ (∀ m, n < m → Pc n m d) ∧ (∃ z ds, d = .tuple (.str z :: ds)) ∧ tO d = true
theorem PIt.same {b : Addr} {H H' : Hp} {n : Nat} {v : V} (h : PIt b H n v) (s : Same H H') : PIt b H' n v := by
  obtain ⟨d, t, g⟩ := h
  exact ⟨d, t.same s, g⟩
theorem PIt.but {b : Addr} {H H' : Hp} {n : Nat} {v : V} (h : PIt b H n v) (s : But b H H') : PIt b H' n v := by
  obtain ⟨d, t, g⟩ := h
  exact ⟨d, t.keep fun a o n e => s a o n e, g⟩
theorem PIt.kt {b : Addr} {H H' : Hp} {n : Nat} {v : V} (h : PIt b H n v) (s : ∀ a xs, H a = some (.tup xs) → H' a = some (.tup xs)) : PIt b H' n v := by
  obtain ⟨d, t, g1, g2, g3, g4⟩ := h
  exact ⟨d, t.kt s _ _ g4, g1, g2, g3, g4⟩
theorem wi {i lo hi : Int} (h : lo ≤ i) (g : i ≤ hi) : withinD (.int i) lo hi = true := decide_eq_true ⟨h, g⟩
theorem bd_i {i : Int} (h : 0 ≤ i) (g : i ≤ 100000) : Bd 21 0 85 (.int i) := by
  obtain ⟨n, rfl⟩ := nat_of h
  exact bd_int (n21 (by omega))
theorem bdA_w {z : Str} {ds : List PyData} {n w : Nat} (hz : PyData.strOk z = true ∧ z.length ≤ 10) (h : BdA 21 n w ds) : Bd 21 (n + 1) (w + 11) (.tuple (.str z :: ds)) :=
  (((BdA.one (bd_w hz.1 hz.2)).app h).mono (Nat.le_refl _) (show max 0 n ≤ n by omega) (show 10 + 1 + w ≤ w + 11 by omega)).tup
theorem bdA_1 {i : Int} {ds : List PyData} {n w : Nat} (h0 : 0 ≤ i) (h1 : i ≤ 100000) (h : BdA 21 n w ds) : BdA 21 n (w + 86) (.int i :: ds) :=
  ((BdA.one (bd_i h0 h1)).app h).mono (Nat.le_refl _) (show max 0 n ≤ n by omega) (show 85 + 1 + w ≤ w + 86 by omega)
theorem bdA_0 {n : Nat} : BdA 21 n 0 [] := ⟨rfl, by simp [PyData.depthAll], by simp [PyData.weightAll]⟩
theorem okP : ∀ z : Str, z ∈ (["make", "less", "both", "either", "oneof", "pick", "keep", "late", "keeper"] : List Str) → PyData.strOk z = true ∧ z.length ≤ 10 := fun z h => by
  simp only [List.mem_cons, List.not_mem_nil, or_false] at h
  rcases h with rfl | rfl | rfl | rfl | rfl | rfl | rfl | rfl | rfl <;> exact ⟨by decide +kernel, by decide +kernel⟩
theorem pc_side {z : Str} {ds : List PyData} {n : Nat} (hz : sideN z = some (ds.length : Int)) (ha : askN z = some (ds.length : Int)) (h : ∀ e, e ∈ ds → withinD e 0 ((n : Int) - 1) = true) : ∀ m, n < m → Pc n m (.tuple (.str z :: ds)) := fun m _ => by
  have w := side_words hz
  refine ⟨z, ds, _, rfl, .side hz, ha, fun e he => ?_⟩
  rw [if_neg (fun e => e.elim w.2.2.1 w.2.2.2)]
  exact h e (List.mem_of_mem_take he)
theorem repl_ints (k : Nat) (i : Int) : List.replicate k (V.int i) = (List.replicate k i).map V.int := by rw [List.map_replicate]
theorem zr_bd {k : Nat} (h : k ≤ 16) : Bd 21 1 1376 (.tuple ((List.replicate k (0 : Int)).map PyData.int)) := by
  obtain ⟨a, b, c⟩ := weiA_ints (ns := List.replicate k (0 : Int)) fun x hx => by
    rw [(List.mem_replicate.mp hx).2]
    decide
  rw [List.length_replicate] at a
  exact BdA.tup ⟨b, c, by omega⟩
theorem zr_ah {k : Nat} (h1 : 1 ≤ k) (h2 : k ≤ 16) : isAh (.tuple ((List.replicate k (0 : Int)).map PyData.int)) = true := by
  show (decide (1 ≤ (List.map PyData.int _).length ∧ (List.map PyData.int _).length ≤ 16) && _) = true
  rw [List.length_map, List.length_replicate, decide_eq_true ⟨h1, h2⟩, Bool.true_and, List.all_map, List.all_eq_true]
  intro x hx
  rw [(List.mem_replicate.mp hx).2]
  rfl
def sp__law_piece (_ : PySem.W.Frag) : Sp := fun vs H Q _ => ∃ (b : Addr) (n ahead : Nat), vs = [.ref b, .int (ahead : Nat)] ∧ Bx H b n ∧ n < 1000000 ∧ ahead ≤ 24 ∧
  ∀ H' v, But b H H' → Bx H' b (n + 320) → PIt b H' ahead v → Q v H'
theorem ok__law_piece (T : Defs K mg) (TT : Tabs T base) : FnOk P w K mg base CX0 11 T.f__law_piece T.fd__law_piece ["_law_box_here", "_law_ahead"] (sp__law_piece K) := by
  have G__law_maker : FnOk P w K mg base CX0 10 T.f__law_maker T.fd__law_maker ["_law_box_here", "_law_most"] (sp__law_maker K) := ok__law_maker T TT
  have G__law_take : FnOk P w K mg base CX0 1 T.f__law_take T.fd__law_take ["_law_box_here", "_law_many"] (sp__law_take K) := ok__law_take T TT
  refine T.F__law_piece.ok sc__law_piece (fun vs H Q E h => ?_) (fun cdv A outer s H vs Q E hr h => ?_)
  · obtain ⟨b, n, ahead, rfl, hB, hn, ha24, q⟩ := h
    rfl
  · obtain ⟨b, n, ahead, rfl, hB, hn, ha24, q⟩ := h
    refine ⟨_, PSs.nox (pss_cons (ps_par (i := 2) (j := 3) (by rfl) sc__law_piece.nd rfl rfl (by decide) rfl rfl (pa_cons (pe_call G__law_maker (hr.mono (by decide)) (by rfl) T.g__law_maker T.F__law_maker.kp T.b__law_maker .nil pass0 (pa_cons (pv 0) (pa_cons pe_int pa_nil))) (pa_cons (pe_call G__law_take (hr.mono (by decide)) (by rfl) T.g__law_take T.F__law_take.kp T.b__law_take .nil pass0 (pa_cons (pv 0) (pa_cons pe_int pa_nil))) pa_nil)) (by rfl))
    (pss_cons (ps_if (PW.pt (pw_or (pt_cmpR op_eq (pv 1) pe_int (nomark _)) (pw_or1 (pt_cmpR op_lt (pv 3) pe_int (nomark _))))) (pss_one (ps_ret (pe_tup (pa_cons pe_str (pa_cons (pv 2) (pa_cons (pe_call G__law_take (hr.mono (by decide)) (by rfl) T.g__law_take T.F__law_take.kp T.b__law_take .nil pass0 (pa_cons (pv 0) (pa_cons pe_int pa_nil))) pa_nil)))))) pss_nil)
    (pss_cons (ps_asg (pe_lc (own := [("_law_turn", 8)]) (g := gName 8) (tt := tYes) rfl sc__law_piece.nd (pi_range1 (by rfl) T.m_range (pa_cons pe_int pa_nil)) (blkOk_by (N := N__law_piece) (sc := defScope s__law_piece) (by decide +kernel)) (fun _ _ _ _ _ => (pg_name (i := 8) sc__law_piece.nd rfl (.inl rfl))) (fun _ _ _ _ _ => pts_nil) (fun _ _ _ _ _ => (pe_call G__law_take (hr.mono (by decide)) (by rfl) T.g__law_take T.F__law_take.kp T.b__law_take .nil pass0 (pa_cons (pv 0) (pa_cons (pv 1) pa_nil))))) (pg_unl rfl (pgs_cons (pg_name (i := 4) sc__law_piece.nd rfl (.inl rfl)) (pgs_cons (pg_name (i := 5) sc__law_piece.nd rfl (.inl rfl)) (pgs_cons (pg_name (i := 6) sc__law_piece.nd rfl (.inl rfl)) pgs_nil)))))
    (pss_cons (ps_set (i := 7) sc__law_piece.nd rfl (.inl rfl) (pe_lst (pa_cons (pe_tup (pa_cons pe_str (pa_cons (pv 4) pa_nil))) (pa_cons (pe_tup (pa_cons pe_str (pa_cons (pv 4) (pa_cons (pv 5) pa_nil)))) (pa_cons (pe_tup (pa_cons pe_str (pa_cons (pv 4) (pa_cons (pv 5) (pa_cons (pv 6) pa_nil))))) (pa_cons (pe_tup (pa_cons pe_str (pa_cons (pv 4) (pa_cons (pv 5) (pa_cons (pe_call G__law_take (hr.mono (by decide)) (by rfl) T.g__law_take T.F__law_take.kp T.b__law_take .nil pass0 (pa_cons (pv 0) (pa_cons pe_int pa_nil))) pa_nil))))) pa_nil))))))
    (pss_cons (ps_set (i := 7) sc__law_piece.nd rfl (.inl rfl) (pe_op op_cat (pv 7) (pe_lst (pa_cons (pe_tup (pa_cons pe_str (pa_cons (pv 4) (pa_cons (pe_op op_repS (pe_tup (pa_cons pe_int pa_nil)) (pe_op op_add pe_int (pe_call G__law_take (hr.mono (by decide)) (by rfl) T.g__law_take T.F__law_take.kp T.b__law_take .nil pass0 (pa_cons (pv 0) (pa_cons pe_int pa_nil))))) pa_nil)))) (pa_cons (pe_tup (pa_cons pe_str (pa_cons (pv 4) (pa_cons (pv 5) (pa_cons (pv 2) (pa_cons pe_int (pa_cons (pe_call G__law_take (hr.mono (by decide)) (by rfl) T.g__law_take T.F__law_take.kp T.b__law_take .nil pass0 (pa_cons (pv 0) (pa_cons pe_int pa_nil))) pa_nil))))))) pa_nil)))))
    (pss_one (ps_ret (pe_ix ix_list (pv 7) (pe_call G__law_take (hr.mono (by decide)) (by rfl) T.g__law_take T.F__law_take.kp T.b__law_take .nil pass0 (pa_cons (pv 0) (pa_cons pe_int pa_nil))) (fun _ _ => rfl))))))))), ?_⟩
    refine ⟨.ref b, rfl, b, 64, n, rfl, hB, by omega, by decide, fun H1 mv m c1 B1 hm ok dp rn vd => ?_⟩
    refine ⟨.ref b, rfl, b, 6, _, rfl, B1, by decide, by decide, by omega, fun H2 way c2 B2 l2 u2 => ⟨_, _, rfl, ?_⟩⟩
    have c12 := c1.trans c2
    have hm2 := hm.but B1 c2
    have im : isMkD (mkd m) := ⟨m, rfl, ok, vd, dp, by omega⟩
    have mb := (mkd_bd ok).mono (Nat.le_refl _) (show m.dep + 2 ≤ 5 by omega) (show _ ≤ 6300 by omega)
    have tm : ∀ (Z : Hp) (k : Nat), Bx Z b k → MkAt Z m mv → Tg (fun q => q = b) Z mv (mkd m) := fun Z k B h => mk_tg (fun a xs e => B.ne_tup e) h
    have mkit : ∀ (Z : Hp) (t : Addr) (k : Int) (nk : Nat), Bx Z b nk → MkAt Z m mv → Z t = none → 0 ≤ k → k ≤ 64 → PIt b (upd Z t (.tup [.str "make", mv, .int k])) ahead (.ref t) := fun Z t k nk B h nt h0 h1 =>
      ⟨_, .tup (ne_new B nt) upd_same (.cons (.str _) (.cons ((tm Z _ B h).same (same_upd nt)) (.cons (.int _) .nil))),
        (bdA_w (okP _ (by simp)) (((BdA.one mb).app (bdA_1 h0 (by omega) bdA_0)).mono (Nat.le_refl _) (show max 5 0 ≤ 5 by decide) (Nat.le_refl _))).mono (Nat.le_refl _) (by decide) (by decide),
        fun m' _ => ⟨"make", _, 0, rfl, .make im (wi h0 h1), by decide +kernel, fun e he => (by simp at he)⟩, ⟨_, _, rfl⟩, by
        show (true && (tO (mkd m) && (true && true))) = true
        rw [tO_mk]
        rfl⟩
    have make : ∀ σ : L2.St, ∃ x : V, True := fun _ => ⟨.non, trivial⟩
    clear make
    have fin : ∀ (Z : Hp) (k : Int) (t : Addr), But b H2 Z → Bx Z b (n + 302) → Z t = none → 0 ≤ k → k < 65 → Q (.ref t) (upd Z t (.tup [.str "make", mv, .int k])) := fun Z k t bZ BZ nt h0 h1 =>
      q _ _ ((c12.trans bZ).trans (same_but (same_upd nt))) ((BZ.same (same_upd nt)).mono (by omega)) (mkit Z t k _ BZ (hm2.but B2 bZ) nt h0 (by omega))
    refine ⟨_, rfl, rfl, _, rfl, ite2 (fun _ => ⟨mv, rfl, .ref b, rfl, b, 65, _, rfl, B2, by decide, by decide, by omega, fun H3 k c3 B3 l3 u3 => ⟨(show 3 ≤ sizeLine by decide), fun t nt => fin H3 k t c3 (B3.mono (by omega)) nt l3 (by omega)⟩⟩) (fun a0 => ⟨_, rfl, _, _, rfl, rfl, _, rfl, ite2 (fun _ => ⟨mv, rfl, .ref b, rfl, b, 65, _, rfl, B2, by decide, by decide, by omega, fun H3 k c3 B3 l3 u3 => ⟨(show 3 ≤ sizeLine by decide), fun t nt => fin H3 k t c3 (B3.mono (by omega)) nt l3 (by omega)⟩⟩) (fun _ => ?_)⟩)⟩
    have a1 : 1 ≤ ahead := by
      have : ¬ V.int (ahead : Nat) = V.int 0 := fun e => a0 (decide_eq_true e)
      have : ahead ≠ 0 := fun e => this (by rw [e]; rfl)
      omega
    refine ⟨3, rfl, by decide, by decide, fun D nD => ?_⟩
    have Db := ne_new B2 nD
    refine lc_range (PN b D H2 ahead (n + 301)) (pn_start nD (B2.mono (by omega))) (fun i E5 hi h5 => ?_) (fun E5 h5 => ?_)
    · have i3 : i < 3 := hi
      obtain ⟨rs, e1, e2, e3, e4, e5⟩ := h5
      refine ⟨rfl, yes_ite ⟨.ref b, rfl, .int (ahead : Nat), rfl, b, ahead, _, rfl, e4, by omega, by omega, by omega, fun E6 x c6 B6 l6 u6 => ?_⟩⟩
      exact pn_step nD Db ⟨rs, e1, e2, e3, e4, e5⟩ c6 B6 (by omega) ⟨l6, u6⟩
    obtain ⟨rs, e1, e2, b3, B3, hD⟩ := h5
    obtain ⟨ra, rb, rc, rfl⟩ : ∃ x y z, rs = [x, y, z] := by
      have e1 : rs.length = 3 := e1
      match rs, e1 with
      | [x, y, z], _ => exact ⟨x, y, z, rfl⟩
    have va := e2 ra (by simp)
    have vb := e2 rb (by simp)
    have vc := e2 rc (by simp)
    clear e1 e2
    refine ⟨D, _, rfl, SqL.mk hD, rfl, _, _, rfl, _, _, rfl, _, _, rfl, rfl, ?_⟩
    have hm3 := hm2.but B2 b3
    have b03 := c12.trans b3
    clear hD Db nD b3
    have BB := B3
    have bb := But.refl b E5
    refine ⟨_, rfl, (show 2 ≤ sizeLine by decide), fun p1 np1 => ?_⟩
    have sp1 := same_upd np1 (o := .tup [.str "less", .int ra])
    have ip1 : PIt b (upd E5 p1 (.tup [.str "less", .int ra])) ahead (.ref p1) := ⟨_, .tup (ne_new BB np1) upd_same (.cons (.str _) (.cons (.int _) .nil)), (bdA_w (okP _ (by simp)) (bdA_1 (by omega) (by omega) (bdA_0))).mono (Nat.le_refl _) (show 0 + 1 ≤ 6 by decide) (by decide), pc_side (show sideN "less" = some 1 by decide +kernel) (show askN "less" = some 1 by decide +kernel) (fun e he => by
      simp only [List.mem_cons, List.not_mem_nil, or_false] at he
      subst he
      exact wi (by omega) (by omega)), ⟨_, _, rfl⟩, rfl⟩
    have hm3 := hm3.same sp1
    have BB := BB.same sp1
    have bb := bb.trans (same_but sp1)
    generalize upd E5 p1 (.tup [.str "less", .int ra]) = F1 at ip1 hm3 BB bb ⊢
    refine ⟨_, rfl, _, rfl, (show 3 ≤ sizeLine by decide), fun p2 np2 => ?_⟩
    have sp2 := same_upd np2 (o := .tup [.str "both", .int ra, .int rb])
    have ip2 : PIt b (upd F1 p2 (.tup [.str "both", .int ra, .int rb])) ahead (.ref p2) := ⟨_, .tup (ne_new BB np2) upd_same (.cons (.str _) (.cons (.int _) (.cons (.int _) .nil))), (bdA_w (okP _ (by simp)) (bdA_1 (by omega) (by omega) (bdA_1 (by omega) (by omega) (bdA_0)))).mono (Nat.le_refl _) (show 0 + 1 ≤ 6 by decide) (by decide), pc_side (show sideN "both" = some 2 by decide +kernel) (show askN "both" = some 2 by decide +kernel) (fun e he => by
      simp only [List.mem_cons, List.not_mem_nil, or_false] at he
      rcases he with rfl | rfl
      · exact wi (by omega) (by omega)
      · exact wi (by omega) (by omega)), ⟨_, _, rfl⟩, rfl⟩
    have hm3 := hm3.same sp2
    have ip1 := ip1.same sp2
    have BB := BB.same sp2
    have bb := bb.trans (same_but sp2)
    generalize upd F1 p2 (.tup [.str "both", .int ra, .int rb]) = F2 at ip2 hm3 ip1 BB bb ⊢
    refine ⟨_, rfl, _, rfl, _, rfl, (show 4 ≤ sizeLine by decide), fun p3 np3 => ?_⟩
    have sp3 := same_upd np3 (o := .tup [.str "pick", .int ra, .int rb, .int rc])
    have ip3 : PIt b (upd F2 p3 (.tup [.str "pick", .int ra, .int rb, .int rc])) ahead (.ref p3) := ⟨_, .tup (ne_new BB np3) upd_same (.cons (.str _) (.cons (.int _) (.cons (.int _) (.cons (.int _) .nil)))), (bdA_w (okP _ (by simp)) (bdA_1 (by omega) (by omega) (bdA_1 (by omega) (by omega) (bdA_1 (by omega) (by omega) (bdA_0))))).mono (Nat.le_refl _) (show 0 + 1 ≤ 6 by decide) (by decide), pc_side (show sideN "pick" = some 3 by decide +kernel) (show askN "pick" = some 3 by decide +kernel) (fun e he => by
      simp only [List.mem_cons, List.not_mem_nil, or_false] at he
      rcases he with rfl | rfl | rfl
      · exact wi (by omega) (by omega)
      · exact wi (by omega) (by omega)
      · exact wi (by omega) (by omega)), ⟨_, _, rfl⟩, rfl⟩
    have hm3 := hm3.same sp3
    have ip1 := ip1.same sp3
    have ip2 := ip2.same sp3
    have BB := BB.same sp3
    have bb := bb.trans (same_but sp3)
    generalize upd F2 p3 (.tup [.str "pick", .int ra, .int rb, .int rc]) = F3 at ip3 hm3 ip1 ip2 BB bb ⊢
    refine ⟨_, rfl, _, rfl, .ref b, rfl, b, 2, _, rfl, BB, by decide, by decide, by omega, fun F4 r4 c4 B4 l4 u4 => ?_⟩
    have hm3 := hm3.but BB c4
    have ip1 := ip1.but c4
    have ip2 := ip2.but c4
    have ip3 := ip3.but c4
    have bb := bb.trans c4
    have BB := B4
    refine ⟨(show 4 ≤ sizeLine by decide), fun p4 np4 => ?_⟩
    have sp4 := same_upd np4 (o := .tup [.str "keep", .int ra, .int rb, .int r4])
    have ip4 : PIt b (upd F4 p4 (.tup [.str "keep", .int ra, .int rb, .int r4])) ahead (.ref p4) := ⟨_, .tup (ne_new BB np4) upd_same (.cons (.str _) (.cons (.int _) (.cons (.int _) (.cons (.int _) .nil)))), (bdA_w (okP _ (by simp)) (bdA_1 (by omega) (by omega) (bdA_1 (by omega) (by omega) (bdA_1 (by omega) (by omega) bdA_0)))).mono (Nat.le_refl _) (show 0 + 1 ≤ 6 by decide) (by decide), fun m' hm' => ⟨"keep", _, 2, rfl, .keep (wi (by omega) (by omega)), by decide +kernel, fun e he => by
      rw [if_neg (by decide +kernel)]
      have he : e ∈ [PyData.int ra, .int rb] := he
      simp only [List.mem_cons, List.not_mem_nil, or_false] at he
      rcases he with rfl | rfl
      · exact wi (by omega) (by omega)
      · exact wi (by omega) (by omega)⟩, ⟨_, _, rfl⟩, rfl⟩
    have hm3 := hm3.same sp4
    have ip1 := ip1.same sp4
    have ip2 := ip2.same sp4
    have ip3 := ip3.same sp4
    have BB := BB.same sp4
    have bb := bb.trans (same_but sp4)
    generalize upd F4 p4 (.tup [.str "keep", .int ra, .int rb, .int r4]) = F5 at ip4 hm3 ip1 ip2 ip3 BB bb ⊢
    refine ⟨(show 4 ≤ sizeLine by decide), fun l1 nl1 => ?_⟩
    have sl1 := same_upd nl1 (o := .lst [.ref p1, .ref p2, .ref p3, .ref p4])
    have hl1 := upd_same (H := F5) (a := l1) (o := .lst [.ref p1, .ref p2, .ref p3, .ref p4])
    have l1b := ne_new BB nl1
    have hm3 := hm3.same sl1
    have ip1 := ip1.same sl1
    have ip2 := ip2.same sl1
    have ip3 := ip3.same sl1
    have ip4 := ip4.same sl1
    have BB := BB.same sl1
    have bb := bb.trans (same_but sl1)
    generalize upd F5 l1 (.lst [.ref p1, .ref p2, .ref p3, .ref p4]) = F6 at hl1 hm3 ip1 ip2 ip3 ip4 BB bb ⊢
    refine ⟨.ref l1, rfl, _, rfl, (show 1 ≤ sizeLine by decide), fun z0 nz0 => ?_⟩
    have sz0 := same_upd nz0 (o := .tup [.int 0])
    have hz0 := upd_same (H := F6) (a := z0) (o := .tup [.int 0])
    have hl1 := sz0 _ _ hl1
    have hm3 := hm3.same sz0
    have ip1 := ip1.same sz0
    have ip2 := ip2.same sz0
    have ip3 := ip3.same sz0
    have ip4 := ip4.same sz0
    have z0b := ne_new BB nz0
    have BB := BB.same sz0
    have bb := bb.trans (same_but sz0)
    generalize upd F6 z0 (.tup [.int 0]) = F7 at hz0 hl1 hm3 ip1 ip2 ip3 ip4 BB bb ⊢
    refine ⟨.ref b, rfl, b, 16, _, rfl, BB, by decide, by decide, by omega, fun F8 r8 c8 B8 l8 u8 => ?_⟩
    obtain ⟨r8, rfl⟩ := nat_of l8
    have hz0 := c8 _ _ z0b hz0
    have hl1 := c8 _ _ l1b hl1
    have hm3 := hm3.but BB c8
    have ip1 := ip1.but c8
    have ip2 := ip2.but c8
    have ip3 := ip3.but c8
    have ip4 := ip4.but c8
    have bb := bb.trans c8
    have BB := B8
    refine ⟨_, _, rfl, rfl, z0, r8 + 1, .int 0, rfl, congrArg V.int (by omega), hz0, by omega, fun F9 zr s9 hzr => ?_⟩
    rw [repl_ints] at hzr
    have hl1 := s9 _ _ hl1
    have hm3 := hm3.same s9
    have ip1 := ip1.same s9
    have ip2 := ip2.same s9
    have ip3 := ip3.same s9
    have ip4 := ip4.same s9
    have BB := BB.same s9
    have bb := bb.trans (same_but s9)
    refine ⟨(show 3 ≤ sizeLine by decide), fun p5 np5 => ?_⟩
    have sp5 := same_upd np5 (o := .tup [.str "late", .int ra, .ref zr])
    have ip5 : PIt b (upd F9 p5 (.tup [.str "late", .int ra, .ref zr])) ahead (.ref p5) := ⟨_, .tup (ne_new BB np5) upd_same (.cons (.str _) (.cons (.int _) (.cons (.tup (BB.ne_tup hzr) ((same_upd np5) _ _ hzr) (TgA.of_ints _)) .nil))), (bdA_w (okP _ (by simp)) (bdA_1 (by omega) (by omega) (BdA.one (zr_bd (show r8 + 1 ≤ 16 by omega))))).mono (Nat.le_refl _) (by decide) (by decide), fun m' hm' => ⟨"late", _, 1, rfl, .late (zr_ah (by omega) (by omega)), by decide +kernel, fun e he => by
      rw [if_pos (.inl rfl)]
      have he : e ∈ [PyData.int ra] := he
      rw [List.mem_singleton.mp he]
      exact wi (by omega) (by omega)⟩, ⟨_, _, rfl⟩, by
      show (true && (true && (tOA ((List.replicate (r8 + 1) (0 : Int)).map PyData.int) && true))) = true
      rw [tO_ints]
      rfl⟩
    have hl1 := sp5 _ _ hl1
    have hm3 := hm3.same sp5
    have ip1 := ip1.same sp5
    have ip2 := ip2.same sp5
    have ip3 := ip3.same sp5
    have ip4 := ip4.same sp5
    have BB := BB.same sp5
    have bb := bb.trans (same_but sp5)
    generalize upd F9 p5 (.tup [.str "late", .int ra, .ref zr]) = G1 at ip5 hl1 hm3 ip1 ip2 ip3 ip4 BB bb ⊢
    refine ⟨_, rfl, _, rfl, mv, rfl, .ref b, rfl, b, 8, _, rfl, BB, by decide, by decide, by omega, fun G2 r9 c9 B9 l9 u9 => ?_⟩
    have hl1 := c9 _ _ l1b hl1
    have hm3 := hm3.but BB c9
    have ip1 := ip1.but c9
    have ip2 := ip2.but c9
    have ip3 := ip3.but c9
    have ip4 := ip4.but c9
    have ip5 := ip5.but c9
    have bb := bb.trans c9
    have BB := B9
    refine ⟨(show 6 ≤ sizeLine by decide), fun p6 np6 => ?_⟩
    have sp6 := same_upd np6 (o := .tup [.str "keeper", .int ra, .int rb, mv, .int 7, .int r9])
    have ip6 : PIt b (upd G2 p6 (.tup [.str "keeper", .int ra, .int rb, mv, .int 7, .int r9])) ahead (.ref p6) := ⟨_, .tup (ne_new BB np6) upd_same (.cons (.str _) (.cons (.int _) (.cons (.int _) (.cons ((tm _ _ BB hm3).same (same_upd np6)) (.cons (.int _) (.cons (.int _) .nil)))))), (bdA_w (okP _ (by simp)) (bdA_1 (i := ra) (by omega) (by omega) (bdA_1 (i := rb) (by omega) (by omega) (((BdA.one mb).app (bdA_1 (i := 7) (by omega) (by omega) (bdA_1 (i := r9) (by omega) (by omega) bdA_0))).mono (Nat.le_refl _) (show max 5 0 ≤ 5 by decide) (Nat.le_refl _))))).mono (Nat.le_refl _) (by decide) (by decide), fun m' hm' => ⟨"keeper", _, 2, rfl, .keeper im (by decide) (by decide) (wi (by omega) (by omega)), by decide +kernel, fun e he => by
      rw [if_pos (.inr rfl)]
      have he : e ∈ [PyData.int ra, .int rb] := he
      simp only [List.mem_cons, List.not_mem_nil, or_false] at he
      rcases he with rfl | rfl
      · exact wi (by omega) (by omega)
      · exact wi (by omega) (by omega)⟩, ⟨_, _, rfl⟩, by
      show (true && (true && (true && (tO (mkd m) && (true && (true && true)))))) = true
      rw [tO_mk]
      rfl⟩
    have hl1 := sp6 _ _ hl1
    have hm3 := hm3.same sp6
    have ip1 := ip1.same sp6
    have ip2 := ip2.same sp6
    have ip3 := ip3.same sp6
    have ip4 := ip4.same sp6
    have ip5 := ip5.same sp6
    have BB := BB.same sp6
    have bb := bb.trans (same_but sp6)
    generalize upd G2 p6 (.tup [.str "keeper", .int ra, .int rb, mv, .int 7, .int r9]) = G3 at ip6 hl1 hm3 ip1 ip2 ip3 ip4 ip5 BB bb ⊢
    refine ⟨(show 2 ≤ sizeLine by decide), fun l2 nl2 => ?_⟩
    have sl2 := same_upd nl2 (o := .lst [.ref p5, .ref p6])
    have hl2 := upd_same (H := G3) (a := l2) (o := .lst [.ref p5, .ref p6])
    have hl1 := sl2 _ _ hl1
    have ip1 := ip1.same sl2
    have ip2 := ip2.same sl2
    have ip3 := ip3.same sl2
    have ip4 := ip4.same sl2
    have ip5 := ip5.same sl2
    have ip6 := ip6.same sl2
    have BB := BB.same sl2
    have bb := bb.trans (same_but sl2)
    generalize upd G3 l2 (.lst [.ref p5, .ref p6]) = G4 at hl1 hl2 ip1 ip2 ip3 ip4 ip5 ip6 BB bb ⊢
    refine ⟨l1, l2, _, _, rfl, rfl, hl1, hl2, (show 4 + 2 ≤ sizeLine by decide), fun l3 nl3 => ?_⟩
    have sl3 := same_upd nl3 (o := .lst ([V.ref p1, .ref p2, .ref p3, .ref p4] ++ [.ref p5, .ref p6]))
    have hl3 : (upd G4 l3 (.lst ([V.ref p1, .ref p2, .ref p3, .ref p4] ++ [.ref p5, .ref p6]))) l3 = some (.lst [V.ref p1, .ref p2, .ref p3, .ref p4, .ref p5, .ref p6]) := upd_same
    have l3b := ne_new BB nl3
    have ip1 := ip1.same sl3
    have ip2 := ip2.same sl3
    have ip3 := ip3.same sl3
    have ip4 := ip4.same sl3
    have ip5 := ip5.same sl3
    have ip6 := ip6.same sl3
    have BB := BB.same sl3
    have bb := bb.trans (same_but sl3)
    generalize upd G4 l3 (.lst ([V.ref p1, .ref p2, .ref p3, .ref p4] ++ [.ref p5, .ref p6])) = G5 at hl3 ip1 ip2 ip3 ip4 ip5 ip6 BB bb ⊢
    refine ⟨.ref l3, rfl, .ref b, rfl, b, 6, _, rfl, BB, by decide, by decide, by omega, fun G6 rr cc B6 l6 u6 => ?_⟩
    obtain ⟨v, ev, iv⟩ := at_menuV (Pr := fun v => PIt b G6 ahead v) (xs := [.ref p1, .ref p2, .ref p3, .ref p4, .ref p5, .ref p6]) l6 u6 (fun x hx => by
      simp only [List.mem_cons, List.not_mem_nil, or_false] at hx
      rcases hx with rfl | rfl | rfl | rfl | rfl | rfl
      · exact ip1.but cc
      · exact ip2.but cc
      · exact ip3.but cc
      · exact ip4.but cc
      · exact ip5.but cc
      · exact ip6.but cc)
    exact ⟨l3, _, _, v, rfl, rfl, SqL.mk (cc _ _ l3b hl3), ev, q G6 v (b03.trans (bb.trans cc)) (B6.mono (by omega)) iv⟩
def Ktab {K : PySem.W.Frag} {mg : Str → Option Value} (T : Defs K mg) (H : Hp) : Prop := MTab T H ∧ GxR.TabG H T.P_is_machine ∧ GxR.TabG H T.P_is_row
theorem Ktab.sam {T : Defs K mg} {H H' : Hp} (h : Ktab T H) (s : Sam H H') : Ktab T H' := ⟨h.1.sam s, s.tabG h.2.1, s.tabG h.2.2⟩
theorem Ktab.bus {T : Defs K mg} {H H' : Hp} {p : Addr} {n : Nat} (h : Ktab T H) (B : Bx H p n) (s : Bus p H H') : Ktab T H' := ⟨⟨s.tabG B h.1.tb, s.tabG B h.1.ah, s.tabG B h.1.pc⟩, s.tabG B h.2.1, s.tabG B h.2.2⟩
def sp__law_told {K : PySem.W.Frag} {mg : Str → Option Value} (T : Defs K mg) : Sp := fun vs H Q _ => ∃ (p : Addr → Prop) (v : V) (d : PyData) (kb nb wb : Nat), vs = [v] ∧ Tg p H v d ∧ Bd kb nb wb d ∧ nb ≤ 60 ∧ Ktab T H ∧ ∀ H' l, Sam H H' → H l = none → H' l = some (.lst ((kinds d).map V.bl)) → Q (.ref l) H'
theorem ok__law_told (T : Defs K mg) (TT : Tabs T base) : FnOk P w K mg base CX0 15 T.f__law_told T.fd__law_told ["_law_thing"] (sp__law_told T) := by
  have G_is_share : FnOk P w K mg base CX0 3 T.f_is_share T.fd_is_share ["thing"] (sp_is_share K) := ok_is_share T TT
  have G_is_row : FnOk P w K mg base CX0 5 T.f_is_row T.fd_is_row ["thing"] (sp_is_row T) := ok_is_row T TT
  have G_is_maker : FnOk P w K mg base CX0 10 T.f_is_maker T.fd_is_maker ["thing"] (sp_is_maker T) := ok_is_maker T TT
  have G_is_formula : FnOk P w K mg base CX0 4 T.f_is_formula T.fd_is_formula ["thing"] (sp_is_formula K) := ok_is_formula T TT
  have G_is_machine : FnOk P w K mg base CX0 14 T.f_is_machine T.fd_is_machine ["thing"] (sp_is_machine T) := ok_is_machine T TT
  refine T.F__law_told.ok sc__law_told (fun vs H Q E h => ?_) (fun cdv A outer s H vs Q E hr h => ?_)
  · obtain ⟨p, v, d, kb, nb, wb, rfl, hv, bd, nb60, kt, q⟩ := h
    rfl
  · obtain ⟨p, v, d, kb, nb, wb, rfl, hv, bd, nb60, kt, q⟩ := h
    refine ⟨_, PSs.nox (pss_one (ps_ret (pe_lst (pa_cons (pe_call G_is_share (hr.mono (by decide)) (by rfl) T.g_is_share T.F_is_share.kp T.b_is_share .nil pass0 (pa_cons (pv 0) pa_nil)) (pa_cons (pe_call G_is_row (hr.mono (by decide)) (by rfl) T.g_is_row T.F_is_row.kp T.b_is_row .nil pass0 (pa_cons (pv 0) pa_nil)) (pa_cons (pe_call G_is_maker (hr.mono (by decide)) (by rfl) T.g_is_maker T.F_is_maker.kp T.b_is_maker .nil pass0 (pa_cons (pv 0) pa_nil)) (pa_cons (pe_call G_is_formula (hr.mono (by decide)) (by rfl) T.g_is_formula T.F_is_formula.kp T.b_is_formula .nil pass0 (pa_cons (pv 0) pa_nil)) (pa_cons (pe_call G_is_machine (hr.mono (by decide)) (by rfl) T.g_is_machine T.F_is_machine.kp T.b_is_machine .nil pass0 (pa_cons (pv 0) pa_nil)) pa_nil)))))))), ?_⟩
    refine ⟨v, rfl, p, v, d, rfl, hv, v, rfl, p, v, d, rfl, hv, kt.2.2, fun H1 s1 => ?_⟩
    refine ⟨v, rfl, p, v, d, kb, nb, wb, rfl, hv.sam s1, bd, nb60, (kt.1.sam s1).tb, fun H2 r2 s2 h2 => ?_⟩
    have s12 := s1.trans s2
    refine ⟨v, rfl, p, v, d, rfl, hv.sam s12, fun H3 s3 => ?_⟩
    have s13 := s12.trans (Sam.of s3)
    refine ⟨v, rfl, p, v, d, kb, nb, wb, rfl, hv.sam s13, bd, nb60, kt.1.sam s13, s13.tabG kt.2.1, fun H4 r4 s4 h4 => ⟨(show 5 ≤ sizeLine by decide), fun l nl => ?_⟩⟩
    have s14 := s13.trans s4
    refine q _ l (s14.trans (Sam.of (same_upd nl))) (s14.free nl) ?_
    rw [upd_same]
    unfold kinds
    rw [dec_r h2, dec_r h4]
    rfl
def sp__law_is {K : PySem.W.Frag} {mg : Str → Option Value} (T : Defs K mg) : Sp := fun vs H Q _ => ∃ (p : Addr → Prop) (v : V) (d : PyData) (nb wb : Nat) (e : Addr), vs = [v, .ref e] ∧ Tg p H v d ∧ Bd 23 nb wb d ∧ nb ≤ 20 ∧ wb ≤ 90000 ∧ H e = some (.lst ((kinds d).map V.bl)) ∧ Ktab T H ∧ ∀ H', Sam H H' → Q (.bl true) H'
theorem Bd.sho2 {n w : Nat} {d : PyData} (h : Bd 23 n w d) (hn : n ≤ 20) (hw : w ≤ 90000) : Sho d := (h.mono (Nat.le_refl _) hn hw).shs.sho (by decide) (by decide) (by decide) (by decide)
theorem dp_bls {K : PySem.W.Frag} {H : Hp} : ∀ rs : List Bool, DpAll K H (rs.map V.bl) (rs.map PyData.bool)
  | [] => .nil
  | r :: rs => .cons (.bl r) (dp_bls rs)
theorem eqv_bls : ∀ rs : List Bool, PyData.eqv (.list (rs.map PyData.bool)) (.list (rs.map PyData.bool)) = true := fun rs => by
  have : ∀ rs : List Bool, PyData.eqvAll (rs.map PyData.bool) (rs.map PyData.bool) = true := fun rs => by
    induction rs with
    | nil => rfl
    | cons r rs ih =>
      show (PyData.eqv (.bool r) (.bool r) && _) = true
      rw [ih]
      cases r <;> rfl
  exact this rs
theorem kinds_len (d : PyData) : (kinds d).length = 5 := rfl
theorem sh_bls5 {rs : List Bool} (h : rs.length = 5) : SeqAt.shaped (.list (rs.map PyData.bool)) = true := by
  match rs, h with
  | [a, b, c, d, e], _ => rfl
theorem ok__law_is (T : Defs K mg) (TT : Tabs T base) : GOk P w K mg base CX0 16 T.f__law_is T.fd__law_is ["_law_thing", "_law_due"] (sp__law_is T) := by
  have G__law_told : FnOk P w K mg base CX0 15 T.f__law_told T.fd__law_told ["_law_thing"] (sp__law_told T) := ok__law_told T TT
  refine gok_of T.F__law_is sc__law_is (fun vs H Q E h => ?_) (fun cdv A outer s H vs Q E hg hr h => ?_)
  · obtain ⟨p, v, d, nb, wb, e, rfl, hv, bd, nb20, wb6, he, kt, q⟩ := h
    rfl
  · obtain ⟨p, v, d, nb, wb, e, rfl, hv, bd, nb20, wb6, he, kt, q⟩ := h
    refine ⟨_, PSs.nox (pss_cons (ps_set (i := 2) sc__law_is.nd rfl (.inl rfl) (pe_callTy (call_strX hg (u70g hr)) (by rfl) T.m_str bt_str (pa_cons (pv 0) pa_nil)))
    (pss_cons ((ps_for PassesOwn.never rfl (pi_range1 (by rfl) T.m_range (pa_cons pe_int pa_nil)) (pg_name (i := 3) sc__law_is.nd rfl (.inl rfl)) (pss_cons (ps_set (i := 4) sc__law_is.nd rfl (.inl rfl) (pe_call G__law_told (hr.mono (by decide)) (by rfl) T.g__law_told T.F__law_told.kp T.b__law_told .nil pass0 (pa_cons (pv 0) pa_nil)))
    (pss_one (ps_if (PW.pt (pw_or (pt_cmpR (op_neD hr.units) (pe_lc (own := [("_law_one", 5)]) (g := gName 5) (tt := tYes) rfl sc__law_is.nd (pi_list (pv 4)) (blkOk_by (N := N__law_is) (sc := defScope s__law_is) (by decide +kernel)) (fun _ _ _ _ _ => (pg_name (i := 5) sc__law_is.nd rfl (.inl rfl))) (fun _ _ _ _ _ => pts_nil) (fun _ _ _ _ _ => (pe_cmpR op_isBl (pv 5) pe_bl (nomark _)))) (pv 1) (nomark _)) (pw_or1 (pt_cmpR (op_neD hr.units) (pe_lc (own := [("_law_one", 5)]) (g := gName 5) (tt := tYes) rfl sc__law_is.nd (pi_list (pv 4)) (blkOk_by (N := N__law_is) (sc := defScope s__law_is) (by decide +kernel)) (fun _ _ _ _ _ => (pg_name (i := 5) sc__law_is.nd rfl (.inl rfl))) (fun _ _ _ _ _ => pts_nil) (fun _ _ _ _ _ => (pe_cmpR op_isBl (pv 5) pe_bl (nomark _)))) (pe_lc (own := [("_law_one", 5)]) (g := gName 5) (tt := tYes) rfl sc__law_is.nd (pi_list (pv 1)) (blkOk_by (N := N__law_is) (sc := defScope s__law_is) (by decide +kernel)) (fun _ _ _ _ _ => (pg_name (i := 5) sc__law_is.nd rfl (.inl rfl))) (fun _ _ _ _ _ => pts_nil) (fun _ _ _ _ _ => (pe_not (pv 5)))) (nomark _))))) (pss_one (ps_ret pe_bl)) pss_nil)))))
    (pss_one (ps_ret (pe_cmpR op_eq (pe_callTy (call_strX hg (u70g hr)) (by rfl) T.m_str bt_str (pa_cons (pv 0) pa_nil)) (pv 2) (nomark _)))))), ?_⟩
    have sh : Sho d := bd.sho2 nb20 wb6
    have kl := kinds_len d
    obtain ⟨ks, hks⟩ : ∃ ks, kinds d = ks := ⟨_, rfl⟩
    rw [hks] at he kl
    refine ⟨v, rfl, v, d, rfl, hv.dp, .inr sh, ?_⟩
    refine ⟨2, rfl, by decide, by decide, for_range (fun i σ G => ∃ y3 y4, σ = [some v, some (.ref e), some (.str (strD d)), y3, y4, none] ∧ Sam H G) ⟨none, none, rfl, Sam.refl H⟩ ?_ ?_⟩
    rotate_left
    · rintro σ G ⟨y3, y4, rfl, sG⟩
      refine ⟨v, rfl, v, d, rfl, (hv.sam sG).dp, .inr sh, _, rfl, rfl, ?_⟩
      show Q (.bl (decide (V.str (strD d) = V.str (strD d)))) G
      rw [decide_eq_true rfl]
      exact q G sG
    rintro i σ G _ ⟨y3, y4, rfl, sG⟩
    refine ⟨v, rfl, p, v, d, 23, nb, wb, rfl, hv.sam sG, bd, by omega, kt.sam sG, fun G1 l s1 nl hl => ?_⟩
    rw [hks] at hl
    have heG : G1 e = some (.lst (ks.map V.bl)) := (sG.trans s1).lst he
    have hsl : sizeLine = 16777216 := by decide
    refine ⟨.ref l, rfl, l, rfl, ⟨_, SqL.mk hl⟩, fun C nC => ?_⟩
    refine lc_list (xs := ks.map V.bl) (fun i F => Same G1 F ∧ F C = some (.lst (((ks.take i).map fun b => b == true).map V.bl))) ⟨same_upd nC, upd_same⟩ (fun i F _ h => SqL.mk (h.1 _ _ hl)) (fun i x F hx h => ?_) (fun F h => ?_)
    · obtain ⟨s2, hC⟩ := h
      rw [List.getElem?_map] at hx
      obtain ⟨k, hk, rfl⟩ := Option.map_eq_some_iff.mp hx
      have il := (List.getElem?_eq_some_iff.mp hk).1
      refine ⟨rfl, yes_ite ⟨_, rfl, _, _, rfl, rfl, _, hC, by rw [List.length_map, List.length_map, List.length_take]; omega, same_newer s2 nC, ?_⟩⟩
      rw [upd_same, List.take_add_one, hk, List.map_append, List.map_append]
      rfl
    obtain ⟨s2, hC⟩ := h
    rw [List.length_map, List.take_length] at hC
    have k1 : (ks.map fun b => b == true) = ks := by
      rw [List.map_congr_left (g := id) (fun b _ => by cases b <;> rfl), List.map_id]
    rw [k1] at hC
    refine ⟨.ref e, rfl, .list (ks.map PyData.bool), .list (ks.map PyData.bool), .lst (SqL.mk hC) (dp_bls ks), .lst (SqL.mk (s2 _ _ heG)) (dp_bls ks), sh_bls5 kl, sh_bls5 kl, _, rfl, ?_⟩
    rw [eqv_bls]
    refine iteF ?_
    have hl2 := s2 _ _ hl
    have he2 := s2 _ _ heG
    refine ⟨.ref l, rfl, l, rfl, ⟨_, SqL.mk hl2⟩, fun C2 nC2 => ?_⟩
    refine lc_list (xs := ks.map V.bl) (fun i X => Same F X ∧ X C2 = some (.lst (((ks.take i).map fun b => b == false).map V.bl))) ⟨same_upd nC2, upd_same⟩ (fun i X _ h => SqL.mk (h.1 _ _ hl2)) (fun i x X hx h => ?_) (fun X h => ?_)
    · obtain ⟨s3, hC2⟩ := h
      rw [List.getElem?_map] at hx
      obtain ⟨k, hk, rfl⟩ := Option.map_eq_some_iff.mp hx
      have il := (List.getElem?_eq_some_iff.mp hk).1
      refine ⟨rfl, yes_ite ⟨_, rfl, _, _, rfl, rfl, _, hC2, by rw [List.length_map, List.length_map, List.length_take]; omega, same_newer s3 nC2, ?_⟩⟩
      rw [upd_same, List.take_add_one, hk, List.map_append, List.map_append]
      rfl
    obtain ⟨s3, hC2⟩ := h
    rw [List.length_map, List.take_length] at hC2
    have k2 : (ks.map fun b => b == false) = ks.map (!·) := List.map_congr_left (fun b _ => by cases b <;> rfl)
    rw [k2] at hC2
    have he3 := s3 _ _ he2
    refine ⟨.ref e, rfl, e, rfl, ⟨_, SqL.mk he3⟩, fun C3 nC3 => ?_⟩
    refine lc_list (xs := ks.map V.bl) (fun i Y => Same X Y ∧ Y C3 = some (.lst (((ks.take i).map (!·)).map V.bl))) ⟨same_upd nC3, upd_same⟩ (fun i Y _ h => SqL.mk (h.1 _ _ he3)) (fun i x Y hx h => ?_) (fun Y h => ?_)
    · obtain ⟨s4, hC3⟩ := h
      rw [List.getElem?_map] at hx
      obtain ⟨k, hk, rfl⟩ := Option.map_eq_some_iff.mp hx
      have il := (List.getElem?_eq_some_iff.mp hk).1
      refine ⟨rfl, yes_ite ⟨_, rfl, _, rfl, _, hC3, by rw [List.length_map, List.length_map, List.length_take]; omega, same_newer s4 nC3, ?_⟩⟩
      rw [upd_same, List.take_add_one, hk, List.map_append, List.map_append]
      rfl
    obtain ⟨s4, hC3⟩ := h
    rw [List.length_map, List.take_length] at hC3
    have kl2 : (ks.map (!·)).length = 5 := by rw [List.length_map]; exact kl
    refine ⟨.list ((ks.map (!·)).map PyData.bool), .list ((ks.map (!·)).map PyData.bool), .lst (SqL.mk (s4 _ _ hC2)) (dp_bls _), .lst (SqL.mk hC3) (dp_bls _), sh_bls5 kl2, sh_bls5 kl2, _, rfl, ?_⟩
    rw [eqv_bls]
    exact iteF ⟨_, _, rfl, sG.trans (s1.trans (Sam.of (s2.trans (s3.trans s4))))⟩
/-- a call of a def whose promise holds where no text is being made -/
theorem pe_callG {X : Cx} {CX : CXT} {lv : Nat} {fa : Addr} {fdt : FuncData} {prs : List Str} {pr : Sp} {EE : XK} {nm : Str} {p0 p1 : Pos} {a1 : Expr} {as : List Expr} {ta : TA} {us0 : List Value} {vs0 : List V}
    (none_ : X.A.guards = some []) (G : GOk X.prog X.w X.K X.mg X.base CX lv fa fdt prs pr) (room : Room lv X.A) (gl : Gl X nm) (md : X.mg nm = some (.ref fa)) (kp : PySem.W.keepIn X.K (.ref fa) = true) (bs : Binds X.K fdt prs us0) (rl : Vals vs0 us0) (ps : Passes CX X EE)
    (ar : PA X (a1 :: as) ta) (nd : (nm == ("__debug__" : Str)) = false := by decide) (st : starEach (a1 :: as) X.env = (false, eval a1 X.env) :: starEach as X.env := by rfl) (pl : (backTo p1 (starEach as X.env)).any (·.1) = false := by rfl) :
    PE X (.Call (.Name nm p0) (a1 :: as) [] p1) (tCall pr vs0 EE ta) := by
  constructor
  intro pins s0 σ0 H0 Q0 I0 hh
  have go : ∀ (us : List Value) (s1 : Shared) (vs : List V) (H1 : Hp), Inv X pins σ0 H1 s1 → Vals vs us → pr (vs ++ vs0) H1 Q0 EE → wpAny (model X.prog X.w) X.A (call (.ref fa) us) (EP X pins σ0 Q0) X.xe s1 := fun us s1 vs H1 J rv hp => by
    have both_ : Vals (vs ++ vs0) (us ++ us0) := rv.append rl
    have lns : (us ++ us0).length = prs.length := both_.length.symm.trans (G.len _ _ _ _ hp)
    have body := G.run X.A X.stack s1 H1 ⟨us, []⟩ (us ++ us0) (vs ++ vs0) Q0 EE none_ room J.env0 (bs s1 us J.kIn lns) both_ hp
    refine wpAny_call (codeAny_mono body fun res s2 hres => ?_)
    match res, hres with
    | .ok (.ret u), hres => exact J.after hres
    | .ok .next, hres => exact hres.elim
    | .ok .brk, hres => exact hres.elim
    | .ok .cont, hres => exact hres.elim
    | .error er, hres => exact ps pins σ0 H1 s1 er s2 J hres
  refine wpAny_Call_Name_kw (ld_glob I0 gl md ?_ nd)
  exact PySem.W.callWith_K (h₀ := X.base) I0.ok.mod.kin kp (thn (ar.run p1 pins s0 σ0 H0 _ I0 hh) fun us s1 ⟨vs, H1, J, rv, hp⟩ => ⟨J.kIn, go us s1 vs H1 J rv hp⟩) st pl
/-! the law -/
def two (es : List PyData) : Prop := es = [.int 0, .int 1] ∨ es = [.int 1, .int 1]
theorem dec_two (es : List PyData) : two es ∨ ¬ two es := Classical.em _
def due (i : Nat) : List Bool := (List.range 5).map fun j => decide (i = j)
theorem two_row {es : List PyData} (h : two es) : isRowD (.tuple es) = true ∧ isShD (.tuple es) = true := by
  rcases h with rfl | rfl <;> exact ⟨by decide +kernel, by decide +kernel⟩
theorem row_two {x y : Int} (h : isShD (.tuple [.int x, .int y]) = true) (r : isRowD (.tuple [.int x, .int y]) = true) : two [.int x, .int y] := by
  have h := of_decide_eq_true (show decide (0 < y ∧ Int.gcd x y = 1 ∧ 0 ≤ x ∧ x ≤ y) = true from h)
  have r : (decide (1 ≤ [PyData.int x, .int y].length ∧ [PyData.int x, .int y].length ≤ 4096) && (withinD (.int x) 0 1 && (withinD (.int y) 0 1 && true))) = true := r
  obtain ⟨_, r⟩ := Bool.and_eq_true_iff.mp r
  obtain ⟨r1, r2⟩ := Bool.and_eq_true_iff.mp r
  obtain ⟨r2, _⟩ := Bool.and_eq_true_iff.mp r2
  have r1 := of_decide_eq_true r1
  have r2 := of_decide_eq_true r2
  have ey : y = 1 := by omega
  subst ey
  have : x = 0 ∨ x = 1 := by omega
  rcases this with rfl | rfl
  · exact .inl rfl
  · exact .inr rfl
theorem kd_share {x y : Int} (h : isShD (.tuple [.int x, .int y]) = true) : (two [.int x, .int y] → kinds (.tuple [.int x, .int y]) = [true, true, false, false, false]) ∧ (¬ two [.int x, .int y] → kinds (.tuple [.int x, .int y]) = due 0) := by
  rw [kd_int, h]
  refine ⟨fun t => by rw [(two_row t).1], fun t => ?_⟩
  have : isRowD (.tuple [.int x, .int y]) = false := by
    cases e : isRowD (.tuple [.int x, .int y]) with
    | false => rfl
    | true => exact absurd (row_two h e) t
  rw [this]
  rfl
theorem row_is {rs : List Int} (hb : Bits rs) (l1 : 1 ≤ rs.length) (l2 : rs.length ≤ 4096) : isRowD (.tuple (rs.map PyData.int)) = true := by
  show (decide (1 ≤ (rs.map PyData.int).length ∧ (rs.map PyData.int).length ≤ 4096) && _) = true
  rw [List.length_map, decide_eq_true ⟨l1, l2⟩, Bool.true_and, List.all_map, List.all_eq_true]
  intro x hx
  rcases hb x hx with rfl | rfl <;> rfl
theorem kd_row {rs : List Int} (hb : Bits rs) (l1 : 1 ≤ rs.length) (l2 : rs.length ≤ 4096) : (two (rs.map PyData.int) → kinds (.tuple (rs.map PyData.int)) = [true, true, false, false, false]) ∧ (¬ two (rs.map PyData.int) → kinds (.tuple (rs.map PyData.int)) = due 1) := by
  have hr := row_is hb l1 l2
  match rs, l1 with
  | r :: rs, _ =>
  rw [List.map_cons] at hr ⊢
  rw [kd_int, hr]
  refine ⟨fun t => by rw [(two_row t).2], fun t => ?_⟩
  have : isShD (.tuple (.int r :: rs.map PyData.int)) = false := by
    cases e : isShD (.tuple (.int r :: rs.map PyData.int)) with
    | false => rfl
    | true =>
      exfalso
      match rs, e, hr, t with
      | [y], e, hr, t => exact t (row_two e hr)
      | [], e, _, _ => cases e
      | _ :: _ :: _, e, _, _ => cases e
  rw [this]
  rfl
theorem npc_isF {d : PyData} (hf : isF d = true) : ∀ a b, ¬ Pc a b d := fun a b h => by
  obtain ⟨z, ds, n, e, s, hn, hw⟩ := h
  subst e
  have w : well (.tuple (.str z :: ds)) = true := (Bool.and_eq_true_iff.mp hf).1
  simp only [well, wellT, wordOf] at w
  obtain ⟨z', ds', e, k⟩ := isF_form hf
  cases e
  rcases k with rfl | k
  · exact absurd (shp_len s (by decide +kernel)) (by rintro (⟨w, _⟩ | ⟨w, _⟩ | ⟨w, _⟩ | ⟨w, _⟩) <;> exact absurd w (by decide +kernel))
  have nin : z ≠ "in" := by rcases k with rfl | rfl | rfl | rfl | rfl <;> decide +kernel
  rw [if_neg nin] at w
  obtain ⟨w1, w2⟩ := Bool.and_eq_true_iff.mp w
  have w1 := of_decide_eq_true w1
  have ask : askN z = sideN z := by rcases k with rfl | rfl | rfl | rfl | rfl <;> decide +kernel
  rw [ask, w1] at hn
  cases hn
  cases ds with
  | nil =>
    have : ∀ y : Str, sideN y = some 0 → False := fun y e => by
      rcases in_words e with rfl | rfl | rfl | rfl | rfl <;> exact absurd e (by decide +kernel)
    exact this z w1
  | cons x xs =>
    have := hw x (by simp)
    have wx : well x = true := (Bool.and_eq_true_iff.mp w2).1
    cases x with
    | int i => simp only [well] at wx; cases wx
    | _ => cases this
theorem kd_pc {z : Str} {ds : List PyData} {n m : Nat} (h : Pc n m (.tuple (.str z :: ds))) : kinds (.tuple (.str z :: ds)) = [false, false, false, false, false] := by
  have f : isF (.tuple (.str z :: ds)) = false := by
    cases e : isF (.tuple (.str z :: ds)) with
    | false => rfl
    | true => exact absurd h (npc_isF e n m)
  rw [kd_word, f, dec_f (fun k => by
    obtain ⟨m', e, _⟩ := k
    rw [e] at h
    exact npc_mk _ _ h)]
/-- what is told of the pieces that are drawn -/
structure PD (n : Nat) (d : PyData) : Prop where
  bd : Bd 21 6 7000 d
  pc : ∀ m, n < m → Pc n m d
  fm : ∃ z ds, d = .tuple (.str z :: ds)
theorem pd_all {b : Addr} {E : Hp} : ∀ {us : List V} {k : Nat}, (∀ j u, us[j]? = some u → PIt b E (k + j) u) → ∃ ds, TgA (fun q => q = b) E us ds ∧ (∀ j e, ds[j]? = some e → PD (k + j) e) ∧ BdA 21 6 (7001 * us.length) ds
  | [], k, _ => ⟨[], .nil, fun j e h => (by cases h), ⟨rfl, by simp [PyData.depthAll], by simp [PyData.weightAll]⟩⟩
  | u :: us, k, h => by
    obtain ⟨d, t, g1, g2, g3, _⟩ := h 0 u rfl
    obtain ⟨ds, t2, h2, b2⟩ := pd_all (us := us) (k := k + 1) fun j u' e => by
      have := h (j + 1) u' (by simpa using e)
      rw [show k + 1 + j = k + (j + 1) by omega]
      exact this
    refine ⟨d :: ds, .cons t t2, fun j e hj => ?_, ((BdA.one g1).app b2).mono (Nat.le_refl _) (show max 6 6 ≤ 6 by decide) (by rw [List.length_cons]; omega)⟩
    cases j with
    | zero =>
      cases hj
      exact ⟨g1, g2, g3⟩
    | succ j =>
      have := h2 j e (by simpa using hj)
      rw [show k + 1 + j = k + (j + 1) by omega] at this
      exact this
/-- one of the things -/
structure ThAt (b : Addr) (G : Hp) (i : Nat) (v : V) (a : Addr) (xs : List V) (es : List PyData) : Prop where
  v : v = .ref a
  at_ : G a = some (.tup xs)
  tg : TgA (fun q => q = b) G xs es
  bd : Bd 21 8 40000 (.tuple es)
  np : ∀ n m, ¬ Pc n m (.tuple es)
  nums : i < 2 → ∃ rs : List Int, es = rs.map PyData.int
  kd : (i < 2 → two es → kinds (.tuple es) = [true, true, false, false, false]) ∧ (¬ (i < 2 ∧ two es) → kinds (.tuple es) = due i)
def ThA (b : Addr) (G : Hp) (i : Nat) (v : V) : Prop := ∃ a xs es, ThAt b G i v a xs es
theorem ThAt.keep {b : Addr} {G G' : Hp} {i : Nat} {v : V} {a : Addr} {xs : List V} {es : List PyData} {n : Nat} (h : ThAt b G i v a xs es) (B : Bx G b n) (s : Bus b G G') : ThAt b G' i v a xs es :=
  ⟨h.v, s.tup B h.at_, h.tg.kp (fun a xs n e => ⟨s.lst n e, n⟩) (fun a xs n e => ⟨s.tup B e, n⟩), h.bd, h.np, h.nums, h.kd⟩
theorem ThA.keep {b : Addr} {G G' : Hp} {i : Nat} {v : V} {n : Nat} (h : ThA b G i v) (B : Bx G b n) (s : Bus b G G') : ThA b G' i v := by
  obtain ⟨a, xs, es, h⟩ := h
  exact ⟨a, xs, es, h.keep B s⟩
theorem two_any (es : List PyData) : ([PyData.tuple [.int 0, .int 1], .tuple [.int 1, .int 1]].any fun z => PyData.eqv z (.tuple es)) = true → (∃ rs : List Int, es = rs.map PyData.int) → two es := fun h hr => by
  obtain ⟨rs, rfl⟩ := hr
  simp only [List.any_cons, List.any_nil, Bool.or_false, Bool.or_eq_true] at h
  match rs, h with
  | [], h => rcases h with h | h <;> cases h
  | [x], h => 
    have e : ∀ i : Int, PyData.eqv (.tuple [.int i, .int 1]) (.tuple [.int x]) = false := fun i => by
      show ((i == x) && false) = false
      rw [Bool.and_false]
    rw [List.map_cons, List.map_nil, e, e] at h
    rcases h with h | h <;> cases h
  | [x, y], h =>
    have e : ∀ i : Int, PyData.eqv (.tuple [.int i, .int 1]) (.tuple [.int x, .int y]) = ((i == x) && (((1 : Int) == y) && true)) := fun i => rfl
    rw [List.map_cons, List.map_cons, List.map_nil, e, e] at h
    rcases h with h | h
    · obtain ⟨h1, h2⟩ := Bool.and_eq_true_iff.mp h
      obtain ⟨h2, _⟩ := Bool.and_eq_true_iff.mp h2
      exact .inl (by rw [← eq_of_beq h1, ← eq_of_beq h2]; rfl)
    · obtain ⟨h1, h2⟩ := Bool.and_eq_true_iff.mp h
      obtain ⟨h2, _⟩ := Bool.and_eq_true_iff.mp h2
      exact .inr (by rw [← eq_of_beq h1, ← eq_of_beq h2]; rfl)
  | x :: y :: z :: r, h =>
    have e : ∀ i : Int, PyData.eqv (.tuple [.int i, .int 1]) (.tuple (.int x :: .int y :: .int z :: r.map PyData.int)) = false := fun i => by
      show ((i == x) && (((1 : Int) == y) && false)) = false
      rw [Bool.and_false, Bool.and_false]
    rw [List.map_cons, List.map_cons, List.map_cons, e, e] at h
    rcases h with h | h <;> cases h
theorem any_two {es : List PyData} (h : two es) : ([PyData.tuple [.int 0, .int 1], .tuple [.int 1, .int 1]].any fun z => PyData.eqv z (.tuple es)) = true := by
  rcases h with rfl | rfl <;> decide +kernel
theorem op_repF : (List.replicate (5 : Int).toNat [V.bl false]).flatten = ([false, false, false, false, false] : List Bool).map V.bl := rfl
theorem op_repF4 : (List.replicate (4 : Int).toNat [V.bl false]).flatten ++ [V.bl true] = ([false, false, false, false, true] : List Bool).map V.bl := rfl
def sp_law {K : PySem.W.Frag} {mg : Str → Option Value} (T : Defs K mg) : Sp := fun vs H Q _ => ∃ (a : Addr) (ns : List Int), vs = [.ref a] ∧ SqL K H a (ns.map V.int) ∧ ns.length ≤ 63 ∧ (GxR.TabG H T.P_is_row ∧ GxR.TabG H T.P_is_table ∧ GxR.TabG H T.P_is_ahead ∧ GxR.TabG H T.P_is_piece ∧ GxR.TabG H T.P_is_machine ∧ True) ∧ ∀ H', Q (.bl true) H'
theorem ok_law (T : Defs K mg) (TT : Tabs T base) : GOk P w K mg base CX0 17 T.f_law T.fd_law ["_law_script"] (sp_law T) := by
  have G__law_folded : FnOk P w K mg base CX0 1 T.f__law_folded T.fd__law_folded ["_law_script", "_law_many"] (sp__law_folded K) := ok__law_folded T TT
  have G__law_box : FnOk P w K mg base CX0 1 T.f__law_box T.fd__law_box ["_law_script", "_law_k"] (sp__law_box K) := ok__law_box T TT
  have G__law_divisor : FnOk P w K mg base CX0 1 T.f__law_divisor T.fd__law_divisor ["_law_one", "_law_other"] (sp__law_divisor K) := ok__law_divisor T TT
  have G__law_take : FnOk P w K mg base CX0 1 T.f__law_take T.fd__law_take ["_law_box_here", "_law_many"] (sp__law_take K) := ok__law_take T TT
  have G__law_row : FnOk P w K mg base CX0 2 T.f__law_row T.fd__law_row ["_law_box_here", "_law_long_here"] (sp__law_row K) := ok__law_row T TT
  have G__law_maker : FnOk P w K mg base CX0 10 T.f__law_maker T.fd__law_maker ["_law_box_here", "_law_most"] (sp__law_maker K) := ok__law_maker T TT
  have G__law_any : FnOk P w K mg base CX0 12 T.f__law_any T.fd__law_any ["_law_box_here"] (sp__law_any K) := ok__law_any T TT
  have G__law_piece : FnOk P w K mg base CX0 11 T.f__law_piece T.fd__law_piece ["_law_box_here", "_law_ahead"] (sp__law_piece K) := ok__law_piece T TT
  have G__law_is : GOk P w K mg base CX0 16 T.f__law_is T.fd__law_is ["_law_thing", "_law_due"] (sp__law_is T) := ok__law_is T TT
  have G__law_long : FnOk P w K mg base CX0 2 T.f__law_long T.fd__law_long ["_law_box_here"] (sp__law_long K) := ok__law_long T TT
  refine gok_of T.F_law sc_law (fun vs H Q E h => ?_) (fun cdv A outer s H vs Q E hg hr h => ?_)
  · obtain ⟨a, ns, rfl, hS, hlen, ⟨g1, g2, g3, g4, g5, _⟩, q⟩ := h
    rfl
  · obtain ⟨a, ns, rfl, hS, hlen, ⟨g1, g2, g3, g4, g5, _⟩, q⟩ := h
    refine ⟨_, PSs.nox (pss_cons (ps_set (i := 1) sc_law.nd rfl (.inl rfl) (pe_call G__law_folded (hr.mono (by decide)) (by rfl) T.g__law_folded T.F__law_folded.kp T.b__law_folded .nil pass0 (pa_cons (pv 0) (pa_cons pe_int pa_nil))))
    (pss_cons ((ps_for PassesOwn.never rfl (pi_range1 (by rfl) T.m_range (pa_cons (pe_callB (call_max2 rfl) (by rfl) T.m_max bt_max (pa_cons pe_int (pa_cons (pe_callB call_len_seq (by rfl) T.m_len bt_len (pa_cons (pv 1) pa_nil)) pa_nil))) pa_nil)) (pg_name (i := 2) sc_law.nd rfl (.inl rfl)) (pss_cons (ps_set (i := 3) sc_law.nd rfl (.inr rfl) (pe_call G__law_box (hr.mono (by decide)) (by rfl) T.g__law_box T.F__law_box.kp T.b__law_box .nil pass0 (pa_cons (pv 1) (pa_cons (pv 2) pa_nil))))
    (pss_cons (ps_set (i := 4) sc_law.nd rfl (.inl rfl) (pe_ix ix_list (pe_lst (pa_cons pe_int (pa_cons pe_int (pa_cons pe_int (pa_cons (pe_op op_add pe_int (pe_call G__law_take (hr.mono (by decide)) (by rfl) T.g__law_take T.F__law_take.kp T.b__law_take .nil pass0 (pa_cons (pv 3) (pa_cons pe_int pa_nil)))) pa_nil))))) (pe_call G__law_take (hr.mono (by decide)) (by rfl) T.g__law_take T.F__law_take.kp T.b__law_take .nil pass0 (pa_cons (pv 3) (pa_cons pe_int pa_nil))) (fun _ _ => rfl)))
    (pss_cons (ps_set (i := 5) sc_law.nd rfl (.inl rfl) (pe_ix ix_list (pe_lst (pa_cons pe_int (pa_cons (pv 4) (pa_cons (pe_call G__law_take (hr.mono (by decide)) (by rfl) T.g__law_take T.F__law_take.kp T.b__law_take .nil pass0 (pa_cons (pv 3) (pa_cons (pe_op op_add (pv 4) pe_int) pa_nil))) pa_nil)))) (pe_call G__law_take (hr.mono (by decide)) (by rfl) T.g__law_take T.F__law_take.kp T.b__law_take .nil pass0 (pa_cons (pv 3) (pa_cons pe_int pa_nil))) (fun _ _ => rfl)))
    (pss_cons (ps_set (i := 6) sc_law.nd rfl (.inl rfl) (pe_call G__law_divisor (hr.mono (by decide)) (by rfl) T.g__law_divisor T.F__law_divisor.kp T.b__law_divisor .nil pass0 (pa_cons (pv 5) (pa_cons (pv 4) pa_nil))))
    (pss_cons (ps_par (i := 7) (j := 8) (by rfl) sc_law.nd rfl rfl (by decide) rfl rfl (pa_cons (pe_tup (pa_cons (pe_op op_fdiv (pv 5) (pv 6)) (pa_cons (pe_op op_fdiv (pv 4) (pv 6)) pa_nil))) (pa_cons (pe_call G__law_row (hr.mono (by decide)) (by rfl) T.g__law_row T.F__law_row.kp T.b__law_row .nil pass0 (pa_cons (pv 3) (pa_cons (pe_ix ix_list (pe_lst (pa_cons pe_int (pa_cons pe_int (pa_cons pe_int (pa_cons (pe_call G__law_long (hr.mono (by decide)) (by rfl) T.g__law_long T.F__law_long.kp T.b__law_long .nil pass0 (pa_cons (pv 3) pa_nil)) pa_nil))))) (pe_call G__law_take (hr.mono (by decide)) (by rfl) T.g__law_take T.F__law_take.kp T.b__law_take .nil pass0 (pa_cons (pv 3) (pa_cons pe_int pa_nil))) (fun _ _ => rfl)) pa_nil))) pa_nil)) (by rfl))
    (pss_cons (ps_set (i := 9) sc_law.nd rfl (.inl rfl) (pe_lst (pa_cons (pe_tup (pa_cons pe_int (pa_cons pe_int pa_nil))) (pa_cons (pe_tup (pa_cons pe_int (pa_cons pe_int pa_nil))) pa_nil))))
    (pss_cons (ps_set (i := 10) sc_law.nd rfl (.inl rfl) (pe_callTy call_tuple_of (by rfl) T.m_tuple bt_tuple (pa_cons (pe_lc (own := [("_law_ahead", 15)]) (g := gName 15) (tt := tYes) rfl sc_law.nd (pi_range1 (by rfl) T.m_range (pa_cons (pe_op op_add pe_int (pe_call G__law_take (hr.mono (by decide)) (by rfl) T.g__law_take T.F__law_take.kp T.b__law_take .nil pass0 (pa_cons (pv 3) (pa_cons pe_int pa_nil)))) pa_nil)) (blkOk_by (N := N_law) (sc := defScope s_law) (by decide +kernel)) (fun _ _ _ _ _ => (pg_name (i := 15) sc_law.nd rfl (.inl rfl))) (fun _ _ _ _ _ => pts_nil) (fun _ _ _ _ _ => (pe_call G__law_piece (hr.mono (by decide)) (by rfl) T.g__law_piece T.F__law_piece.kp T.b__law_piece .nil pass0 (pa_cons (pv 3) (pa_cons (pv 15) pa_nil))))) pa_nil)))
    (pss_cons (ps_set (i := 11) sc_law.nd rfl (.inl rfl) (pe_lst (pa_cons (pv 7) (pa_cons (pv 8) (pa_cons (pe_call G__law_maker (hr.mono (by decide)) (by rfl) T.g__law_maker T.F__law_maker.kp T.b__law_maker .nil pass0 (pa_cons (pv 3) (pa_cons pe_int pa_nil))) (pa_cons (pe_call G__law_any (hr.mono (by decide)) (by rfl) T.g__law_any T.F__law_any.kp T.b__law_any .nil pass0 (pa_cons (pv 3) pa_nil)) (pa_cons (pv 10) pa_nil)))))))
    (pss_cons ((ps_for PassesOwn.never rfl (pi_enum (by rfl) T.m_enumerate (pa_cons (pv 11) pa_nil)) (pg_tup rfl (pgs_cons (pg_name (i := 12) sc_law.nd rfl (.inr rfl)) (pgs_cons (pg_name (i := 13) sc_law.nd rfl (.inl rfl)) pgs_nil))) (pss_cons (ps_setLc (i := 14) (own := [("_law_one", 16)]) (g := gName 16) (tt := tYes) rfl sc_law.nd rfl rfl (sw_true rfl rfl rfl (by decide +kernel)) (pi_range1 (by rfl) T.m_range (pa_cons pe_int pa_nil)) (blkOk_by (N := N_law) (sc := defScope s_law) (by decide +kernel)) (fun _ _ _ _ _ => (pg_name (i := 16) sc_law.nd rfl (.inl rfl))) (fun _ _ _ _ _ => pts_nil) (fun _ _ _ _ _ => (pe_cmpR op_eq (pv 12) (pv 16) (nomark _))))
    (pss_cons (ps_if (PW.pt (pw_and (pt_cmpR op_lt (pv 12) pe_int (nomark _)) (pw_and1 (pt_cmpR (op_inD (u65g hr)) (pv 13) (pv 9) rfl)))) (pss_one (ps_set (i := 14) sc_law.nd rfl (.inl rfl) (pe_lst (pa_cons pe_bl (pa_cons pe_bl (pa_cons pe_bl (pa_cons pe_bl (pa_cons pe_bl pa_nil)))))))) pss_nil)
    (pss_cons (ps_if (PW.pt (pw_or (pt_not (pt_val (pe_callG hg G__law_is (hr.mono (by decide)) (by rfl) T.g__law_is T.F__law_is.kp T.b__law_is .nil pass0 (pa_cons (pv 13) (pa_cons (pv 14) pa_nil))))) (pw_or (pt_not (pt_val (pe_callG hg G__law_is (hr.mono (by decide)) (by rfl) T.g__law_is T.F__law_is.kp T.b__law_is .nil pass0 (pa_cons (pe_lst (pa_cons (pv 13) pa_nil)) (pa_cons (pe_op op_rep (pe_lst (pa_cons pe_bl pa_nil)) pe_int) pa_nil))))) (pw_or1 (pt_not (pt_val (pe_callG hg G__law_is (hr.mono (by decide)) (by rfl) T.g__law_is T.F__law_is.kp T.b__law_is .nil pass0 (pa_cons (pe_callTy call_list_of (by rfl) T.m_list bt_list (pa_cons (pv 13) pa_nil)) (pa_cons (pe_op op_rep (pe_lst (pa_cons pe_bl pa_nil)) pe_int) pa_nil))))))))) (pss_one (ps_ret pe_bl)) pss_nil)
    (pss_one (ps_if (PW.pt (pw_or (pt_not (pt_val (pe_callG hg G__law_is (hr.mono (by decide)) (by rfl) T.g__law_is T.F__law_is.kp T.b__law_is .nil pass0 (pa_cons (pe_tup (pa_cons (pv 13) pa_nil)) (pa_cons (pe_op op_rep (pe_lst (pa_cons pe_bl pa_nil)) pe_int) pa_nil))))) (pw_or1 (pt_not (pt_val (pe_callG hg G__law_is (hr.mono (by decide)) (by rfl) T.g__law_is T.F__law_is.kp T.b__law_is .nil pass0 (pa_cons (pe_tup (pa_cons (pv 13) (pa_cons (pv 13) pa_nil))) (pa_cons (pe_op op_rep (pe_lst (pa_cons pe_bl pa_nil)) pe_int) pa_nil)))))))) (pss_one (ps_ret pe_bl)) pss_nil)))))))
    (pss_one (ps_if (PW.pt (pw_or (pt_not (pt_val (pe_callG hg G__law_is (hr.mono (by decide)) (by rfl) T.g__law_is T.F__law_is.kp T.b__law_is .nil pass0 (pa_cons (pe_slice sl_tupS (pv 10) po_none (po_some pe_int)) (pa_cons (pe_op op_cat (pe_op op_rep (pe_lst (pa_cons pe_bl pa_nil)) pe_int) (pe_lst (pa_cons pe_bl pa_nil))) pa_nil))))) (pw_or1 (pt_not (pt_val (pe_callG hg G__law_is (hr.mono (by decide)) (by rfl) T.g__law_is T.F__law_is.kp T.b__law_is .nil pass0 (pa_cons (pe_ix ix_tup (pv 10) pe_int (fun _ _ => rfl)) (pa_cons (pe_op op_rep (pe_lst (pa_cons pe_bl pa_nil)) pe_int) pa_nil)))))))) (pss_one (ps_ret pe_bl)) pss_nil)))))))))))))
    (pss_one (ps_ret pe_bl)))), ?_⟩
    have hsl : sizeLine = 16777216 := by decide
    have kt0 : Ktab T H := ⟨⟨g2, g3, g4⟩, g5, g1⟩
    refine ⟨.ref a, rfl, a, ns, 4, rfl, hS, hlen, by decide, by decide, fun H1 c cs s1 nc hc lc => ?_⟩
    have kt1 := kt0.sam (Sam.of s1)
    refine ⟨.ref c, rfl, c, _, rfl, .inl (SqL.mk hc), _, _, rfl, _, rfl, ?_, ?_, for_range (fun i σ H2 => ∃ y2 y3 y4 y5 y6 y7 y8 y9 y10 y11 y12 y13 y14, σ = [some (.ref a), some (.ref c), y2, y3, y4, y5, y6, y7, y8, y9, y10, y11, y12, y13, y14, none, none] ∧ Sam H1 H2) ⟨none, none, none, none, none, none, none, none, none, none, none, none, none, rfl, Sam.refl H1⟩ ?_ ?_⟩
    · split <;> omega
    · have := List.length_map V.int (as := cs)
      split <;> omega
    rotate_left
    · rintro σ H2 ⟨y2, y3, y4, y5, y6, y7, y8, y9, y10, y11, y12, y13, y14, rfl, s2⟩
      exact q _
    rintro i σ H2 hi ⟨y2, y3, y4, y5, y6, y7, y8, y9, y10, y11, y12, y13, y14, rfl, s2⟩
    have hi2 : i < 1000 := by
      have := List.length_map V.int (as := cs)
      split at hi <;> omega
    refine ⟨.ref c, rfl, .int (0 + (i : Int)), rfl, c, cs, i, by rw [Int.zero_add]; rfl, SqL.mk (s2.lst hc), hi2, fun H3 b s3 nb hB => ?_⟩
    have nb1 : H1 b = none := s2.free nb
    have s13 := s2.trans (Sam.of s3)
    have kt3 := kt1.sam s13
    -- a share
    refine ⟨.ref b, rfl, b, 4096, _, rfl, hB, by decide, by decide, by decide, fun A1 r1 c1 B1 l1 u1 => ⟨_, _, rfl, rfl, (show 4 ≤ sizeLine by decide), fun la nla => ?_⟩⟩
    refine ⟨.ref b, rfl, b, 4, _, rfl, B1.new nla, by decide, by decide, by omega, fun A2 r2 c2 B2 l2 u2 => ?_⟩
    obtain ⟨bt, ev, hv⟩ := at_menu (Pr := fun v => 1 ≤ v ∧ v ≤ 4096) (xs := [1, 2, 64, 1 + r1]) l2 u2 (fun x hx => by
      simp only [List.mem_cons, List.not_mem_nil, or_false] at hx
      omega)
    obtain ⟨bt, rfl⟩ := nat_of (show 0 ≤ bt by omega)
    refine ⟨la, _, _, _, rfl, rfl, SqL.mk (c2 _ _ (ne_new B1 nla) upd_same), ev, ?_⟩
    have b2 := (c1.new (o := .lst [.int 1, .int 2, .int 64, .int (1 + r1)]) nla).trans c2
    clear ev c1 c2 B1 l1 u1 l2 u2
    refine ⟨_, rfl, .ref b, rfl, _, rfl, _, _, rfl, rfl, b, bt + 1, _, congrArg (fun z => [V.ref b, V.int z]) (by omega), B2, by omega, by omega, by omega, fun A3 r3 c3 B3 l3 u3 => ⟨(show 3 ≤ sizeLine by decide), fun lb nlb => ?_⟩⟩
    refine ⟨.ref b, rfl, b, 3, _, rfl, B3.new nlb, by decide, by decide, by omega, fun A4 r4 c4 B4 l4 u4 => ?_⟩
    obtain ⟨tp, ev, ht⟩ := at_menu (Pr := fun v => 0 ≤ v ∧ v ≤ (bt : Int)) (xs := [0, (bt : Int), r3]) l4 u4 (fun x hx => by
      simp only [List.mem_cons, List.not_mem_nil, or_false] at hx
      omega)
    obtain ⟨tp, rfl⟩ := nat_of ht.1
    refine ⟨lb, _, _, _, rfl, rfl, SqL.mk (c4 _ _ (ne_new B3 nlb) upd_same), ev, ?_⟩
    have b4 := b2.trans ((c3.new (o := .lst [.int 0, .int (bt : Nat), .int r3]) nlb).trans c4)
    clear ev b2 c3 c4 B2 B3 l3 u3 l4 u4
    have gp : 0 < Nat.gcd tp bt := Nat.gcd_pos_of_pos_right tp (by omega)
    have gl : Nat.gcd tp bt ≤ bt := Nat.le_of_dvd (by omega) (Nat.gcd_dvd_right tp bt)
    refine ⟨_, rfl, _, rfl, (tp : Int), (bt : Int), rfl, ?_⟩
    have ge : (Int.gcd (tp : Int) (bt : Int) : Int) = ((Nat.gcd tp bt : Nat) : Int) := rfl
    rw [ge]
    refine ⟨_, rfl, _, rfl, _, _, rfl, rfl, ⟨by omega, by omega⟩, _, rfl, _, rfl, _, _, rfl, rfl, ⟨by omega, by omega⟩, (show 2 ≤ sizeLine by decide), fun sh nsh => ?_⟩
    try dsimp only
    rw [← Int.natCast_ediv, ← Int.natCast_ediv]
    have shd : isShD (.tuple [.int ((tp / Nat.gcd tp bt : Nat) : Int), .int ((bt / Nat.gcd tp bt : Nat) : Int)]) = true := by
      refine decide_eq_true ⟨?_, ?_, Int.natCast_nonneg _, ?_⟩
      · have := Nat.div_pos gl gp
        omega
      · show Nat.gcd (tp / Nat.gcd tp bt) (bt / Nat.gcd tp bt) = 1
        rw [Nat.gcd_div (Nat.gcd_dvd_left tp bt) (Nat.gcd_dvd_right tp bt), Nat.div_self gp]
      · have : tp / Nat.gcd tp bt ≤ bt / Nat.gcd tp bt := Nat.div_le_div_right (by omega)
        omega
    have x1 : tp / Nat.gcd tp bt ≤ 100000 := Nat.le_trans (Nat.div_le_self _ _) (by omega)
    have x2 : bt / Nat.gcd tp bt ≤ 100000 := Nat.le_trans (Nat.div_le_self _ _) (by omega)
    obtain ⟨X, hX⟩ : ∃ X, tp / Nat.gcd tp bt = X := ⟨_, rfl⟩
    obtain ⟨Y, hY⟩ : ∃ Y, bt / Nat.gcd tp bt = Y := ⟨_, rfl⟩
    rw [hX] at shd x1 ⊢
    rw [hY] at shd x2 ⊢
    have sS := same_upd nsh (o := .tup [.int (X : Nat), .int (Y : Nat)])
    have t0 : ThA b (upd A4 sh (.tup [.int (X : Nat), .int (Y : Nat)])) 0 (.ref sh) := ⟨sh, _, [.int (X : Nat), .int (Y : Nat)], rfl, upd_same, .cons (.int _) (.cons (.int _) .nil),
      (bdA_1 (Int.natCast_nonneg X) (by omega) (bdA_1 (Int.natCast_nonneg Y) (by omega) (bdA_0 (n := 0)))).tup.mono (Nat.le_refl _) (by decide) (by decide), npc_int, fun _ => ⟨[(X : Int), (Y : Int)], rfl⟩, fun _ t => (kd_share shd).1 t, fun n => (kd_share shd).2 fun t => n ⟨by decide, t⟩⟩
    have B5 := B4.same sS
    have b5 := b4.trans (same_but sS)
    generalize upd A4 sh (.tup [.int (X : Nat), .int (Y : Nat)]) = A5 at t0 B5 b5 ⊢
    clear shd x1 x2 gp gl ge sS B4 b4
    -- a row
    refine ⟨.ref b, rfl, .ref b, rfl, b, _, rfl, B5, by omega, fun A6 lg c6 B6 g1' g2' => ⟨(show 4 ≤ sizeLine by decide), fun lc nlc => ?_⟩⟩
    refine ⟨.ref b, rfl, b, 4, _, rfl, B6.new nlc, by decide, by decide, by omega, fun A7 r7 c7 B7 l7 u7 => ?_⟩
    obtain ⟨ln, ev, hl⟩ := at_menu (Pr := fun v => 1 ≤ v ∧ v ≤ 400) (xs := [1, 2, 2, (lg : Int)]) l7 u7 (fun x hx => by
      simp only [List.mem_cons, List.not_mem_nil, or_false] at hx
      omega)
    obtain ⟨ln, rfl⟩ := nat_of (show 0 ≤ ln by omega)
    refine ⟨lc, _, _, _, rfl, rfl, SqL.mk (c7 _ _ (ne_new B6 nlc) upd_same), ev, b, ln, _, rfl, B7, by omega, by omega, by omega, fun A8 ra rs c8 B8 hra rl rb => ⟨_, _, rfl, ?_⟩⟩
    have c58 := (c6.new (o := .lst [.int 1, .int 2, .int 2, .int (lg : Nat)]) nlc).trans (c7.trans c8)
    have t0 := t0.keep B5 (Bus.of c58)
    have b8 := b5.trans c58
    have t1 : ThA b A8 1 (.ref ra) := by
      have k := kd_row rb (by omega) (by omega)
      obtain ⟨w1, w2, w3⟩ := weiA_ints (ns := rs) fun x hx => by rcases rb x hx with rfl | rfl <;> decide
      refine ⟨ra, _, rs.map PyData.int, rfl, hra, TgA.of_ints rs, (BdA.tup ⟨w2, w3, w1⟩).mono (Nat.le_refl _) (by decide) (by omega), ?_, fun _ => ⟨rs, rfl⟩, fun _ t => k.1 t, fun n => k.2 fun t => n ⟨by decide, t⟩⟩
      match rs, rl with
      | r :: rs, _ => exact npc_int
      | [], rl => 
        have rl : 0 = ln := rl
        omega
    clear ev c58 c6 c7 c8 B5 B6 B7 b5 l7 u7 hra
    -- both kinds
    refine ⟨(show 2 ≤ sizeLine by decide), fun k1 nk1 => ⟨(show 2 ≤ sizeLine by decide), fun k2 nk2 => ⟨(show 2 ≤ sizeLine by decide), fun kl nkl => ?_⟩⟩⟩
    have f1 := same_upd nk1 (o := .tup [.int 0, .int 1])
    have h1 := upd_same (H := A8) (a := k1) (o := .tup [.int 0, .int 1])
    generalize upd A8 k1 (.tup [.int 0, .int 1]) = A9 at f1 h1 nk2 nkl ⊢
    have f2 := same_upd nk2 (o := .tup [.int 1, .int 1])
    have h2 := upd_same (H := A9) (a := k2) (o := .tup [.int 1, .int 1])
    generalize upd A9 k2 (.tup [.int 1, .int 1]) = A10 at f2 h2 nkl ⊢
    have f3 := same_upd nkl (o := .lst [.ref k1, .ref k2])
    have hkl := upd_same (H := A10) (a := kl) (o := .lst [.ref k1, .ref k2])
    have h1 := f3 _ _ (f2 _ _ h1)
    have h2 := f3 _ _ h2
    have f13 := f1.trans (f2.trans f3)
    have B11 := B8.same f13
    have klb := ne_new B8 ((f1.trans f2).free nkl)
    generalize upd A10 kl (.lst [.ref k1, .ref k2]) = A11 at f13 hkl h1 h2 B11 ⊢
    have t0 := t0.keep B8 (Bus.of (same_but f13))
    have t1 := t1.keep B8 (Bus.of (same_but f13))
    have b11 := b8.trans (same_but f13)
    have B11 := B11.mono (show _ ≤ 6000 by omega)
    clear f1 f2 f3 nk1 nk2 nkl B8 b8 f13
    -- a machine
    refine ⟨.ref b, rfl, b, 5, _, rfl, B11, by decide, by decide, by decide, fun A12 r12 c12 B12 l12 u12 => ?_⟩
    obtain ⟨r12, rfl⟩ := nat_of l12
    have t0 := t0.keep B11 (Bus.of c12)
    have t1 := t1.keep B11 (Bus.of c12)
    have h1 := c12 _ _ (B11.ne_tup h1) h1
    have h2 := c12 _ _ (B11.ne_tup h2) h2
    have hkl := c12 _ _ klb hkl
    have b12 := b11.trans c12
    clear c12 B11 b11
    refine ⟨_, _, rfl, rfl, _, rfl, by omega, by omega, fun D nD => ?_⟩
    have Db := ne_new B12 nD
    refine lc_range (fun n E => ∃ us : List V, us.length = n ∧ (∀ j u, us[j]? = some u → PIt b E j u) ∧ But b A12 E ∧ Bx E b (6001 + 320 * n) ∧ E D = some (.lst us)) ⟨[], rfl, fun j u e => (by cases e), (But.refl b A12).new nD, B12.new nD, upd_same⟩ (fun n E hn h => ?_) (fun E h => ?_)
    · obtain ⟨us, e1, e2, e3, e4, e5⟩ := h
      have n5 : n < 5 := by omega
      refine ⟨rfl, yes_ite ⟨.ref b, rfl, _, rfl, b, _, n, by rw [Int.zero_add]; rfl, e4, by omega, by omega, fun E6 v c6 B6 iv => ?_⟩⟩
      have hD := c6 _ _ Db e5
      have B7 := B6.other (o := .lst (us ++ [v])) Db
      refine ⟨_, hD, by omega, us ++ [v], by rw [List.length_append, e1]; rfl, fun j u e => ?_, but_newer (e3.trans c6) nD, B7.mono (by omega), upd_same⟩
      have pu : ∀ j u, PIt b E6 j u → PIt b (upd E6 D (.lst (us ++ [v]))) j u := fun j u h => h.kt fun a xs e => by
        rw [upd_ne (ne_of e hD (fun z => by cases z))]
        exact e
      by_cases hj : j < us.length
      · rw [List.getElem?_append_left hj] at e
        exact pu _ _ ((e2 j u e).but c6)
      · rw [List.getElem?_append_right (by omega)] at e
        have : j - us.length = 0 := by
          have := (List.getElem?_eq_some_iff.mp e).1
          simp only [List.length_singleton] at this
          omega
        rw [this] at e
        cases e
        have : j = n := by omega
        subst this
        exact pu _ _ iv
    obtain ⟨us, lus, hus, bE, BE, hD⟩ := h
    have lus : us.length = r12 + 1 := by omega
    obtain ⟨ds, tds, hds, bds⟩ := pd_all (k := 0) (fun j u e => by rw [Nat.zero_add]; exact hus j u e)
    have lds : ds.length = us.length := tds.len.symm
    have h1 := bE _ _ (B12.ne_tup h1) h1
    have h2 := bE _ _ (B12.ne_tup h2) h2
    have hkl := bE _ _ klb hkl
    have t0 := t0.keep B12 (Bus.of bE)
    have t1 := t1.keep B12 (Bus.of bE)
    have bE2 := b12.trans bE
    clear hus bE b12 B12 nD
    refine ⟨D, _, rfl, .inl ⟨SqL.mk hD, fun tm ntm => ?_⟩⟩
    have sM := same_upd ntm (o := .tup us)
    have htm := upd_same (H := E) (a := tm) (o := .tup us)
    have h1 := sM _ _ h1
    have h2 := sM _ _ h2
    have hkl := sM _ _ hkl
    have t0 := t0.keep BE (Bus.of (same_but sM))
    have t1 := t1.keep BE (Bus.of (same_but sM))
    have tds := tds.same sM
    have BM := BE.same sM
    have bM := bE2.trans (same_but sM)
    generalize upd E tm (.tup us) = M0 at sM htm h1 h2 hkl t0 t1 tds BM bM ⊢
    have hPD : ∀ j e, ds[j]? = some e → PD j e := fun j e h => by
      have := hds j e h
      rw [Nat.zero_add] at this
      exact this
    obtain ⟨e0, dr, rfl⟩ : ∃ e0 dr, ds = e0 :: dr := by
      cases ds with
      | nil =>
        simp only [List.length_nil] at lds
        omega
      | cons e0 dr => exact ⟨e0, dr, rfl⟩
    obtain ⟨u0, ur, rfl⟩ : ∃ u0 ur, us = u0 :: ur := by
      cases us with
      | nil =>
        simp only [List.length_nil] at lus
        omega
      | cons e0 dr => exact ⟨e0, dr, rfl⟩
    obtain ⟨be0, pe0, z0, dz, fe0⟩ := hPD 0 e0 rfl
    have mc : isMc (.tuple (e0 :: dr)) := ⟨_, rfl, by simp, by omega, fun i e he => (hPD i e he).pc _ (List.getElem?_eq_some_iff.mp he).1⟩
    have mc1 : isMc (.tuple [e0]) := ⟨_, rfl, by simp, by simp, fun i e he => by
      cases i with
      | zero => cases he; exact pe0 1 (by decide)
      | succ i => cases he⟩
    have t4 : ∀ (Z : Hp) (n : Nat), Bx Z b n → Bus b M0 Z → ThAt b Z 4 (.ref tm) tm (u0 :: ur) (e0 :: dr) := fun Z n B s => by
      refine ⟨rfl, s.tup BM htm, tds.kp (fun a xs n e => ⟨s.lst n e, n⟩) (fun a xs n e => ⟨s.tup BM e, n⟩), (bds.mono (Nat.le_refl _) (show 6 ≤ 7 by decide) (show _ ≤ 40000 by omega)).tup, ?_, fun h => absurd h (by decide), fun h => absurd h (by decide), fun _ => ?_⟩
      · rw [fe0]
        exact npc_tup
      · rw [fe0] at mc ⊢
        rw [kd_mc mc]
        rfl
    clear hD bE2 hds BE sM lus
    have BM := BM.mono (show _ ≤ 8000 by omega)
    -- all of them
    refine ⟨_, rfl, _, rfl, .ref b, rfl, b, 4096, _, rfl, BM, by decide, by decide, fun M1 mv m c1 B1 hm ok dp rn vd => ⟨.ref b, rfl, b, _, rfl, B1, by decide, fun M2 fv f c2 B2 hf fd fs fi => ⟨_, rfl, (show 5 ≤ sizeLine by decide), fun th nth => ?_⟩⟩⟩
    have c12 := c1.trans c2
    have hm2 := hm.but B1 c2
    have sT := same_upd nth (o := .lst [.ref sh, .ref ra, mv, fv, .ref tm])
    have uT : Bus b M0 (upd M2 th (.lst [.ref sh, .ref ra, mv, fv, .ref tm])) := (Bus.of c12).trans (Bus.of (same_but sT))
    have BT := B2.same sT
    have q0 := t0.keep BM uT
    have q1 := t1.keep BM uT
    have q4 := t4 _ _ BT uT
    have np : ∀ (Z : Hp) (n : Nat), Bx Z b n → ∀ a xs, Z a = some (.tup xs) → ¬ (fun q => q = b) a := fun Z n B a xs e => B.ne_tup e
    have q2 : ThA b (upd M2 th (.lst [.ref sh, .ref ra, mv, fv, .ref tm])) 2 mv := by
      obtain ⟨z, es, e, _⟩ := mk_form (m := m)
      have tg := mk_tg (np _ _ BT) (hm2.same sT)
      have im : isMkD (mkd m) := ⟨m, rfl, ok, vd, dp, by omega⟩
      have mb := (mkd_bd ok).mono (Nat.le_refl _) (show m.dep + 2 ≤ 8 by omega) (show _ ≤ 40000 by omega)
      have nn := npc_mk (m := m)
      have kk := kd_mk im
      rw [e] at tg mb nn kk
      obtain ⟨a', xs, e1, _, ha, hx⟩ := tg.tupv
      exact ⟨a', xs, _, e1, ha, hx, mb, nn, fun h => absurd h (by decide), fun h => absurd h (by decide), fun _ => kk⟩
    have q3 : ThA b (upd M2 th (.lst [.ref sh, .ref ra, mv, fv, .ref tm])) 3 fv := by
      obtain ⟨es, e⟩ := fm_tup f
      have tg := tg_fm (np _ _ BT) (hf.same sT)
      have isf := fm_isF fi fd fs
      have mb := (fm_bd fi).mono (show 12 ≤ 21 by decide) (show f.dep ≤ 8 by omega) (show _ ≤ 40000 by omega)
      have nn := npc_isF isf
      have kk := kd_fm isf
      rw [e] at tg mb nn kk
      obtain ⟨a', xs, e1, _, ha, hx⟩ := tg.tupv
      exact ⟨a', xs, _, e1, ha, hx, mb, nn, fun h => absurd h (by decide), fun h => absurd h (by decide), fun _ => kk⟩
    have hth := upd_same (H := M2) (a := th) (o := .lst [.ref sh, .ref ra, mv, fv, .ref tm])
    have thb := ne_new B2 nth
    have h1 := uT.tup BM h1
    have h2 := uT.tup BM h2
    have hkl := uT.lst klb hkl
    have uM : Bus b H3 (upd M2 th (.lst [.ref sh, .ref ra, mv, fv, .ref tm])) := (Bus.of bM).trans uT
    generalize upd M2 th (.lst [.ref sh, .ref ra, mv, fv, .ref tm]) = Z at hth h1 h2 hkl q0 q1 q2 q3 q4 BT uM ⊢
    have ktZ : Ktab T Z := kt3.bus hB uM
    clear t0 t1 t4 uT sT nth hm hm2 hf c1 c2 c12 B1 B2 htm BM bM tds
    have all5 : ∀ (n : Nat) (x : V), [V.ref sh, .ref ra, mv, fv, .ref tm][n]? = some x → ThA b Z n x := fun n x e => by
      match n, e with
      | 0, e => cases e; exact q0
      | 1, e => cases e; exact q1
      | 2, e => cases e; exact q2
      | 3, e => cases e; exact q3
      | 4, e => cases e; exact ⟨_, _, _, q4⟩
    refine ⟨.ref th, rfl, th, _, rfl, SqL.mk hth, for_it (walk_enum (xs := [V.ref sh, .ref ra, mv, fv, .ref tm])) (fun n σ G => ∃ y12 y13 y14, σ = [some (.ref a), some (.ref c), some (.int (0 + (i : Int))), some (.ref b), some (.int (bt : Nat)), some (.int (tp : Nat)), some (.int ((Nat.gcd tp bt : Nat) : Int)), some (.ref sh), some (.ref ra), some (.ref kl), some (.ref tm), some (.ref th), y12, y13, y14, none, none] ∧ Sam Z G) ⟨_, _, _, rfl, Sam.refl Z⟩ ?_ ?_ ?_⟩
    · rintro n σ G _ ⟨_, _, _, _, sG⟩
      exact SqL.mk (sG.lst hth)
    rotate_left
    · rintro σ G ⟨y12, y13, y14, rfl, sG⟩
      have q4G := q4.keep BT (Bus.sam sG)
      have BG := BT.sam sG
      refine ⟨.ref tm, rfl, 1, rfl, tm, _, rfl, q4G.at_, fun G1 t s1 ht => ?_⟩
      have ec : cutV (u0 :: ur) none (some 1) = [u0] := cut_lo (u0 :: ur) 1 (by simp)
      rw [ec] at ht
      refine ⟨(show 1 ≤ sizeLine by decide), fun fl nfl => ?_⟩
      have s2 := same_upd nfl (o := .lst [.bl false])
      have hfl := upd_same (H := G1) (a := fl) (o := .lst [.bl false])
      have s12 := s1.trans s2
      have ht := s2 _ _ ht
      generalize upd G1 fl (.lst [.bl false]) = G2 at s2 s12 hfl ht ⊢
      refine ⟨fl, 4, _, rfl, rfl, hfl, by decide, by decide, by decide, fun f2 nf2 => ?_⟩
      have s3 := same_upd nf2 (o := .lst (List.replicate (4 : Int).toNat [V.bl false]).flatten)
      have hf2 := upd_same (H := G2) (a := f2) (o := .lst (List.replicate (4 : Int).toNat [V.bl false]).flatten)
      have ht := s3 _ _ ht
      have s13q := s12.trans s3
      generalize upd G2 f2 (.lst (List.replicate (4 : Int).toNat [V.bl false]).flatten) = G3 at s3 s13q hf2 ht ⊢
      refine ⟨(show 1 ≤ sizeLine by decide), fun f3 nf3 => ?_⟩
      have s4 := same_upd nf3 (o := .lst [.bl true])
      have hf3 := upd_same (H := G3) (a := f3) (o := .lst [.bl true])
      have ht := s4 _ _ ht
      have hf2 := s4 _ _ hf2
      have s14 := s13q.trans s4
      generalize upd G3 f3 (.lst [.bl true]) = G4 at s4 s14 hf2 hf3 ht ⊢
      refine ⟨f2, f3, _, _, rfl, rfl, hf2, hf3, by decide, fun f4 nf4 => ?_⟩
      have s5 := same_upd nf4 (o := .lst ((List.replicate (4 : Int).toNat [V.bl false]).flatten ++ [.bl true]))
      have hf4 := upd_same (H := G4) (a := f4) (o := .lst ((List.replicate (4 : Int).toNat [V.bl false]).flatten ++ [.bl true]))
      have ht := s5 _ _ ht
      have s15 := s14.trans s5
      generalize upd G4 f4 (.lst ((List.replicate (4 : Int).toNat [V.bl false]).flatten ++ [.bl true])) = G5 at s5 s15 hf4 ht ⊢
      rw [op_repF4] at hf4
      have q4H := q4G.keep BG (Bus.of (same_but s15))
      have tu := q4H.tg
      cases tu with
      | cons tu0 tur =>
      have B5 := BG.same s15
      refine ⟨_, .ref t, .tuple [e0], 8, 40000, f4, rfl, .tup (B5.ne_tup ht) ht (.cons tu0 .nil), (BdA.one be0).tup.mono (by decide) (by decide) (by decide), by decide, by decide, ?_, ktZ.sam (sG.trans (Sam.of s15)), fun G6 s6 => ⟨_, rfl, iteF ?_⟩⟩
      · rw [hf4]
        rw [fe0] at mc1 ⊢
        rw [kd_mc mc1]
      have sG6 := sG.trans ((Sam.of s15).trans s6)
      have q4I := q4.keep BT (Bus.sam sG6)
      refine ⟨.ref tm, rfl, tm, _, 0, u0, rfl, rfl, SqT.mk q4I.at_, atI_nat (j := 0) rfl, (show 1 ≤ sizeLine by decide), fun fl nfl => ?_⟩
      have s2 := same_upd nfl (o := .lst [.bl false])
      have hfl := upd_same (H := G6) (a := fl) (o := .lst [.bl false])
      have s16 := sG6.trans (Sam.of s2)
      generalize upd G6 fl (.lst [.bl false]) = G7 at s2 s16 hfl ⊢
      refine ⟨fl, 5, _, rfl, rfl, hfl, by decide, by decide, by decide, fun f2 nf2 => ?_⟩
      have s3 := same_upd nf2 (o := .lst (List.replicate (5 : Int).toNat [V.bl false]).flatten)
      have hf2 := upd_same (H := G7) (a := f2) (o := .lst (List.replicate (5 : Int).toNat [V.bl false]).flatten)
      have s17 := s16.trans (Sam.of s3)
      generalize upd G7 f2 (.lst (List.replicate (5 : Int).toNat [V.bl false]).flatten) = G8 at s3 s17 hf2 ⊢
      rw [op_repF] at hf2
      have tu := (q4.keep BT (Bus.sam s17)).tg
      cases tu with
      | cons tu0 tur =>
      refine ⟨_, u0, e0, 8, 40000, f2, rfl, tu0, be0.mono (by decide) (by decide) (by decide), by decide, by decide, ?_, ktZ.sam s17, fun G9 s9 => ⟨_, rfl, iteF ⟨_, _, _, _, _, _, _, _, _, _, _, _, _, rfl, bus_same nb1 s13 (uM.trans (Bus.sam (s17.trans s9)))⟩⟩⟩
      rw [hf2]
      have p0 := pe0 1 (by decide)
      rw [fe0] at p0 ⊢
      rw [kd_pc p0]
    rintro n x σ G G' hn ⟨y12, y13, y14, rfl, sG⟩ ⟨t5, x1, x2, rfl, nt5, rfl, ex1, ex2⟩
    have ex1 : some (V.int (n : Nat)) = some x1 := ex1
    cases ex1
    have n5 : n < 5 := hn
    obtain ⟨va, xs, es, hx⟩ := all5 n x2 ex2
    obtain rfl := hx.v
    have g1 := same_upd nt5 (o := .tup [.int (n : Nat), .ref va])
    have sG1 := sG.trans (Sam.of g1)
    refine ⟨t5, _, rfl, SqT.mk upd_same, rfl, _, _, rfl, _, _, rfl, rfl, ?_⟩
    generalize upd G t5 (.tup [.int (n : Nat), .ref va]) = G1 at g1 sG1 ⊢
    -- what is due
    refine seq_via (fun σ X => ∃ e, σ = [some (.ref a), some (.ref c), some (.int (0 + (i : Int))), some (.ref b), some (.int (bt : Nat)), some (.int (tp : Nat)), some (.int ((Nat.gcd tp bt : Nat) : Int)), some (.ref sh), some (.ref ra), some (.ref kl), some (.ref tm), some (.ref th), some (.int (n : Nat)), some (.ref va), some (.ref e), none, none] ∧ Sam Z X ∧ X e = some (.lst ((due n).map V.bl))) (fun N key => ?_) ?_
    · refine ⟨5, rfl, by decide, by decide, fun D nD => ?_⟩
      refine lc_range (fun j F => Same G1 F ∧ F D = some (.lst (((List.range j).map fun j => decide (n = j)).map V.bl))) ⟨same_upd nD, upd_same⟩ (fun j F hj h => ?_) (fun F h => ?_)
      · obtain ⟨s2, hD⟩ := h
        have j5 : j < 5 := hj
        refine ⟨rfl, yes_ite ⟨_, rfl, _, rfl, rfl, _, hD, by rw [List.length_map, List.length_map, List.length_range]; omega, same_newer s2 nD, ?_⟩⟩
        have e : decide (V.int (n : Nat) = V.int (0 + (j : Int))) = decide (n = j) := decide_eq_decide.mpr ⟨fun e => by have := V.int.inj e; omega, fun e => by rw [e, Int.zero_add]⟩
        rw [upd_same, List.range_succ, List.map_append, List.map_append]
        try dsimp only
        rw [e]
        rfl
      obtain ⟨s2, hD⟩ := h
      exact key _ F ⟨D, rfl, sG1.trans (Sam.of s2), hD⟩
    rintro σ F ⟨D, rfl, sF, hD⟩
    refine seq_via (fun σ X => ∃ e, σ = [some (.ref a), some (.ref c), some (.int (0 + (i : Int))), some (.ref b), some (.int (bt : Nat)), some (.int (tp : Nat)), some (.int ((Nat.gcd tp bt : Nat) : Int)), some (.ref sh), some (.ref ra), some (.ref kl), some (.ref tm), some (.ref th), some (.int (n : Nat)), some (.ref va), some (.ref e), none, none] ∧ Sam Z X ∧ X e = some (.lst ((kinds (.tuple es)).map V.bl))) (fun N key => ?_) ?_
    · have hxF := hx.keep BT (Bus.sam sF)
      have hkF := sF.lst hkl
      have h1F := sF.tup h1
      have h2F := sF.tup h2
      have no : ¬ (n < 2 ∧ two es) → N _ F := fun z => key _ F ⟨D, rfl, sF, by rw [hD, hx.kd.2 z]⟩
      refine ⟨_, rfl, _, _, rfl, rfl, _, rfl, ite2 (fun w2 => ?_) (fun w2 => ?_)⟩
      rotate_left
      · refine no fun z => w2 (decide_eq_true ?_)
        omega
      have w2 : ((n : Nat) : Int) < 2 := of_decide_eq_true w2
      have tv : Tg (fun q => q = b) F (.ref va) (.tuple es) := .tup ((BT.sam sF).ne_tup hxF.at_) hxF.at_ hxF.tg
      refine ⟨.ref va, rfl, _, rfl, .tuple es, [.tuple [.int 0, .int 1], .tuple [.int 1, .int 1]], tv.dp, .lst (SqL.mk hkF) (.cons (.tup (SqT.mk h1F) (.cons (.int _) (.cons (.int _) .nil))) (.cons (.tup (SqT.mk h2F) (.cons (.int _) (.cons (.int _) .nil))) .nil)), hx.bd.shaped (by decide), by decide +kernel, _, rfl, ite2 (fun w => ?_) (fun w => ?_)⟩
      rotate_left
      · exact no fun z => w (any_two z.2)
      have tw := two_any es w (hx.nums (by omega))
      exact ⟨(show 5 ≤ sizeLine by decide), fun D2 nD2 => key _ _ ⟨D2, rfl, sF.trans (Sam.of (same_upd nD2)), by rw [upd_same, hx.kd.1 (by omega) tw]; rfl⟩⟩
    rintro σ X ⟨e, rfl, sX, he⟩
    have hxX := hx.keep BT (Bus.sam sX)
    have BX := BT.sam sX
    have tv : ∀ (W : Hp), Sam X W → Tg (fun q => q = b) W (.ref va) (.tuple es) := fun W s => by
      have h := hx.keep BT (Bus.sam (sX.trans s))
      exact .tup ((BX.sam s).ne_tup h.at_) h.at_ h.tg
    have bx : Bd 23 8 40000 (.tuple es) := hx.bd.mono (by decide) (by decide) (by decide)
    have kx : ∀ ds, kinds (.tuple (.tuple es :: ds)) = [false, false, false, false, false] := fun ds => kd_tup hx.np
    refine ⟨.ref va, rfl, _, rfl, _, .ref va, .tuple es, 8, 40000, e, rfl, tv X (Sam.refl X), bx, by decide, by decide, he, ktZ.sam sX, fun X1 s1 => ⟨_, rfl, iteF ?_⟩⟩
    -- a list of it
    refine ⟨.ref va, rfl, (show 1 ≤ sizeLine by decide), fun w1 nw1 => ⟨(show 1 ≤ sizeLine by decide), fun f1 nf1 => ?_⟩⟩
    have z1 := same_upd nw1 (o := .lst [.ref va])
    have hw1 := upd_same (H := X1) (a := w1) (o := .lst [.ref va])
    generalize upd X1 w1 (.lst [.ref va]) = X2 at z1 hw1 nf1 ⊢
    have z2 := same_upd nf1 (o := .lst [.bl false])
    have hf1 := upd_same (H := X2) (a := f1) (o := .lst [.bl false])
    have hw1 := z2 _ _ hw1
    have w1b : w1 ≠ b := fun y => (BX.sam s1).some (y ▸ nw1)
    have s2 := (s1.trans (Sam.of z1)).trans (Sam.of z2)
    generalize upd X2 f1 (.lst [.bl false]) = X3 at z2 hf1 hw1 s2 ⊢
    refine ⟨f1, 5, _, rfl, rfl, hf1, by decide, by decide, by decide, fun e1 ne1 => ?_⟩
    have z3 := same_upd ne1 (o := .lst (List.replicate (5 : Int).toNat [V.bl false]).flatten)
    have he1 := upd_same (H := X3) (a := e1) (o := .lst (List.replicate (5 : Int).toNat [V.bl false]).flatten)
    have hw1 := z3 _ _ hw1
    have s3 := s2.trans (Sam.of z3)
    generalize upd X3 e1 (.lst (List.replicate (5 : Int).toNat [V.bl false]).flatten) = X4 at z3 he1 hw1 s3 ⊢
    rw [op_repF] at he1
    refine ⟨_, .ref w1, .list [.tuple es], 9, 40001, e1, rfl, .lst w1b hw1 (.cons (tv X4 s3) .nil), (BdA.one bx).lst, by decide, by decide, by rw [he1, kd_list], ktZ.sam (sX.trans s3), fun X5 s4 => ⟨_, rfl, iteF ?_⟩⟩
    have s5 := s3.trans s4
    clear hw1 he1 hf1 z1 z2 z3 s1 s2 s3 s4 w1b nw1 nf1 ne1
    -- its parts in a list
    have hx5 := hx.keep BT (Bus.sam (sX.trans s5))
    refine ⟨.ref va, rfl, va, xs, rfl, .inr (SqT.mk hx5.at_), fun w1 nw1 => ⟨(show 1 ≤ sizeLine by decide), fun f1 nf1 => ?_⟩⟩
    have z1 := same_upd nw1 (o := .lst xs)
    have hw1 := upd_same (H := X5) (a := w1) (o := .lst xs)
    generalize upd X5 w1 (.lst xs) = X2 at z1 hw1 nf1 ⊢
    have z2 := same_upd nf1 (o := .lst [.bl false])
    have hf1 := upd_same (H := X2) (a := f1) (o := .lst [.bl false])
    have hw1 := z2 _ _ hw1
    have w1b : w1 ≠ b := fun y => (BX.sam s5).some (y ▸ nw1)
    have s2 := (s5.trans (Sam.of z1)).trans (Sam.of z2)
    generalize upd X2 f1 (.lst [.bl false]) = X3 at z2 hf1 hw1 s2 ⊢
    refine ⟨f1, 5, _, rfl, rfl, hf1, by decide, by decide, by decide, fun e1 ne1 => ?_⟩
    have z3 := same_upd ne1 (o := .lst (List.replicate (5 : Int).toNat [V.bl false]).flatten)
    have he1 := upd_same (H := X3) (a := e1) (o := .lst (List.replicate (5 : Int).toNat [V.bl false]).flatten)
    have hw1 := z3 _ _ hw1
    have s3 := s2.trans (Sam.of z3)
    generalize upd X3 e1 (.lst (List.replicate (5 : Int).toNat [V.bl false]).flatten) = X4 at z3 he1 hw1 s3 ⊢
    rw [op_repF] at he1
    refine ⟨_, .ref w1, .list es, 8, 40000, e1, rfl, .lst w1b hw1 ((hx.keep BT (Bus.sam (sX.trans s3))).tg), (bx.itemsT.2.lst).mono (by decide) (by decide) (by decide), by decide, by decide, by rw [he1, kd_list], ktZ.sam (sX.trans s3), fun X6 s4 => ⟨_, rfl, iteF ?_⟩⟩
    have s6 := s3.trans s4
    clear hw1 he1 hf1 z1 z2 z3 s2 s3 s4 w1b nw1 nf1 ne1 s5 hx5
    -- in a tuple
    refine ⟨.ref va, rfl, (show 1 ≤ sizeLine by decide), fun w1 nw1 => ⟨(show 1 ≤ sizeLine by decide), fun f1 nf1 => ?_⟩⟩
    have z1 := same_upd nw1 (o := .tup [.ref va])
    have hw1 := upd_same (H := X6) (a := w1) (o := .tup [.ref va])
    generalize upd X6 w1 (.tup [.ref va]) = X2 at z1 hw1 nf1 ⊢
    have z2 := same_upd nf1 (o := .lst [.bl false])
    have hf1 := upd_same (H := X2) (a := f1) (o := .lst [.bl false])
    have hw1 := z2 _ _ hw1
    have s2 := (s6.trans (Sam.of z1)).trans (Sam.of z2)
    generalize upd X2 f1 (.lst [.bl false]) = X3 at z2 hf1 hw1 s2 ⊢
    refine ⟨f1, 5, _, rfl, rfl, hf1, by decide, by decide, by decide, fun e1 ne1 => ?_⟩
    have z3 := same_upd ne1 (o := .lst (List.replicate (5 : Int).toNat [V.bl false]).flatten)
    have he1 := upd_same (H := X3) (a := e1) (o := .lst (List.replicate (5 : Int).toNat [V.bl false]).flatten)
    have hw1 := z3 _ _ hw1
    have s3 := s2.trans (Sam.of z3)
    generalize upd X3 e1 (.lst (List.replicate (5 : Int).toNat [V.bl false]).flatten) = X4 at z3 he1 hw1 s3 ⊢
    rw [op_repF] at he1
    refine ⟨_, .ref w1, .tuple [.tuple es], 9, 40001, e1, rfl, .tup ((BX.sam s3).ne_tup hw1) hw1 (.cons (tv X4 s3) .nil), (BdA.one bx).tup, by decide, by decide, by rw [he1, kx], ktZ.sam (sX.trans s3), fun X7 s4 => ⟨_, rfl, iteF ?_⟩⟩
    have s7 := s3.trans s4
    clear hw1 he1 hf1 z1 z2 z3 s2 s3 s4 nw1 nf1 ne1 s6
    -- twice in a tuple
    refine ⟨.ref va, rfl, .ref va, rfl, (show 2 ≤ sizeLine by decide), fun w1 nw1 => ⟨(show 1 ≤ sizeLine by decide), fun f1 nf1 => ?_⟩⟩
    have z1 := same_upd nw1 (o := .tup [.ref va, .ref va])
    have hw1 := upd_same (H := X7) (a := w1) (o := .tup [.ref va, .ref va])
    generalize upd X7 w1 (.tup [.ref va, .ref va]) = X2 at z1 hw1 nf1 ⊢
    have z2 := same_upd nf1 (o := .lst [.bl false])
    have hf1 := upd_same (H := X2) (a := f1) (o := .lst [.bl false])
    have hw1 := z2 _ _ hw1
    have s2 := (s7.trans (Sam.of z1)).trans (Sam.of z2)
    generalize upd X2 f1 (.lst [.bl false]) = X3 at z2 hf1 hw1 s2 ⊢
    refine ⟨f1, 5, _, rfl, rfl, hf1, by decide, by decide, by decide, fun e1 ne1 => ?_⟩
    have z3 := same_upd ne1 (o := .lst (List.replicate (5 : Int).toNat [V.bl false]).flatten)
    have he1 := upd_same (H := X3) (a := e1) (o := .lst (List.replicate (5 : Int).toNat [V.bl false]).flatten)
    have hw1 := z3 _ _ hw1
    have s3 := s2.trans (Sam.of z3)
    generalize upd X3 e1 (.lst (List.replicate (5 : Int).toNat [V.bl false]).flatten) = X4 at z3 he1 hw1 s3 ⊢
    rw [op_repF] at he1
    refine ⟨_, .ref w1, .tuple [.tuple es, .tuple es], 9, 80002, e1, rfl, .tup ((BX.sam s3).ne_tup hw1) hw1 (.cons (tv X4 s3) (.cons (tv X4 s3) .nil)), (((BdA.one bx).app (BdA.one bx)).mono (Nat.le_refl _) (show max 8 8 ≤ 8 by decide) (by decide)).tup, by decide, by decide, by rw [he1, kx], ktZ.sam (sX.trans s3), fun X8 s4 => ⟨_, rfl, iteF ?_⟩⟩
    exact ⟨_, _, _, rfl, sX.trans (s3.trans s4)⟩
end
def d_is_number : He.DefD := ⟨("is_number", none), "is_number", "is_number", defArgs s_is_number, defBody s_is_number, defScope s_is_number, [], []⟩
def d_is_within : He.DefD := ⟨("is_within", none), "is_within", "is_within", defArgs s_is_within, defBody s_is_within, defScope s_is_within, [], []⟩
def d_common_divisor : He.DefD := ⟨("common_divisor", none), "common_divisor", "common_divisor", defArgs s_common_divisor, defBody s_common_divisor, defScope s_common_divisor, [], []⟩
def d_is_fraction : He.DefD := ⟨("is_fraction", none), "is_fraction", "is_fraction", defArgs s_is_fraction, defBody s_is_fraction, defScope s_is_fraction, [], []⟩
def d_is_share : He.DefD := ⟨("is_share", none), "is_share", "is_share", defArgs s_is_share, defBody s_is_share, defScope s_is_share, [], []⟩
def d_is_bit : He.DefD := ⟨("is_bit", none), "is_bit", "is_bit", defArgs s_is_bit, defBody s_is_bit, defScope s_is_bit, [], []⟩
def d_is_row : He.DefD := ⟨("is_row", none), "is_row", "is_row", defArgs s_is_row, defBody s_is_row, defScope s_is_row, [], []⟩
def d_is_table : He.DefD := ⟨("is_table", none), "is_table", "is_table", defArgs s_is_table, defBody s_is_table, defScope s_is_table, [], []⟩
def d_is_plain : He.DefD := ⟨("is_plain", none), "is_plain", "is_plain", defArgs s_is_plain, defBody s_is_plain, defScope s_is_plain, [], []⟩
def d_is_around : He.DefD := ⟨("is_around", none), "is_around", "is_around", defArgs s_is_around, defBody s_is_around, defScope s_is_around, [], []⟩
def d_is_maker : He.DefD := ⟨("is_maker", none), "is_maker", "is_maker", defArgs s_is_maker, defBody s_is_maker, defScope s_is_maker, [], []⟩
def d_counter_round : He.DefD := ⟨("counter_round", none), "counter_round", "counter_round", defArgs s_counter_round, defBody s_counter_round, defScope s_counter_round, [], []⟩
def d_last_for_first : He.DefD := ⟨("last_for_first", none), "last_for_first", "last_for_first", defArgs s_last_for_first, defBody s_last_for_first, defScope s_last_for_first, [], []⟩
def d_size_of : He.DefD := ⟨("size_of", none), "size_of", "size_of", defArgs s_size_of, defBody s_size_of, defScope s_size_of, [], []⟩
def d_turned_round : He.DefD := ⟨("turned_round", none), "turned_round", "turned_round", defArgs s_turned_round, defBody s_turned_round, defScope s_turned_round, [], []⟩
def d_odd_ones : He.DefD := ⟨("odd_ones", none), "odd_ones", "odd_ones", defArgs s_odd_ones, defBody s_odd_ones, defScope s_odd_ones, [], []⟩
def d_held_round : He.DefD := ⟨("held_round", none), "held_round", "held_round", defArgs s_held_round, defBody s_held_round, defScope s_held_round, [], []⟩
def d_plain_round : He.DefD := ⟨("plain_round", none), "plain_round", "plain_round", defArgs s_plain_round, defBody s_plain_round, defScope s_plain_round, [], []⟩
def d_round_of : He.DefD := ⟨("round_of", none), "round_of", "round_of", defArgs s_round_of, defBody s_round_of, defScope s_round_of, [], []⟩
def d_is_part : He.DefD := ⟨("is_part", none), "is_part", "is_part", defArgs s_is_part, defBody s_is_part, defScope s_is_part, [], []⟩
def d_sides_of : He.DefD := ⟨("sides_of", none), "sides_of", "sides_of", defArgs s_sides_of, defBody s_sides_of, defScope s_sides_of, [], []⟩
def d_is_formula : He.DefD := ⟨("is_formula", none), "is_formula", "is_formula", defArgs s_is_formula, defBody s_is_formula, defScope s_is_formula, [], []⟩
def d_asks_of : He.DefD := ⟨("asks_of", none), "asks_of", "asks_of", defArgs s_asks_of, defBody s_asks_of, defScope s_asks_of, [], []⟩
def d_is_ahead : He.DefD := ⟨("is_ahead", none), "is_ahead", "is_ahead", defArgs s_is_ahead, defBody s_is_ahead, defScope s_is_ahead, [], []⟩
def d_is_shaped : He.DefD := ⟨("is_shaped", none), "is_shaped", "is_shaped", defArgs s_is_shaped, defBody s_is_shaped, defScope s_is_shaped, [], []⟩
def d_is_piece : He.DefD := ⟨("is_piece", none), "is_piece", "is_piece", defArgs s_is_piece, defBody s_is_piece, defScope s_is_piece, [], []⟩
def d_is_machine : He.DefD := ⟨("is_machine", none), "is_machine", "is_machine", defArgs s_is_machine, defBody s_is_machine, defScope s_is_machine, [], []⟩
def d__law_box : He.DefD := ⟨("_law_box", none), "_law_box", "_law_box", defArgs s__law_box, defBody s__law_box, defScope s__law_box, [], []⟩
def d__law_take : He.DefD := ⟨("_law_take", none), "_law_take", "_law_take", defArgs s__law_take, defBody s__law_take, defScope s__law_take, [], []⟩
def d__law_folded : He.DefD := ⟨("_law_folded", none), "_law_folded", "_law_folded", defArgs s__law_folded, defBody s__law_folded, defScope s__law_folded, [], []⟩
def d__law_row : He.DefD := ⟨("_law_row", none), "_law_row", "_law_row", defArgs s__law_row, defBody s__law_row, defScope s__law_row, [], []⟩
def d__law_long : He.DefD := ⟨("_law_long", none), "_law_long", "_law_long", defArgs s__law_long, defBody s__law_long, defScope s__law_long, [], []⟩
def d__law_divisor : He.DefD := ⟨("_law_divisor", none), "_law_divisor", "_law_divisor", defArgs s__law_divisor, defBody s__law_divisor, defScope s__law_divisor, [], []⟩
def d__law_powers : He.DefD := ⟨("_law_powers", none), "_law_powers", "_law_powers", defArgs s__law_powers, defBody s__law_powers, defScope s__law_powers, [], []⟩
def d__law_plain : He.DefD := ⟨("_law_plain", none), "_law_plain", "_law_plain", defArgs s__law_plain, defBody s__law_plain, defScope s__law_plain, [], []⟩
def d__law_base : He.DefD := ⟨("_law_base", none), "_law_base", "_law_base", defArgs s__law_base, defBody s__law_base, defScope s__law_base, [], []⟩
def d__law_round : He.DefD := ⟨("_law_round", none), "_law_round", "_law_round", defArgs s__law_round, defBody s__law_round, defScope s__law_round, [], []⟩
def d__law_maker : He.DefD := ⟨("_law_maker", none), "_law_maker", "_law_maker", defArgs s__law_maker, defBody s__law_maker, defScope s__law_maker, [], []⟩
def d__law_formula : He.DefD := ⟨("_law_formula", none), "_law_formula", "_law_formula", defArgs s__law_formula, defBody s__law_formula, defScope s__law_formula, [], []⟩
def d__law_any : He.DefD := ⟨("_law_any", none), "_law_any", "_law_any", defArgs s__law_any, defBody s__law_any, defScope s__law_any, [], []⟩
def d__law_piece : He.DefD := ⟨("_law_piece", none), "_law_piece", "_law_piece", defArgs s__law_piece, defBody s__law_piece, defScope s__law_piece, [], []⟩
def d__law_told : He.DefD := ⟨("_law_told", none), "_law_told", "_law_told", defArgs s__law_told, defBody s__law_told, defScope s__law_told, [], []⟩
def d__law_is : He.DefD := ⟨("_law_is", none), "_law_is", "_law_is", defArgs s__law_is, defBody s__law_is, defScope s__law_is, [], []⟩
def d_law : He.DefD := ⟨("law", none), "law", "law", defArgs s_law, defBody s_law, defScope s_law, [], []⟩
def hfn : List He.DefD := [d_is_number, d_is_within, d_common_divisor, d_is_fraction, d_is_share, d_is_bit, d_is_row, d_is_table, d_is_plain, d_is_around, d_is_maker, d_counter_round, d_last_for_first, d_size_of, d_turned_round, d_odd_ones, d_held_round, d_plain_round, d_round_of, d_is_part, d_sides_of, d_is_formula, d_asks_of, d_is_ahead, d_is_shaped, d_is_piece, d_is_machine, d__law_box, d__law_take, d__law_folded, d__law_row, d__law_long, d__law_divisor, d__law_powers, d__law_plain, d__law_base, d__law_round, d__law_maker, d__law_formula, d__law_any, d__law_piece, d__law_told, d__law_is, d_law]
def hfa : List He.Fa := [.glo "is_number", .glo "is_within", .glo "common_divisor", .glo "is_fraction", .glo "is_share", .glo "is_bit", .glo "is_row", .glo "is_table", .glo "is_plain", .glo "is_around", .glo "is_maker", .glo "counter_round", .glo "last_for_first", .glo "size_of", .glo "turned_round", .glo "odd_ones", .glo "held_round", .glo "plain_round", .glo "round_of", .glo "is_part", .glo "sides_of", .glo "is_formula", .glo "asks_of", .glo "is_ahead", .glo "is_shaped", .glo "is_piece", .glo "is_machine", .glo "_law_box", .glo "_law_take", .glo "_law_folded", .glo "_law_row", .glo "_law_long", .glo "_law_divisor", .glo "_law_powers", .glo "_law_plain", .glo "_law_base", .glo "_law_round", .glo "_law_maker", .glo "_law_formula", .glo "_law_any", .glo "_law_piece", .glo "_law_told", .glo "_law_is", .glo "law", .free "abs", .free "all", .free "bool", .free "divmod", .free "enumerate", .free "int", .free "isinstance", .free "len", .free "list", .free "max", .free "range", .free "str", .free "sum", .free "tuple", .free "zip", .glo "SIDES", .glo "ASKED", .int "LONGEST" 4096, .int "MOST_AROUND" 3, .int "GREATEST_K" 64, .int "GREATEST_INPUT" 5, .int "MOST_PARTS" 24, .int "DEEPEST" 8, .int "MOST_PIECES" 24, .int "MOST_AHEAD" 16, .int "MOST_HELD" 64]
def hts : List He.Tab := [((fun K => He.ga K "SIDES"), ["less", "both", "either", "oneof", "pick"]), ((fun K => He.ga K "ASKED"), ["make", "less", "both", "either", "oneof", "pick", "keep", "late", "keeper"])]
def htf : List He.Defn := [("is_row", none), ("is_table", none), ("is_ahead", none), ("is_piece", none), ("is_machine", none)]
abbrev Hex (K : PySem.W.Frag) : Prop := (dicB K (He.ga K "SIDES") dl_SIDES = true) ∧ (dicB K (He.ga K "ASKED") dl_ASKED = true)
instance (K : PySem.W.Frag) : Decidable (Hex K) := inferInstance
def hex : PySem.W.Frag → Bool := fun K => decide (Hex K)
abbrev R : PySem.W.OpenRow := PySem.W.OpenLaw.row PySem.Challenge.rw_shareones_k77_whole_kinds_apart
abbrev hk : PySem.W.Hook := He.hookX 4 hfa hfn hts htf hex
def ob (s : PySem.W.SharedT) : He.AlX := He.obsX 4 hfa hfn hts htf hex (HandSHeadRun.getT s)
theorem ob_eq (s : PySem.W.SharedT) : ob s = hk.obs s.abs := He.obsX_eq (HandSHeadRun.getT_eq s)
def loose : List Str := "is_number" :: "is_within" :: "common_divisor" :: "is_fraction" :: "is_share" :: "is_bit" :: "is_row" :: "is_table" :: "is_plain" :: "is_around" :: "is_maker" :: "counter_round" :: "last_for_first" :: "size_of" :: "turned_round" :: "odd_ones" :: "held_round" :: "plain_round" :: "round_of" :: "is_part" :: "sides_of" :: "is_formula" :: "asks_of" :: "is_ahead" :: "is_shaped" :: "is_piece" :: "is_machine" :: "_law_box" :: "_law_take" :: "_law_folded" :: "_law_row" :: "_law_long" :: "_law_divisor" :: "_law_powers" :: "_law_plain" :: "_law_base" :: "_law_round" :: "_law_maker" :: "_law_formula" :: "_law_any" :: "_law_piece" :: "_law_told" :: "_law_is" :: "LONGEST" :: "MOST_AROUND" :: "GREATEST_K" :: "SIDES" :: "GREATEST_INPUT" :: "MOST_PARTS" :: "DEEPEST" :: "ASKED" :: "MOST_PIECES" :: "MOST_AHEAD" :: "MOST_HELD" :: []
theorem run (w : World) : HandSHeadRun.RunEq R (PySem.W.view R.prog [60]) hk ob 6000 loose w := PySem.W.byRow2 "special-get-raises" (P := fun w => HandSHeadRun.RunEq R (PySem.W.view R.prog [60]) hk ob 6000 loose w) (fun w => by
  intro os
  kernel_rfl) (fun w => by
  intro os
  kernel_rfl) w
theorem codeAt {K : PySem.W.Frag} {p : He.Defn} : CodeAt K (He.fAd K p) (He.cT K p).1 := fun oc od fd osl lk b e => (He.codeOf_eq lk e).symm
theorem facts {l : PySem.W.OpenLaw} {w : World} {K : PySem.W.Frag} {h : Heap} {mg : Str → Option Value} {f : Addr} (X : K.In h) (G : h.Ns mainGlobals mg) (hfa_ : mg ("law" : Str) = some (.ref f)) (cc : He.SaysX hfa hfn hts htf hex w h K) :
    ∃ (fd : FuncData) (cs : List (Addr × Addr)) (sp : Sp), (∀ q, q ∈ cs → TbAt K h q) ∧ (∀ (s : Shared) (u : Value), BindsTo s fd ⟨[u], []⟩ [("_law_script", u)]) ∧ (∀ (H : Hp) (a : Addr) (ns : List Int), ns.length ≤ 63 → (∀ q, q ∈ cs → H q.2 = some (.tbl #[])) → SqL K H a (ns.map V.int) → sp [.ref a] H (fun v _ => v = .bl true) fun _ _ _ => False) ∧ ∀ base : Heap, K.In base → base.Ns mainGlobals mg → (∀ q, q ∈ cs → GxR.TabB base mg q.1 q.2) → GOk l.prog w K mg base CX0 17 f fd ["_law_script"] sp := by
  have c : He.SaysD hfa hfn K := congrArg (fun z : He.AlT => z.1) cc.t
  obtain ⟨fd_is_number, F_is_number⟩ := c.def_ 0 (d := d_is_number) rfl
  obtain ⟨fd_is_within, F_is_within⟩ := c.def_ 1 (d := d_is_within) rfl
  obtain ⟨fd_common_divisor, F_common_divisor⟩ := c.def_ 2 (d := d_common_divisor) rfl
  obtain ⟨fd_is_fraction, F_is_fraction⟩ := c.def_ 3 (d := d_is_fraction) rfl
  obtain ⟨fd_is_share, F_is_share⟩ := c.def_ 4 (d := d_is_share) rfl
  obtain ⟨fd_is_bit, F_is_bit⟩ := c.def_ 5 (d := d_is_bit) rfl
  obtain ⟨fd_is_row, F_is_row⟩ := c.def_ 6 (d := d_is_row) rfl
  obtain ⟨fd_is_table, F_is_table⟩ := c.def_ 7 (d := d_is_table) rfl
  obtain ⟨fd_is_plain, F_is_plain⟩ := c.def_ 8 (d := d_is_plain) rfl
  obtain ⟨fd_is_around, F_is_around⟩ := c.def_ 9 (d := d_is_around) rfl
  obtain ⟨fd_is_maker, F_is_maker⟩ := c.def_ 10 (d := d_is_maker) rfl
  obtain ⟨fd_counter_round, F_counter_round⟩ := c.def_ 11 (d := d_counter_round) rfl
  obtain ⟨fd_last_for_first, F_last_for_first⟩ := c.def_ 12 (d := d_last_for_first) rfl
  obtain ⟨fd_size_of, F_size_of⟩ := c.def_ 13 (d := d_size_of) rfl
  obtain ⟨fd_turned_round, F_turned_round⟩ := c.def_ 14 (d := d_turned_round) rfl
  obtain ⟨fd_odd_ones, F_odd_ones⟩ := c.def_ 15 (d := d_odd_ones) rfl
  obtain ⟨fd_held_round, F_held_round⟩ := c.def_ 16 (d := d_held_round) rfl
  obtain ⟨fd_plain_round, F_plain_round⟩ := c.def_ 17 (d := d_plain_round) rfl
  obtain ⟨fd_round_of, F_round_of⟩ := c.def_ 18 (d := d_round_of) rfl
  obtain ⟨fd_is_part, F_is_part⟩ := c.def_ 19 (d := d_is_part) rfl
  obtain ⟨fd_sides_of, F_sides_of⟩ := c.def_ 20 (d := d_sides_of) rfl
  obtain ⟨fd_is_formula, F_is_formula⟩ := c.def_ 21 (d := d_is_formula) rfl
  obtain ⟨fd_asks_of, F_asks_of⟩ := c.def_ 22 (d := d_asks_of) rfl
  obtain ⟨fd_is_ahead, F_is_ahead⟩ := c.def_ 23 (d := d_is_ahead) rfl
  obtain ⟨fd_is_shaped, F_is_shaped⟩ := c.def_ 24 (d := d_is_shaped) rfl
  obtain ⟨fd_is_piece, F_is_piece⟩ := c.def_ 25 (d := d_is_piece) rfl
  obtain ⟨fd_is_machine, F_is_machine⟩ := c.def_ 26 (d := d_is_machine) rfl
  obtain ⟨fd__law_box, F__law_box⟩ := c.def_ 27 (d := d__law_box) rfl
  obtain ⟨fd__law_take, F__law_take⟩ := c.def_ 28 (d := d__law_take) rfl
  obtain ⟨fd__law_folded, F__law_folded⟩ := c.def_ 29 (d := d__law_folded) rfl
  obtain ⟨fd__law_row, F__law_row⟩ := c.def_ 30 (d := d__law_row) rfl
  obtain ⟨fd__law_long, F__law_long⟩ := c.def_ 31 (d := d__law_long) rfl
  obtain ⟨fd__law_divisor, F__law_divisor⟩ := c.def_ 32 (d := d__law_divisor) rfl
  obtain ⟨fd__law_powers, F__law_powers⟩ := c.def_ 33 (d := d__law_powers) rfl
  obtain ⟨fd__law_plain, F__law_plain⟩ := c.def_ 34 (d := d__law_plain) rfl
  obtain ⟨fd__law_base, F__law_base⟩ := c.def_ 35 (d := d__law_base) rfl
  obtain ⟨fd__law_round, F__law_round⟩ := c.def_ 36 (d := d__law_round) rfl
  obtain ⟨fd__law_maker, F__law_maker⟩ := c.def_ 37 (d := d__law_maker) rfl
  obtain ⟨fd__law_formula, F__law_formula⟩ := c.def_ 38 (d := d__law_formula) rfl
  obtain ⟨fd__law_any, F__law_any⟩ := c.def_ 39 (d := d__law_any) rfl
  obtain ⟨fd__law_piece, F__law_piece⟩ := c.def_ 40 (d := d__law_piece) rfl
  obtain ⟨fd__law_told, F__law_told⟩ := c.def_ 41 (d := d__law_told) rfl
  obtain ⟨fd__law_is, F__law_is⟩ := c.def_ 42 (d := d__law_is) rfl
  obtain ⟨fd_law, F_law⟩ := c.def_ 43 (d := d_law) rfl
  have e := hfa_.symm.trans (He.glo_ok X G (c.fact 43 (f := .glo "law") rfl))
  cases e
  have b := FunD.bindsA (ps := ["_law_script"]) F_law fun _ _ _ _ _ _ us hl => match us, hl with | [_], _ => rfl
  have hm : Hex K := of_decide_eq_true cc.more
  obtain ⟨h0, h1⟩ := hm
  haveI : DW K w := ⟨cc.t.tab 0 rfl, h0, cc.t.tab 1 rfl, h1⟩
  let T : Defs K mg := ⟨_, fd_is_number, F_is_number, (He.glo_ok X G (c.fact 0 (f := .glo "is_number") rfl)), (FunD.bindsN F_is_number fun _ _ _ _ _ _ us hl => match us, hl with | [_], _ => rfl), _, fd_is_within, F_is_within, (He.glo_ok X G (c.fact 1 (f := .glo "is_within") rfl)), (FunD.bindsN F_is_within fun _ _ _ _ _ _ us hl => match us, hl with | [_, _, _], _ => rfl), _, fd_common_divisor, F_common_divisor, (He.glo_ok X G (c.fact 2 (f := .glo "common_divisor") rfl)), (FunD.bindsN F_common_divisor fun _ _ _ _ _ _ us hl => match us, hl with | [_, _], _ => rfl), _, fd_is_fraction, F_is_fraction, (He.glo_ok X G (c.fact 3 (f := .glo "is_fraction") rfl)), (FunD.bindsN F_is_fraction fun _ _ _ _ _ _ us hl => match us, hl with | [_], _ => rfl), _, fd_is_share, F_is_share, (He.glo_ok X G (c.fact 4 (f := .glo "is_share") rfl)), (FunD.bindsN F_is_share fun _ _ _ _ _ _ us hl => match us, hl with | [_], _ => rfl), _, fd_is_bit, F_is_bit, (He.glo_ok X G (c.fact 5 (f := .glo "is_bit") rfl)), (FunD.bindsN F_is_bit fun _ _ _ _ _ _ us hl => match us, hl with | [_], _ => rfl), _, fd_is_row, F_is_row, (He.glo_ok X G (c.fact 6 (f := .glo "is_row") rfl)), (FunD.bindsN F_is_row fun _ _ _ _ _ _ us hl => match us, hl with | [_], _ => rfl), _, fd_is_table, F_is_table, (He.glo_ok X G (c.fact 7 (f := .glo "is_table") rfl)), (FunD.bindsN F_is_table fun _ _ _ _ _ _ us hl => match us, hl with | [_], _ => rfl), _, fd_is_plain, F_is_plain, (He.glo_ok X G (c.fact 8 (f := .glo "is_plain") rfl)), (FunD.bindsN F_is_plain fun _ _ _ _ _ _ us hl => match us, hl with | [_], _ => rfl), _, fd_is_around, F_is_around, (He.glo_ok X G (c.fact 9 (f := .glo "is_around") rfl)), (FunD.bindsN F_is_around fun _ _ _ _ _ _ us hl => match us, hl with | [_], _ => rfl), _, fd_is_maker, F_is_maker, (He.glo_ok X G (c.fact 10 (f := .glo "is_maker") rfl)), (FunD.bindsN F_is_maker fun _ _ _ _ _ _ us hl => match us, hl with | [_], _ => rfl), _, fd_counter_round, F_counter_round, (He.glo_ok X G (c.fact 11 (f := .glo "counter_round") rfl)), (FunD.bindsN F_counter_round fun _ _ _ _ _ _ us hl => match us, hl with | [_, _, _], _ => rfl), _, fd_last_for_first, F_last_for_first, (He.glo_ok X G (c.fact 12 (f := .glo "last_for_first") rfl)), (FunD.bindsN F_last_for_first fun _ _ _ _ _ _ us hl => match us, hl with | [_, _], _ => rfl), _, fd_size_of, F_size_of, (He.glo_ok X G (c.fact 13 (f := .glo "size_of") rfl)), (FunD.bindsN F_size_of fun _ _ _ _ _ _ us hl => match us, hl with | [_], _ => rfl), _, fd_turned_round, F_turned_round, (He.glo_ok X G (c.fact 14 (f := .glo "turned_round") rfl)), (FunD.bindsN F_turned_round fun _ _ _ _ _ _ us hl => match us, hl with | [_, _], _ => rfl), _, fd_odd_ones, F_odd_ones, (He.glo_ok X G (c.fact 15 (f := .glo "odd_ones") rfl)), (FunD.bindsN F_odd_ones fun _ _ _ _ _ _ us hl => match us, hl with | [_], _ => rfl), _, fd_held_round, F_held_round, (He.glo_ok X G (c.fact 16 (f := .glo "held_round") rfl)), (FunD.bindsN F_held_round fun _ _ _ _ _ _ us hl => match us, hl with | [_, _, _], _ => rfl), _, fd_plain_round, F_plain_round, (He.glo_ok X G (c.fact 17 (f := .glo "plain_round") rfl)), (FunD.bindsN F_plain_round fun _ _ _ _ _ _ us hl => match us, hl with | [_], _ => rfl), _, fd_round_of, F_round_of, (He.glo_ok X G (c.fact 18 (f := .glo "round_of") rfl)), (FunD.bindsN F_round_of fun _ _ _ _ _ _ us hl => match us, hl with | [_], _ => rfl), _, fd_is_part, F_is_part, (He.glo_ok X G (c.fact 19 (f := .glo "is_part") rfl)), (FunD.bindsN F_is_part fun _ _ _ _ _ _ us hl => match us, hl with | [_], _ => rfl), _, fd_sides_of, F_sides_of, (He.glo_ok X G (c.fact 20 (f := .glo "sides_of") rfl)), (FunD.bindsN F_sides_of fun _ _ _ _ _ _ us hl => match us, hl with | [_], _ => rfl), _, fd_is_formula, F_is_formula, (He.glo_ok X G (c.fact 21 (f := .glo "is_formula") rfl)), (FunD.bindsN F_is_formula fun _ _ _ _ _ _ us hl => match us, hl with | [_], _ => rfl), _, fd_asks_of, F_asks_of, (He.glo_ok X G (c.fact 22 (f := .glo "asks_of") rfl)), (FunD.bindsN F_asks_of fun _ _ _ _ _ _ us hl => match us, hl with | [_], _ => rfl), _, fd_is_ahead, F_is_ahead, (He.glo_ok X G (c.fact 23 (f := .glo "is_ahead") rfl)), (FunD.bindsN F_is_ahead fun _ _ _ _ _ _ us hl => match us, hl with | [_], _ => rfl), _, fd_is_shaped, F_is_shaped, (He.glo_ok X G (c.fact 24 (f := .glo "is_shaped") rfl)), (FunD.bindsN F_is_shaped fun _ _ _ _ _ _ us hl => match us, hl with | [_], _ => rfl), _, fd_is_piece, F_is_piece, (He.glo_ok X G (c.fact 25 (f := .glo "is_piece") rfl)), (FunD.bindsN F_is_piece fun _ _ _ _ _ _ us hl => match us, hl with | [_, _, _], _ => rfl), _, fd_is_machine, F_is_machine, (He.glo_ok X G (c.fact 26 (f := .glo "is_machine") rfl)), (FunD.bindsN F_is_machine fun _ _ _ _ _ _ us hl => match us, hl with | [_], _ => rfl), _, fd__law_box, F__law_box, (He.glo_ok X G (c.fact 27 (f := .glo "_law_box") rfl)), (FunD.bindsN F__law_box fun _ _ _ _ _ _ us hl => match us, hl with | [_, _], _ => rfl), _, fd__law_take, F__law_take, (He.glo_ok X G (c.fact 28 (f := .glo "_law_take") rfl)), (FunD.bindsN F__law_take fun _ _ _ _ _ _ us hl => match us, hl with | [_, _], _ => rfl), _, fd__law_folded, F__law_folded, (He.glo_ok X G (c.fact 29 (f := .glo "_law_folded") rfl)), (FunD.bindsN F__law_folded fun _ _ _ _ _ _ us hl => match us, hl with | [_, _], _ => rfl), _, fd__law_row, F__law_row, (He.glo_ok X G (c.fact 30 (f := .glo "_law_row") rfl)), (FunD.bindsN F__law_row fun _ _ _ _ _ _ us hl => match us, hl with | [_, _], _ => rfl), _, fd__law_long, F__law_long, (He.glo_ok X G (c.fact 31 (f := .glo "_law_long") rfl)), (FunD.bindsN F__law_long fun _ _ _ _ _ _ us hl => match us, hl with | [_], _ => rfl), _, fd__law_divisor, F__law_divisor, (He.glo_ok X G (c.fact 32 (f := .glo "_law_divisor") rfl)), (FunD.bindsN F__law_divisor fun _ _ _ _ _ _ us hl => match us, hl with | [_, _], _ => rfl), _, fd__law_powers, F__law_powers, (He.glo_ok X G (c.fact 33 (f := .glo "_law_powers") rfl)), (FunD.bindsN F__law_powers fun _ _ _ _ _ _ us hl => match us, hl with | [], _ => rfl), _, fd__law_plain, F__law_plain, (He.glo_ok X G (c.fact 34 (f := .glo "_law_plain") rfl)), (FunD.bindsN F__law_plain fun _ _ _ _ _ _ us hl => match us, hl with | [_], _ => rfl), _, fd__law_base, F__law_base, (He.glo_ok X G (c.fact 35 (f := .glo "_law_base") rfl)), (FunD.bindsN F__law_base fun _ _ _ _ _ _ us hl => match us, hl with | [_], _ => rfl), _, fd__law_round, F__law_round, (He.glo_ok X G (c.fact 36 (f := .glo "_law_round") rfl)), (FunD.bindsN F__law_round fun _ _ _ _ _ _ us hl => match us, hl with | [_], _ => rfl), _, fd__law_maker, F__law_maker, (He.glo_ok X G (c.fact 37 (f := .glo "_law_maker") rfl)), (FunD.bindsN F__law_maker fun _ _ _ _ _ _ us hl => match us, hl with | [_, _], _ => rfl), _, fd__law_formula, F__law_formula, (He.glo_ok X G (c.fact 38 (f := .glo "_law_formula") rfl)), (FunD.bindsN F__law_formula fun _ _ _ _ _ _ us hl => match us, hl with | [_, _, _, _], _ => rfl), _, fd__law_any, F__law_any, (He.glo_ok X G (c.fact 39 (f := .glo "_law_any") rfl)), (FunD.bindsN F__law_any fun _ _ _ _ _ _ us hl => match us, hl with | [_], _ => rfl), _, fd__law_piece, F__law_piece, (He.glo_ok X G (c.fact 40 (f := .glo "_law_piece") rfl)), (FunD.bindsN F__law_piece fun _ _ _ _ _ _ us hl => match us, hl with | [_, _], _ => rfl), _, fd__law_told, F__law_told, (He.glo_ok X G (c.fact 41 (f := .glo "_law_told") rfl)), (FunD.bindsN F__law_told fun _ _ _ _ _ _ us hl => match us, hl with | [_], _ => rfl), _, fd__law_is, F__law_is, (He.glo_ok X G (c.fact 42 (f := .glo "_law_is") rfl)), (FunD.bindsN F__law_is fun _ _ _ _ _ _ us hl => match us, hl with | [_, _], _ => rfl), _, fd_law, F_law, (He.glo_ok X G (c.fact 43 (f := .glo "law") rfl)), (FunD.bindsN F_law fun _ _ _ _ _ _ us hl => match us, hl with | [_], _ => rfl), (He.cT K ("is_row", none)).1, (He.cT K ("is_row", none)).2, codeAt, (He.cT K ("is_table", none)).1, (He.cT K ("is_table", none)).2, codeAt, (He.cT K ("is_ahead", none)).1, (He.cT K ("is_ahead", none)).2, codeAt, (He.cT K ("is_piece", none)).1, (He.cT K ("is_piece", none)).2, codeAt, (He.cT K ("is_machine", none)).1, (He.cT K ("is_machine", none)).2, codeAt, _, (He.glo_ok X G (c.fact 59 (f := .glo "SIDES") rfl)), rfl, _, (He.glo_ok X G (c.fact 60 (f := .glo "ASKED") rfl)), rfl, (He.free_ok X G (c.fact 44 (f := .free "abs") rfl)), (He.free_ok X G (c.fact 45 (f := .free "all") rfl)), (He.free_ok X G (c.fact 46 (f := .free "bool") rfl)), (He.free_ok X G (c.fact 47 (f := .free "divmod") rfl)), (He.free_ok X G (c.fact 48 (f := .free "enumerate") rfl)), (He.free_ok X G (c.fact 49 (f := .free "int") rfl)), (He.free_ok X G (c.fact 50 (f := .free "isinstance") rfl)), (He.free_ok X G (c.fact 51 (f := .free "len") rfl)), (He.free_ok X G (c.fact 52 (f := .free "list") rfl)), (He.free_ok X G (c.fact 53 (f := .free "max") rfl)), (He.free_ok X G (c.fact 54 (f := .free "range") rfl)), (He.free_ok X G (c.fact 55 (f := .free "str") rfl)), (He.free_ok X G (c.fact 56 (f := .free "sum") rfl)), (He.free_ok X G (c.fact 57 (f := .free "tuple") rfl)), (He.free_ok X G (c.fact 58 (f := .free "zip") rfl)), (He.int_ok X G (c.fact 61 (f := .int "LONGEST" 4096) rfl)), (He.int_ok X G (c.fact 62 (f := .int "MOST_AROUND" 3) rfl)), (He.int_ok X G (c.fact 63 (f := .int "GREATEST_K" 64) rfl)), (He.int_ok X G (c.fact 64 (f := .int "GREATEST_INPUT" 5) rfl)), (He.int_ok X G (c.fact 65 (f := .int "MOST_PARTS" 24) rfl)), (He.int_ok X G (c.fact 66 (f := .int "DEEPEST" 8) rfl)), (He.int_ok X G (c.fact 67 (f := .int "MOST_PIECES" 24) rfl)), (He.int_ok X G (c.fact 68 (f := .int "MOST_AHEAD" 16) rfl)), (He.int_ok X G (c.fact 69 (f := .int "MOST_HELD" 64) rfl))⟩
  refine ⟨fd_law, htf.map (He.cT K), sp_law T, fun p hp => ?_, fun s v => b s [v] rfl, fun H a ns hl hH hS => ⟨a, ns, rfl, hS, hl, ?_, fun _ => rfl⟩, fun base _ _ TB => ok_law T ?_⟩
  · obtain ⟨q, hq, rfl⟩ := List.mem_map.mp hp
    exact ⟨cc.empty q hq, cc.out q hq, PySem.W.codeHd_of_K X (cc.hd q hq)⟩
  · exact ⟨⟨#[], hH _ (List.mem_map.mpr ⟨_, List.mem_cons_self, rfl⟩), trip0⟩, ⟨#[], hH _ (List.mem_map.mpr ⟨_, (List.mem_cons_of_mem _ List.mem_cons_self), rfl⟩), trip0⟩, ⟨#[], hH _ (List.mem_map.mpr ⟨_, (List.mem_cons_of_mem _ (List.mem_cons_of_mem _ List.mem_cons_self)), rfl⟩), trip0⟩, ⟨#[], hH _ (List.mem_map.mpr ⟨_, (List.mem_cons_of_mem _ (List.mem_cons_of_mem _ (List.mem_cons_of_mem _ List.mem_cons_self))), rfl⟩), trip0⟩, ⟨#[], hH _ (List.mem_map.mpr ⟨_, (List.mem_cons_of_mem _ (List.mem_cons_of_mem _ (List.mem_cons_of_mem _ (List.mem_cons_of_mem _ List.mem_cons_self)))), rfl⟩), trip0⟩, trivial⟩
  · exact ⟨⟨(TB _ (List.mem_map.mpr ⟨_, List.mem_cons_self, rfl⟩)).code, (TB _ (List.mem_map.mpr ⟨_, List.mem_cons_self, rfl⟩)).bm, (TB _ (List.mem_map.mpr ⟨_, List.mem_cons_self, rfl⟩)).gP⟩, ⟨(TB _ (List.mem_map.mpr ⟨_, (List.mem_cons_of_mem _ List.mem_cons_self), rfl⟩)).code, (TB _ (List.mem_map.mpr ⟨_, (List.mem_cons_of_mem _ List.mem_cons_self), rfl⟩)).bm, (TB _ (List.mem_map.mpr ⟨_, (List.mem_cons_of_mem _ List.mem_cons_self), rfl⟩)).gP⟩, ⟨(TB _ (List.mem_map.mpr ⟨_, (List.mem_cons_of_mem _ (List.mem_cons_of_mem _ List.mem_cons_self)), rfl⟩)).code, (TB _ (List.mem_map.mpr ⟨_, (List.mem_cons_of_mem _ (List.mem_cons_of_mem _ List.mem_cons_self)), rfl⟩)).bm, (TB _ (List.mem_map.mpr ⟨_, (List.mem_cons_of_mem _ (List.mem_cons_of_mem _ List.mem_cons_self)), rfl⟩)).gP⟩, ⟨(TB _ (List.mem_map.mpr ⟨_, (List.mem_cons_of_mem _ (List.mem_cons_of_mem _ (List.mem_cons_of_mem _ List.mem_cons_self))), rfl⟩)).code, (TB _ (List.mem_map.mpr ⟨_, (List.mem_cons_of_mem _ (List.mem_cons_of_mem _ (List.mem_cons_of_mem _ List.mem_cons_self))), rfl⟩)).bm, (TB _ (List.mem_map.mpr ⟨_, (List.mem_cons_of_mem _ (List.mem_cons_of_mem _ (List.mem_cons_of_mem _ List.mem_cons_self))), rfl⟩)).gP⟩, ⟨(TB _ (List.mem_map.mpr ⟨_, (List.mem_cons_of_mem _ (List.mem_cons_of_mem _ (List.mem_cons_of_mem _ (List.mem_cons_of_mem _ List.mem_cons_self)))), rfl⟩)).code, (TB _ (List.mem_map.mpr ⟨_, (List.mem_cons_of_mem _ (List.mem_cons_of_mem _ (List.mem_cons_of_mem _ (List.mem_cons_of_mem _ List.mem_cons_self)))), rfl⟩)).bm, (TB _ (List.mem_map.mpr ⟨_, (List.mem_cons_of_mem _ (List.mem_cons_of_mem _ (List.mem_cons_of_mem _ (List.mem_cons_of_mem _ List.mem_cons_self)))), rfl⟩)).gP⟩⟩
end Fq
open PySem PySem.W PySem.Calls PyProof.Rows
set_option maxHeartbeats 0 in
theorem PySem.Challenge.cw_shareones_k77_whole_kinds_apart_holds : PySem.Challenge.rw_shareones_k77_whole_kinds_apart.Holds := by
  w_on; o_law
  refine HandSHeadRun.head_any (r := OpenLaw.row PySem.Challenge.rw_shareones_k77_whole_kinds_apart) (q := view (OpenLaw.row PySem.Challenge.rw_shareones_k77_whole_kinds_apart).prog [60]) (H := Fq.hk) (ob := Fq.ob) (M := 6000) (loose := Fq.loose) (d := HandSHeadRun.topDef (OpenLaw.row PySem.Challenge.rw_shareones_k77_whole_kinds_apart).prog 60) (kwd := []) Fq.ob_eq
    (by kernel_rfl) (fun s => by kernel_rfl) Fq.run (by kernel_rfl) (by kernel_rfl) (by kernel_rfl) (by rfl) (by first | assumption | decide +kernel) (by decide +kernel) ⟨rfl, rfl, rfl, rfl, rfl, by decide +kernel⟩ ?hw ?hc
  case hw => w_witness2
  case hc =>
    refine Fq.walk_ofGT (l := PySem.Challenge.rw_shareones_k77_whole_kinds_apart) (n := 63) (k := 17) (x := "_law_script") rfl (by decide) (by kernel_rfl) ⟨rfl, by decide, by decide⟩ ?F
    intro w mg fa h Y G hmg0
    obtain ⟨K, KX, c⟩ := Y
    have hmg : mg ("law" : PySem.Str) = some (.ref fa) := by
      have e : (HandSHeadRun.topDef (OpenLaw.row PySem.Challenge.rw_shareones_k77_whole_kinds_apart).prog 60).name = ("law" : PySem.Str) := by kernel_rfl
      rw [← e]
      exact hmg0
    obtain ⟨fd, cs, sp, a1, a2, a3, a4⟩ := Fq.facts (l := PySem.Challenge.rw_shareones_k77_whole_kinds_apart) KX G hmg c
    exact ⟨K, fd, cs, sp, KX, a1, a2, a3, a4⟩
