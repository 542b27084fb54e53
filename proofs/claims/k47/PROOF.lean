import PyProof.Rows.All
import Wide.All
import OpenK.AllK
import Wide.FinOn
import KE.KStateDown
import Lean
import HandS.ForMost
import HandS.Wide
import HandS.WideBits
import HandS.IsInst
import HandS.Walk
import HandS.Evl
import HandS.Style
import HandS.NoneIn
import HandS.Defaults
import HandS.Head0
import HandS.Head1
import HandS.Head2
import HandS.HeadEnd
import HandS.HeadHook1
import HandS.HeadHook2
import HandS.AnyAll
import HandS.Comp
import HandS.Conv
import HandS.Deep
import HandS.Dict
import HandS.DictComp
import HandS.EndTab
import HandS.Exc
import HandS.ExcIs
import HandS.ExcOwn
import HandS.Flow
import HandS.GenBody
import HandS.GenList
import HandS.GenOver
import HandS.HeadHook3
import HandS.HeadHook4
import HandS.HeadWalk
import HandS.Iter
import HandS.Keys
import HandS.More
import HandS.Set
import HandS.SetBool
import HandS.SetFor
import HandS.Small
import HandS.SortInts
import HandS.SortKw
import HandS.SortRule
import HandS.Star
import HandS.Strs
import HandS.Style
import HandS.TryOnly
import HandS.TupAny
import HandS.TupLen
import HandS.TupMul
import HandS.Walk
import HandS.WordsDict
import HandS.WordsExc
import HandS.Zip
import KE.DataMinMax
import KE.GoesEnum
import KE.GoesMore
import KE.GoesSet
import KE.GoesZip
import KE.KDictWalk
import KE.KDictZip
import KE.KNest
import KE.KStar
import PyProof.ConsumeS
import PyProof.GenArm
import PyProof.GenComp
import PyProof.GenCompT
import PyProof.GenQ
import PyProof.ReprLen
import PyProof.ReprRoads
import PyProof.Rows.MatchSeqLen
import PyProof.RulesMatch
import PyProof.RulesMatchSeq
import PyProof.TupleOfGen
import PySem.Challenge.RW_shareones_k47_what_is_a_machine
set_option Elab.async false
set_option pp.maxSteps 250
set_option linter.all false
set_option maxRecDepth 100000
set_option maxHeartbeats 4000000
namespace Fq
open PySem PySem.Spec PyProof.Rows L2
/-! a dict of the program's top, texts to numbers -/
def entI (e : DictEntry) : Option (Str × Int) := match e.key, e.val with
  | .str x _, .int i _ => some (x, i)
  | _, _ => none
def dicB (K : PySem.W.Frag) (a : Addr) (kvs : List (Str × Int)) : Bool := match K.lookup a with
  | some ⟨_, _, .dict es _, _⟩ => decide (es.toList.map entI = kvs.map some)
  | _ => false
def dl_SIDES : List (Str × Int) := [("less", 1), ("both", 2), ("either", 2), ("oneof", 2), ("pick", 3)]
def dl_ASKED : List (Str × Int) := [("make", 0), ("less", 1), ("both", 2), ("either", 2), ("oneof", 2), ("pick", 3), ("keep", 2), ("late", 1), ("keeper", 2)]
class DW (K : PySem.W.Frag) (w : World) : Prop where
  k_SIDES : ∃ es n, KDict K w (He.ga K "SIDES") es n
  v_SIDES : dicB K (He.ga K "SIDES") dl_SIDES = true
  k_ASKED : ∃ es n, KDict K w (He.ga K "ASKED") es n
  v_ASKED : dicB K (He.ga K "ASKED") dl_ASKED = true
section
variable {P : Program} {w : World} {K : PySem.W.Frag} {mg : Str → Option Value} {base : Heap} [DW K w]
def topS (i : Nat) : Stmt := PySem.Challenge.pw_shareones_k47_what_is_a_machine.main.body.getD i (.Pass ⟨0, 0, 0, 0⟩)
abbrev FnP (K : PySem.W.Frag) (x : Str) (st : Stmt) (f : Addr) (fd : FuncData) : Prop := FunD K x x (defArgs st) (defBody st) (defScope st) [] [] f fd
abbrev s_is_number : Stmt := topS 1
abbrev N_is_number : List Str := ["thing"]
theorem sc_is_number : FnScope N_is_number ["thing"] (defScope s_is_number) := ⟨rfl, rfl, rfl, by decide +kernel, rfl, by decide +kernel, by decide +kernel⟩
abbrev s_is_within : Stmt := topS 2
abbrev N_is_within : List Str := ["thing", "least", "greatest"]
theorem sc_is_within : FnScope N_is_within ["thing", "least", "greatest"] (defScope s_is_within) := ⟨rfl, rfl, rfl, by decide +kernel, rfl, by decide +kernel, by decide +kernel⟩
abbrev s_common_divisor : Stmt := topS 3
abbrev N_common_divisor : List Str := ["one", "other"]
theorem sc_common_divisor : FnScope N_common_divisor ["one", "other"] (defScope s_common_divisor) := ⟨rfl, rfl, rfl, by decide +kernel, rfl, by decide +kernel, by decide +kernel⟩
abbrev s_is_bit : Stmt := topS 6
abbrev N_is_bit : List Str := ["thing"]
theorem sc_is_bit : FnScope N_is_bit ["thing"] (defScope s_is_bit) := ⟨rfl, rfl, rfl, by decide +kernel, rfl, by decide +kernel, by decide +kernel⟩
abbrev s_is_table : Stmt := topS 9
abbrev N_is_table : List Str := ["thing", "number"]
theorem sc_is_table : FnScope N_is_table ["thing"] (defScope s_is_table) := ⟨rfl, rfl, rfl, by decide +kernel, rfl, by decide +kernel, by decide +kernel⟩
abbrev s_is_plain : Stmt := topS 10
abbrev N_is_plain : List Str := ["thing", "size", "step", "start", "wide", "taps", "numbers"]
theorem sc_is_plain : FnScope N_is_plain ["thing"] (defScope s_is_plain) := ⟨rfl, rfl, rfl, by decide +kernel, rfl, by decide +kernel, by decide +kernel⟩
abbrev s_is_around : Stmt := topS 11
abbrev N_is_around : List Str := ["thing", "word", "many", "inner"]
theorem sc_is_around : FnScope N_is_around ["thing"] (defScope s_is_around) := ⟨rfl, rfl, rfl, by decide +kernel, rfl, by decide +kernel, by decide +kernel⟩
abbrev s_is_maker : Stmt := topS 12
abbrev N_is_maker : List Str := ["thing", "inner", "around"]
theorem sc_is_maker : FnScope N_is_maker ["thing"] (defScope s_is_maker) := ⟨rfl, rfl, rfl, by decide +kernel, rfl, by decide +kernel, by decide +kernel⟩
abbrev s_counter_round : Stmt := topS 13
abbrev N_counter_round : List Str := ["size", "step", "start", "t"]
theorem sc_counter_round : FnScope N_counter_round ["size", "step", "start"] (defScope s_counter_round) := ⟨rfl, rfl, rfl, by decide +kernel, rfl, by decide +kernel, by decide +kernel⟩
abbrev s_last_for_first : Stmt := topS 14
abbrev N_last_for_first : List Str := ["number", "wide", "told", "at"]
theorem sc_last_for_first : FnScope N_last_for_first ["number", "wide"] (defScope s_last_for_first) := ⟨rfl, rfl, rfl, by decide +kernel, rfl, by decide +kernel, by decide +kernel⟩
abbrev s_size_of : Stmt := topS 15
abbrev N_size_of : List Str := ["wide"]
theorem sc_size_of : FnScope N_size_of ["wide"] (defScope s_size_of) := ⟨rfl, rfl, rfl, by decide +kernel, rfl, by decide +kernel, by decide +kernel⟩
abbrev s_turned_round : Stmt := topS 16
abbrev N_turned_round : List Str := ["wide", "start", "size", "t"]
theorem sc_turned_round : FnScope N_turned_round ["wide", "start"] (defScope s_turned_round) := ⟨rfl, rfl, rfl, by decide +kernel, rfl, by decide +kernel, by decide +kernel⟩
abbrev s_odd_ones : Stmt := topS 17
abbrev N_odd_ones : List Str := ["number", "odd"]
theorem sc_odd_ones : FnScope N_odd_ones ["number"] (defScope s_odd_ones) := ⟨rfl, rfl, rfl, by decide +kernel, rfl, by decide +kernel, by decide +kernel⟩
abbrev s_held_round : Stmt := topS 18
abbrev N_held_round : List Str := ["wide", "taps", "start", "size", "told", "held"]
theorem sc_held_round : FnScope N_held_round ["wide", "taps", "start"] (defScope s_held_round) := ⟨rfl, rfl, rfl, by decide +kernel, rfl, by decide +kernel, by decide +kernel⟩
abbrev s_plain_round : Stmt := topS 19
abbrev N_plain_round : List Str := ["maker", "size", "step", "start", "wide", "taps", "numbers"]
theorem sc_plain_round : FnScope N_plain_round ["maker"] (defScope s_plain_round) := ⟨rfl, rfl, rfl, by decide +kernel, rfl, by decide +kernel, by decide +kernel⟩
abbrev s_round_of : Stmt := topS 20
abbrev N_round_of : List Str := ["maker", "many", "inner", "length", "by"]
theorem sc_round_of : FnScope N_round_of ["maker"] (defScope s_round_of) := ⟨rfl, rfl, rfl, by decide +kernel, rfl, by decide +kernel, by decide +kernel⟩
abbrev s_asks_of : Stmt := topS 28
abbrev N_asks_of : List Str := ["piece"]
theorem sc_asks_of : FnScope N_asks_of ["piece"] (defScope s_asks_of) := ⟨rfl, rfl, rfl, by decide +kernel, rfl, by decide +kernel, by decide +kernel⟩
abbrev s_is_ahead : Stmt := topS 29
abbrev N_is_ahead : List Str := ["thing", "bit"]
theorem sc_is_ahead : FnScope N_is_ahead ["thing"] (defScope s_is_ahead) := ⟨rfl, rfl, rfl, by decide +kernel, rfl, by decide +kernel, by decide +kernel⟩
abbrev s_is_shaped : Stmt := topS 30
abbrev N_is_shaped : List Str := ["piece", "maker", "k", "a", "b", "first", "ahead", "most", "at"]
theorem sc_is_shaped : FnScope N_is_shaped ["piece"] (defScope s_is_shaped) := ⟨rfl, rfl, rfl, by decide +kernel, rfl, by decide +kernel, by decide +kernel⟩
abbrev s_is_piece : Stmt := topS 31
abbrev N_is_piece : List Str := ["thing", "number", "many", "greatest", "asked"]
theorem sc_is_piece : FnScope N_is_piece ["thing", "number", "many"] (defScope s_is_piece) := ⟨rfl, rfl, rfl, by decide +kernel, rfl, by decide +kernel, by decide +kernel⟩
abbrev s_is_machine : Stmt := topS 32
abbrev N_is_machine : List Str := ["thing", "number", "piece"]
theorem sc_is_machine : FnScope N_is_machine ["thing"] (defScope s_is_machine) := ⟨rfl, rfl, rfl, by decide +kernel, rfl, by decide +kernel, by decide +kernel⟩
abbrev s__law_box : Stmt := topS 34
abbrev N__law_box : List Str := ["_law_script", "_law_k", "_law_cell"]
theorem sc__law_box : FnScope N__law_box ["_law_script", "_law_k"] (defScope s__law_box) := ⟨rfl, rfl, rfl, by decide +kernel, rfl, by decide +kernel, by decide +kernel⟩
abbrev s__law_take : Stmt := topS 35
abbrev N__law_take : List Str := ["_law_box_here", "_law_many", "_law_found", "_law_once"]
theorem sc__law_take : FnScope N__law_take ["_law_box_here", "_law_many"] (defScope s__law_take) := ⟨rfl, rfl, rfl, by decide +kernel, rfl, by decide +kernel, by decide +kernel⟩
abbrev s__law_folded : Stmt := topS 36
abbrev N__law_folded : List Str := ["_law_script", "_law_many", "_law_cells", "_law_k", "_law_cell"]
theorem sc__law_folded : FnScope N__law_folded ["_law_script", "_law_many"] (defScope s__law_folded) := ⟨rfl, rfl, rfl, by decide +kernel, rfl, by decide +kernel, by decide +kernel⟩
abbrev s__law_alone : Stmt := topS 37
abbrev N__law_alone : List Str := ["_law_one", "_law_other"]
theorem sc__law_alone : FnScope N__law_alone ["_law_one", "_law_other"] (defScope s__law_alone) := ⟨rfl, rfl, rfl, by decide +kernel, rfl, by decide +kernel, by decide +kernel⟩
abbrev s__law_maker : Stmt := topS 38
abbrev N__law_maker : List Str := ["_law_box_here", "_law_deep", "_law_most", "_law_way", "_law_many", "_law_word", "_law_twos", "_law_wides", "_law_wide", "_law_taps", "_law_steps", "_law_k", "_law_step"]
theorem sc__law_maker : FnScope N__law_maker ["_law_box_here", "_law_deep", "_law_most"] (defScope s__law_maker) := ⟨rfl, rfl, rfl, by decide +kernel, rfl, by decide +kernel, by decide +kernel⟩
abbrev s__law_machine : Stmt := topS 39
abbrev N__law_machine : List Str := ["_law_box_here", "_law_many", "_law_most", "_law_loops", "_law_pieces", "_law_bare", "_law_number_here", "_law_way", "_law_top", "_law_a", "_law_b", "_law_c", "_law_some", "_law_size", "_law_high", "_law_maker_here", "_law_turn"]
theorem sc__law_machine : FnScope N__law_machine ["_law_box_here", "_law_many", "_law_most", "_law_loops"] (defScope s__law_machine) := ⟨rfl, rfl, rfl, by decide +kernel, rfl, by decide +kernel, by decide +kernel⟩
abbrev s__law_number : Stmt := topS 40
abbrev N__law_number : List Str := ["_law_thing_here", "_law_least", "_law_most"]
theorem sc__law_number : FnScope N__law_number ["_law_thing_here", "_law_least", "_law_most"] (defScope s__law_number) := ⟨rfl, rfl, rfl, by decide +kernel, rfl, by decide +kernel, by decide +kernel⟩
abbrev s__law_all : Stmt := topS 41
abbrev N__law_all : List Str := ["_law_things", "_law_least", "_law_most", "_law_thing_here"]
theorem sc__law_all : FnScope N__law_all ["_law_things", "_law_least", "_law_most"] (defScope s__law_all) := ⟨rfl, rfl, rfl, by decide +kernel, rfl, by decide +kernel, by decide +kernel⟩
abbrev s__law_is_piece : Stmt := topS 42
abbrev N__law_is_piece : List Str := ["_law_thing_here", "_law_ahead", "_law_many", "_law_sizes"]
theorem sc__law_is_piece : FnScope N__law_is_piece ["_law_thing_here", "_law_ahead", "_law_many"] (defScope s__law_is_piece) := ⟨rfl, rfl, rfl, by decide +kernel, rfl, by decide +kernel, by decide +kernel⟩
abbrev s__law_due : Stmt := topS 43
abbrev N__law_due : List Str := ["_law_thing_here", "_law_ahead", "_law_piece"]
theorem sc__law_due : FnScope N__law_due ["_law_thing_here"] (defScope s__law_due) := ⟨rfl, rfl, rfl, by decide +kernel, rfl, by decide +kernel, by decide +kernel⟩
abbrev s__law_thing : Stmt := topS 44
abbrev N__law_thing : List Str := ["_law_box_here", "_law_part", "_law_way", "_law_few", "_law_bounds", "_law_words"]
theorem sc__law_thing : FnScope N__law_thing ["_law_box_here", "_law_part"] (defScope s__law_thing) := ⟨rfl, rfl, rfl, by decide +kernel, rfl, by decide +kernel, by decide +kernel⟩
abbrev s__law_spoilt : Stmt := topS 45
abbrev N__law_spoilt : List Str := ["_law_box_here", "_law_thing_here", "_law_way", "_law_at", "_law_deep", "_law_other", "_law_low", "_law_high"]
theorem sc__law_spoilt : FnScope N__law_spoilt ["_law_box_here", "_law_thing_here"] (defScope s__law_spoilt) := ⟨rfl, rfl, rfl, by decide +kernel, rfl, by decide +kernel, by decide +kernel⟩
abbrev s__law_right : Stmt := topS 46
abbrev N__law_right : List Str := ["_law_thing_here", "_law_turn", "_law_found"]
theorem sc__law_right : FnScope N__law_right ["_law_thing_here"] (defScope s__law_right) := ⟨rfl, rfl, rfl, by decide +kernel, rfl, by decide +kernel, by decide +kernel⟩
abbrev s_law : Stmt := topS 47
abbrev N_law : List Str := ["_law_script", "_law_cells", "_law_k", "_law_box_here", "_law_pieces", "_law_turn", "_law_thing_here"]
theorem sc_law : FnScope N_law ["_law_script"] (defScope s_law) := ⟨rfl, rfl, rfl, by decide +kernel, rfl, by decide +kernel, by decide +kernel⟩
/-- the code object of the def at f is the one at c -/
def CodeAt (K : PySem.W.Frag) (f c : Addr) : Prop := ∀ (oc : Value) (od : Option Addr) (fd : FuncData) (osl : Array (Option Value)), K.lookup f = some ⟨oc, od, .func fd, osl⟩ → ∀ b, fd.code = .ref b → b = c
theorem okC {P : Program} {w : World} {K : PySem.W.Frag} {mg : Str → Option Value} {base : Heap} {x : Str} {st : Stmt} {f c : Addr} {fd : FuncData} {N ps : List Str} {k : Nat} {sp : Sp} (F : FnP K x st f fd) (hc : CodeAt K f c) (S : FnScope N ps (defScope st)) (len : ∀ vs H Q E, sp vs H Q E → vs.length = ps.length)
    (hb : ∀ (A : Around) (outer : List Env) (s : Shared) (H : Hp) (vs : List V) (Q : VK) (E : XK), Room k (A.deeper (envOfC x (defScope st) s.heap.objs.size f (.ref c))) → sp vs H Q E →
      ∃ t, PSs (cxOf CX0 P w K mg base N x (defScope st) f (.ref c) A outer s H E) (defBody st) t ∧ t { nx := fun _ H' => Q .non H', rt := Q } (L2.start N vs) H) : FnOk P w K mg base CX0 (k + 1) f fd ps sp := by
  obtain ⟨oc, od, dV, kV, doc, pm, an, cdv, ct, osl, rfl, lk, hcd, _, _⟩ := F.ex
  obtain ⟨b, rfl⟩ := He.codeIn_ref hcd
  have e := hc oc od _ osl lk b rfl
  subst e
  exact fn_of lk hcd S len hb
theorem pe_globI {X : Cx} {x : Str} {i : Int} {pos : Pos} (hg : Gl X x) (hm : ∃ t, X.mg x = some (.int i t)) (hd : (x == ("__debug__" : Str)) = false := by decide) : PE X (.Name x pos) (tC (.int i)) := by
  obtain ⟨t, h⟩ := hm
  exact pe_glob hg h ⟨_, rfl⟩ hd
structure Defs (K : PySem.W.Frag) (mg : Str → Option Value) where
  f_is_number : Addr
  fd_is_number : FuncData
  F_is_number : FnP K "is_number" s_is_number f_is_number fd_is_number
  g_is_number : mg "is_number" = some (.ref f_is_number)
  b_is_number : Binds K fd_is_number ["thing"] []
  f_is_within : Addr
  fd_is_within : FuncData
  F_is_within : FnP K "is_within" s_is_within f_is_within fd_is_within
  g_is_within : mg "is_within" = some (.ref f_is_within)
  b_is_within : Binds K fd_is_within ["thing", "least", "greatest"] []
  f_common_divisor : Addr
  fd_common_divisor : FuncData
  F_common_divisor : FnP K "common_divisor" s_common_divisor f_common_divisor fd_common_divisor
  g_common_divisor : mg "common_divisor" = some (.ref f_common_divisor)
  b_common_divisor : Binds K fd_common_divisor ["one", "other"] []
  f_is_bit : Addr
  fd_is_bit : FuncData
  F_is_bit : FnP K "is_bit" s_is_bit f_is_bit fd_is_bit
  g_is_bit : mg "is_bit" = some (.ref f_is_bit)
  b_is_bit : Binds K fd_is_bit ["thing"] []
  f_is_table : Addr
  fd_is_table : FuncData
  F_is_table : FnP K "is_table" s_is_table f_is_table fd_is_table
  g_is_table : mg "is_table" = some (.ref f_is_table)
  b_is_table : Binds K fd_is_table ["thing"] []
  f_is_plain : Addr
  fd_is_plain : FuncData
  F_is_plain : FnP K "is_plain" s_is_plain f_is_plain fd_is_plain
  g_is_plain : mg "is_plain" = some (.ref f_is_plain)
  b_is_plain : Binds K fd_is_plain ["thing"] []
  f_is_around : Addr
  fd_is_around : FuncData
  F_is_around : FnP K "is_around" s_is_around f_is_around fd_is_around
  g_is_around : mg "is_around" = some (.ref f_is_around)
  b_is_around : Binds K fd_is_around ["thing"] []
  f_is_maker : Addr
  fd_is_maker : FuncData
  F_is_maker : FnP K "is_maker" s_is_maker f_is_maker fd_is_maker
  g_is_maker : mg "is_maker" = some (.ref f_is_maker)
  b_is_maker : Binds K fd_is_maker ["thing"] []
  f_counter_round : Addr
  fd_counter_round : FuncData
  F_counter_round : FnP K "counter_round" s_counter_round f_counter_round fd_counter_round
  g_counter_round : mg "counter_round" = some (.ref f_counter_round)
  b_counter_round : Binds K fd_counter_round ["size", "step", "start"] []
  f_last_for_first : Addr
  fd_last_for_first : FuncData
  F_last_for_first : FnP K "last_for_first" s_last_for_first f_last_for_first fd_last_for_first
  g_last_for_first : mg "last_for_first" = some (.ref f_last_for_first)
  b_last_for_first : Binds K fd_last_for_first ["number", "wide"] []
  f_size_of : Addr
  fd_size_of : FuncData
  F_size_of : FnP K "size_of" s_size_of f_size_of fd_size_of
  g_size_of : mg "size_of" = some (.ref f_size_of)
  b_size_of : Binds K fd_size_of ["wide"] []
  f_turned_round : Addr
  fd_turned_round : FuncData
  F_turned_round : FnP K "turned_round" s_turned_round f_turned_round fd_turned_round
  g_turned_round : mg "turned_round" = some (.ref f_turned_round)
  b_turned_round : Binds K fd_turned_round ["wide", "start"] []
  f_odd_ones : Addr
  fd_odd_ones : FuncData
  F_odd_ones : FnP K "odd_ones" s_odd_ones f_odd_ones fd_odd_ones
  g_odd_ones : mg "odd_ones" = some (.ref f_odd_ones)
  b_odd_ones : Binds K fd_odd_ones ["number"] []
  f_held_round : Addr
  fd_held_round : FuncData
  F_held_round : FnP K "held_round" s_held_round f_held_round fd_held_round
  g_held_round : mg "held_round" = some (.ref f_held_round)
  b_held_round : Binds K fd_held_round ["wide", "taps", "start"] []
  f_plain_round : Addr
  fd_plain_round : FuncData
  F_plain_round : FnP K "plain_round" s_plain_round f_plain_round fd_plain_round
  g_plain_round : mg "plain_round" = some (.ref f_plain_round)
  b_plain_round : Binds K fd_plain_round ["maker"] []
  f_round_of : Addr
  fd_round_of : FuncData
  F_round_of : FnP K "round_of" s_round_of f_round_of fd_round_of
  g_round_of : mg "round_of" = some (.ref f_round_of)
  b_round_of : Binds K fd_round_of ["maker"] []
  f_asks_of : Addr
  fd_asks_of : FuncData
  F_asks_of : FnP K "asks_of" s_asks_of f_asks_of fd_asks_of
  g_asks_of : mg "asks_of" = some (.ref f_asks_of)
  b_asks_of : Binds K fd_asks_of ["piece"] []
  f_is_ahead : Addr
  fd_is_ahead : FuncData
  F_is_ahead : FnP K "is_ahead" s_is_ahead f_is_ahead fd_is_ahead
  g_is_ahead : mg "is_ahead" = some (.ref f_is_ahead)
  b_is_ahead : Binds K fd_is_ahead ["thing"] []
  f_is_shaped : Addr
  fd_is_shaped : FuncData
  F_is_shaped : FnP K "is_shaped" s_is_shaped f_is_shaped fd_is_shaped
  g_is_shaped : mg "is_shaped" = some (.ref f_is_shaped)
  b_is_shaped : Binds K fd_is_shaped ["piece"] []
  f_is_piece : Addr
  fd_is_piece : FuncData
  F_is_piece : FnP K "is_piece" s_is_piece f_is_piece fd_is_piece
  g_is_piece : mg "is_piece" = some (.ref f_is_piece)
  b_is_piece : Binds K fd_is_piece ["thing", "number", "many"] []
  f_is_machine : Addr
  fd_is_machine : FuncData
  F_is_machine : FnP K "is_machine" s_is_machine f_is_machine fd_is_machine
  g_is_machine : mg "is_machine" = some (.ref f_is_machine)
  b_is_machine : Binds K fd_is_machine ["thing"] []
  f__law_box : Addr
  fd__law_box : FuncData
  F__law_box : FnP K "_law_box" s__law_box f__law_box fd__law_box
  g__law_box : mg "_law_box" = some (.ref f__law_box)
  b__law_box : Binds K fd__law_box ["_law_script", "_law_k"] []
  f__law_take : Addr
  fd__law_take : FuncData
  F__law_take : FnP K "_law_take" s__law_take f__law_take fd__law_take
  g__law_take : mg "_law_take" = some (.ref f__law_take)
  b__law_take : Binds K fd__law_take ["_law_box_here", "_law_many"] []
  f__law_folded : Addr
  fd__law_folded : FuncData
  F__law_folded : FnP K "_law_folded" s__law_folded f__law_folded fd__law_folded
  g__law_folded : mg "_law_folded" = some (.ref f__law_folded)
  b__law_folded : Binds K fd__law_folded ["_law_script", "_law_many"] []
  f__law_alone : Addr
  fd__law_alone : FuncData
  F__law_alone : FnP K "_law_alone" s__law_alone f__law_alone fd__law_alone
  g__law_alone : mg "_law_alone" = some (.ref f__law_alone)
  b__law_alone : Binds K fd__law_alone ["_law_one", "_law_other"] []
  f__law_maker : Addr
  fd__law_maker : FuncData
  F__law_maker : FnP K "_law_maker" s__law_maker f__law_maker fd__law_maker
  g__law_maker : mg "_law_maker" = some (.ref f__law_maker)
  b__law_maker : Binds K fd__law_maker ["_law_box_here", "_law_deep", "_law_most"] []
  f__law_machine : Addr
  fd__law_machine : FuncData
  F__law_machine : FnP K "_law_machine" s__law_machine f__law_machine fd__law_machine
  g__law_machine : mg "_law_machine" = some (.ref f__law_machine)
  b__law_machine : Binds K fd__law_machine ["_law_box_here", "_law_many", "_law_most", "_law_loops"] []
  f__law_number : Addr
  fd__law_number : FuncData
  F__law_number : FnP K "_law_number" s__law_number f__law_number fd__law_number
  g__law_number : mg "_law_number" = some (.ref f__law_number)
  b__law_number : Binds K fd__law_number ["_law_thing_here", "_law_least", "_law_most"] []
  f__law_all : Addr
  fd__law_all : FuncData
  F__law_all : FnP K "_law_all" s__law_all f__law_all fd__law_all
  g__law_all : mg "_law_all" = some (.ref f__law_all)
  b__law_all : Binds K fd__law_all ["_law_things", "_law_least", "_law_most"] []
  f__law_is_piece : Addr
  fd__law_is_piece : FuncData
  F__law_is_piece : FnP K "_law_is_piece" s__law_is_piece f__law_is_piece fd__law_is_piece
  g__law_is_piece : mg "_law_is_piece" = some (.ref f__law_is_piece)
  b__law_is_piece : Binds K fd__law_is_piece ["_law_thing_here", "_law_ahead", "_law_many"] []
  f__law_due : Addr
  fd__law_due : FuncData
  F__law_due : FnP K "_law_due" s__law_due f__law_due fd__law_due
  g__law_due : mg "_law_due" = some (.ref f__law_due)
  b__law_due : Binds K fd__law_due ["_law_thing_here"] []
  f__law_thing : Addr
  fd__law_thing : FuncData
  F__law_thing : FnP K "_law_thing" s__law_thing f__law_thing fd__law_thing
  g__law_thing : mg "_law_thing" = some (.ref f__law_thing)
  b__law_thing : Binds K fd__law_thing ["_law_box_here", "_law_part"] []
  f__law_spoilt : Addr
  fd__law_spoilt : FuncData
  F__law_spoilt : FnP K "_law_spoilt" s__law_spoilt f__law_spoilt fd__law_spoilt
  g__law_spoilt : mg "_law_spoilt" = some (.ref f__law_spoilt)
  b__law_spoilt : Binds K fd__law_spoilt ["_law_box_here", "_law_thing_here"] []
  f__law_right : Addr
  fd__law_right : FuncData
  F__law_right : FnP K "_law_right" s__law_right f__law_right fd__law_right
  g__law_right : mg "_law_right" = some (.ref f__law_right)
  b__law_right : Binds K fd__law_right ["_law_thing_here"] []
  f_law : Addr
  fd_law : FuncData
  F_law : FnP K "law" s_law f_law fd_law
  g_law : mg "law" = some (.ref f_law)
  b_law : Binds K fd_law ["_law_script"] []
  c_is_table : Addr
  P_is_table : Addr
  k_is_table : CodeAt K f_is_table c_is_table
  c_is_ahead : Addr
  P_is_ahead : Addr
  k_is_ahead : CodeAt K f_is_ahead c_is_ahead
  c_is_piece : Addr
  P_is_piece : Addr
  k_is_piece : CodeAt K f_is_piece c_is_piece
  c_is_machine : Addr
  P_is_machine : Addr
  k_is_machine : CodeAt K f_is_machine c_is_machine
  C_SIDES : Addr
  g_SIDES : mg "SIDES" = some (.ref C_SIDES)
  e_SIDES : C_SIDES = He.ga K "SIDES"
  C_ASKED : Addr
  g_ASKED : mg "ASKED" = some (.ref C_ASKED)
  e_ASKED : C_ASKED = He.ga K "ASKED"
  m_abs : mg "abs" = none
  m_all : mg "all" = none
  m_bool : mg "bool" = none
  m_divmod : mg "divmod" = none
  m_enumerate : mg "enumerate" = none
  m_int : mg "int" = none
  m_isinstance : mg "isinstance" = none
  m_len : mg "len" = none
  m_list : mg "list" = none
  m_max : mg "max" = none
  m_min : mg "min" = none
  m_range : mg "range" = none
  m_str : mg "str" = none
  m_tuple : mg "tuple" = none
  i_LONGEST : ∃ t, mg "LONGEST" = some (.int 4096 t)
  i_MOST_AROUND : ∃ t, mg "MOST_AROUND" = some (.int 3 t)
  i_GREATEST_K : ∃ t, mg "GREATEST_K" = some (.int 64 t)
  i_MOST_PIECES : ∃ t, mg "MOST_PIECES" = some (.int 24 t)
  i_MOST_AHEAD : ∃ t, mg "MOST_AHEAD" = some (.int 16 t)
  i_MOST_HELD : ∃ t, mg "MOST_HELD" = some (.int 64 t)
structure Tabs {K : PySem.W.Frag} {mg : Str → Option Value} (T : Defs K mg) (base : Heap) : Prop where
  t_is_table : GxR.TabB base mg T.c_is_table T.P_is_table
  t_is_ahead : GxR.TabB base mg T.c_is_ahead T.P_is_ahead
  t_is_piece : GxR.TabB base mg T.c_is_piece T.P_is_piece
  t_is_machine : GxR.TabB base mg T.c_is_machine T.P_is_machine
theorem bt_abs : bootBuiltins "abs" = some (.builtin "abs") := by decide +kernel
theorem bt_all : bootBuiltins "all" = some (.builtin "all") := by decide +kernel
theorem bt_bool : bootBuiltins "bool" = some (.type "bool") := by decide +kernel
theorem bt_divmod : bootBuiltins "divmod" = some (.builtin "divmod") := by decide +kernel
theorem bt_enumerate : bootBuiltins "enumerate" = some (.type "enumerate") := by decide +kernel
theorem bt_int : bootBuiltins "int" = some (.type "int") := by decide +kernel
theorem bt_isinstance : bootBuiltins "isinstance" = some (.builtin "isinstance") := by decide +kernel
theorem bt_len : bootBuiltins "len" = some (.builtin "len") := by decide +kernel
theorem bt_list : bootBuiltins "list" = some (.type "list") := by decide +kernel
theorem bt_max : bootBuiltins "max" = some (.builtin "max") := by decide +kernel
theorem bt_min : bootBuiltins "min" = some (.builtin "min") := by decide +kernel
theorem bt_range : bootBuiltins "range" = some (.type "range") := by decide +kernel
theorem bt_str : bootBuiltins "str" = some (.type "str") := by decide +kernel
theorem bt_tuple : bootBuiltins "tuple" = some (.type "tuple") := by decide +kernel
def frT (t b : Int) : Int := (b.sign * t) / (Int.gcd t b : Int)
def frB (t b : Int) : Int := (b.natAbs : Int) / (Int.gcd t b : Int)
theorem fr_ex (t : Int) {b : Int} (hb : b ≠ 0) : ∃ (g : Nat) (x y : Int), 0 < g ∧ Int.gcd t b = g ∧ t = (g : Int) * x ∧ b = (g : Int) * y ∧ y ≠ 0 ∧ Int.gcd x y = 1 := by
  have hg : 0 < Int.gcd t b := Int.gcd_pos_of_ne_zero_right t hb
  obtain ⟨x, hx⟩ := Int.gcd_dvd_left t b
  obtain ⟨y, hy⟩ := Int.gcd_dvd_right t b
  refine ⟨Int.gcd t b, x, y, hg, rfl, hx, hy, fun e => hb (by rw [hy, e, Int.mul_zero]), ?_⟩
  generalize eg : Int.gcd t b = g at hg hx hy
  have e : g = g * Int.gcd x y := by
    rw [← eg]
    conv => lhs; rw [hx, hy, Int.gcd_mul_left]
    rw [Int.natAbs_natCast, eg]
  exact Nat.eq_of_mul_eq_mul_left hg (by rw [← e, Nat.mul_one])
theorem sgn {b : Int} {g : Nat} {y : Int} (hg : 0 < g) (hb : b = (g : Int) * y) : b.sign = y.sign := by
  rw [hb, Int.sign_mul, Int.sign_eq_one_of_pos (by omega), Int.one_mul]
theorem fr_vals {t b : Int} {g : Nat} {x y : Int} (hg : 0 < g) (eg : Int.gcd t b = g) (ht : t = (g : Int) * x) (hb : b = (g : Int) * y) : frT t b = y.sign * x ∧ frB t b = (y.natAbs : Int) := by
  have g0 : (g : Int) ≠ 0 := by omega
  constructor
  · unfold frT
    rw [eg, sgn hg hb, ht, show y.sign * ((g : Int) * x) = (g : Int) * (y.sign * x) by rw [Int.mul_left_comm]]
    exact Int.mul_ediv_cancel_left _ g0
  · unfold frB
    rw [eg, hb, Int.natAbs_mul, Int.natAbs_natCast, Int.natCast_mul]
    exact Int.mul_ediv_cancel_left _ g0
theorem sgn_abs {y : Int} (hy : y ≠ 0) : y.sign.natAbs = 1 := Int.natAbs_sign_of_ne_zero hy
theorem fr_pos (t : Int) {b : Int} (hb : b ≠ 0) : 0 < frB t b := by
  obtain ⟨g, x, y, hg, eg, ht, hy, hy0, h1⟩ := fr_ex t hb
  rw [(fr_vals hg eg ht hy).2]
  omega
theorem fr_gcd (t : Int) {b : Int} (hb : b ≠ 0) : Int.gcd (frT t b) (frB t b) = 1 := by
  obtain ⟨g, x, y, hg, eg, ht, hy, hy0, h1⟩ := fr_ex t hb
  rw [(fr_vals hg eg ht hy).1, (fr_vals hg eg ht hy).2]
  show Nat.gcd (y.sign * x).natAbs ((y.natAbs : Int)).natAbs = 1
  rw [Int.natAbs_mul, sgn_abs hy0, Nat.one_mul, Int.natAbs_natCast]
  exact h1
theorem fr_eq (t : Int) {b : Int} (hb : b ≠ 0) : frT t b * b = t * frB t b := by
  obtain ⟨g, x, y, hg, eg, ht, hy, hy0, h1⟩ := fr_ex t hb
  rw [(fr_vals hg eg ht hy).1, (fr_vals hg eg ht hy).2]
  rw [ht, hy]
  have e : y * y.sign = (y.natAbs : Int) := Int.mul_sign_self y
  rw [← e]
  simp only [Int.mul_comm, Int.mul_left_comm, Int.mul_assoc]
theorem fr_absT (t : Int) {b : Int} (hb : b ≠ 0) : (frT t b).natAbs ≤ t.natAbs := by
  obtain ⟨g, x, y, hg, eg, ht, hy, hy0, h1⟩ := fr_ex t hb
  rw [(fr_vals hg eg ht hy).1, ht, Int.natAbs_mul, sgn_abs hy0, Nat.one_mul, Int.natAbs_mul, Int.natAbs_natCast]
  exact Nat.le_mul_of_pos_left _ hg
theorem fr_absB (t : Int) {b : Int} (hb : b ≠ 0) : (frB t b).natAbs ≤ b.natAbs := by
  obtain ⟨g, x, y, hg, eg, ht, hy, hy0, h1⟩ := fr_ex t hb
  rw [(fr_vals hg eg ht hy).2, hy, Int.natAbs_mul, Int.natAbs_natCast, Int.natAbs_natCast]
  exact Nat.le_mul_of_pos_left _ hg
theorem fr_negT (t b : Int) : frT (-t) (-b) = frT t b := by
  unfold frT
  rw [Int.sign_neg, Int.neg_mul_neg, Int.gcd_neg, Int.neg_gcd]
theorem fr_negB (t b : Int) : frB (-t) (-b) = frB t b := by
  unfold frB
  rw [Int.natAbs_neg, Int.gcd_neg, Int.neg_gcd]
/-- what the program's two ways reckon -/
theorem fd_pos {g : Nat} {x : Int} (hg : 0 < g) : ((g : Int) * x).fdiv (g : Int) = x := by
  rw [Int.fdiv_eq_ediv_of_nonneg _ (by omega)]
  exact Int.mul_ediv_cancel_left _ (by omega)
theorem fd_neg {g : Nat} {x : Int} (hg : 0 < g) : ((g : Int) * x).fdiv (-(g : Int)) = -x := by
  rw [show (g : Int) * x = -(g : Int) * (-x) by rw [Int.neg_mul_neg]]
  exact Int.mul_fdiv_cancel_left _ (by omega)
theorem fr_lt (t : Int) {b : Int} (hb : b < 0) : t.fdiv (-(Int.gcd t b : Int)) = frT t b ∧ b.fdiv (-(Int.gcd t b : Int)) = frB t b := by
  obtain ⟨g, x, y, hg, eg, ht, hy, hy0, h1⟩ := fr_ex t (show b ≠ 0 by omega)
  rw [(fr_vals hg eg ht hy).1, (fr_vals hg eg ht hy).2, eg]
  have yn : y < 0 := by
    rw [hy] at hb
    exact Int.neg_of_mul_neg_right hb (by omega)
  constructor
  · conv => lhs; rw [ht]
    rw [fd_neg hg, Int.sign_eq_neg_one_of_neg yn]
    omega
  · conv => lhs; rw [hy]
    rw [fd_neg hg]
    omega
theorem fr_ge (t : Int) {b : Int} (hb : 0 < b) : t.fdiv (Int.gcd t b : Int) = frT t b ∧ b.fdiv (Int.gcd t b : Int) = frB t b := by
  obtain ⟨g, x, y, hg, eg, ht, hy, hy0, h1⟩ := fr_ex t (show b ≠ 0 by omega)
  rw [(fr_vals hg eg ht hy).1, (fr_vals hg eg ht hy).2, eg]
  have yn : 0 < y := by
    rw [hy] at hb
    exact Int.pos_of_mul_pos_right hb (by omega)
  constructor
  · conv => lhs; rw [ht]
    rw [fd_pos hg, Int.sign_eq_one_of_pos yn]
    omega
  · conv => lhs; rw [hy]
    rw [fd_pos hg]
    omega
/-! sizes -/
def S (n : Nat) (x : Int) : Prop := x.natAbs < 2 ^ n
theorem S.mono {n m : Nat} {x : Int} (h : S n x) (l : n ≤ m) : S m x := Nat.lt_of_lt_of_le h (Nat.pow_le_pow_right (by decide) l)
theorem S.mul {n m : Nat} {x y : Int} (h : S n x) (k : S m y) : S (n + m) (x * y) := by
  unfold S at *
  rw [Int.natAbs_mul, Nat.pow_add]
  exact Nat.mul_lt_mul'' h k
theorem S.add {n : Nat} {x y : Int} (h : S n x) (k : S n y) : S (n + 1) (x + y) := by
  unfold S at *
  rw [Nat.pow_succ]
  omega
theorem S.sub {n : Nat} {x y : Int} (h : S n x) (k : S n y) : S (n + 1) (x - y) := by
  unfold S at *
  rw [Nat.pow_succ]
  omega
theorem S.frT {n : Nat} {t b : Int} (h : S n t) (hb : b ≠ 0) : S n (frT t b) := Nat.lt_of_le_of_lt (fr_absT t hb) h
theorem S.frB {n : Nat} {t b : Int} (h : S n b) (hb : b ≠ 0) : S n (frB t b) := Nat.lt_of_le_of_lt (fr_absB t hb) h
theorem abs_eq (i : Int) : (if i < 0 then -i else i) = (i.natAbs : Int) := by
  split <;> omega
/-! the same rules with the written part by its name: for the inside of comprehensions -/
theorem pg_tupK {X : Cx} {K : PySem.W.Frag} {es : List Expr} {k n : Nat} {pos : Pos} {t : TGs} (h : X.K = K) (hc : X.calm = true) (hg : PGs X es t) (hn : (assignEach es X.env).length = n := by rfl) (hst : (assignEach es X.env).findIdx? (·.1) = none := by rfl) : PG X (.Tuple es k pos) (gTup K n t) := by
  subst h
  exact pg_tup hc hg hn hst
theorem isiK {X : Cx} {K : PySem.W.Frag} (h : X.K = K) : CallR X (.builtin "isinstance") (rIsi K) := by
  subst h
  exact call_isi
theorem ixlK {X : Cx} {K : PySem.W.Frag} (h : X.K = K) : IxR X (rIxL K) := by
  subst h
  exact ix_list
theorem ixtK {X : Cx} {K : PySem.W.Frag} (h : X.K = K) : IxR X (rIxT K) := by
  subst h
  exact ix_tup
theorem lenK {X : Cx} {K : PySem.W.Frag} (h : X.K = K) : CallR X (.builtin "len") (fun xs H Q => ∃ p ys, xs = [.ref p] ∧ (SqL K H p ys ∨ SqT K H p ys) ∧ Q (.int ys.length) H) := by
  subst h
  exact call_len_seq
theorem sumK {X : Cx} {K : PySem.W.Frag} (h : X.K = K) (hc : X.calm = true) : CallR X (.builtin "sum") (rSum K) := by
  subst h
  exact cr_sum hc
theorem yes_ite {σ : L2.St} {H : Hp} {A B : Hp → Prop} (h : A H) : tYes σ H (fun b H3 => if b = true then A H3 else B H3) := by
  show if true = true then A H else B H
  rw [if_pos rfl]
  exact h
/-! heaps -/
theorem same_upd {H : Hp} {p : Addr} {o : HO} (h : H p = none) : Same H (upd H p o) := fun b x e => by
  rw [upd_ne (ne_of_none e h)]
  exact e
def But (p : Addr) (H H' : Hp) : Prop := ∀ b o, b ≠ p → H b = some o → H' b = some o
theorem But.trans {p : Addr} {H H1 H2 : Hp} (a : But p H H1) (b : But p H1 H2) : But p H H2 := fun c o n e => b c o n (a c o n e)
theorem But.refl (p : Addr) (H : Hp) : But p H H := fun _ _ _ e => e
theorem But.put {p : Addr} {H H' : Hp} {o : HO} (a : But p H H') : But p H (L2.upd H' p o) := fun c x n e => by
  rw [upd_ne n]
  exact a c x n e
theorem same_but {p : Addr} {H H' : Hp} (a : Same H H') : But p H H' := fun c x _ e => a c x e
theorem But.new {p q : Addr} {H H' : Hp} {o : HO} (a : But p H H') (n : H' q = none) : But p H (upd H' q o) := fun c x hn e => by
  have e2 := a c x hn e
  rw [upd_ne (ne_of_none e2 n)]
  exact e2
/-- objects made since H may change: what H has stays -/
theorem same_newer {H H' : Hp} {q : Addr} {o : HO} (a : Same H H') (n : H q = none) : Same H (upd H' q o) := fun c x e => by
  rw [upd_ne (ne_of_none e n)]
  exact a c x e
theorem But.same {p : Addr} {H H1 H2 : Hp} (n : H p = none) (a : Same H H1) (b : But p H1 H2) : Same H H2 := fun c x e =>
  b c x (ne_of_none e n) (a c x e)
/-- the box: a rest, a begin, how often -/
def Bx (H : Hp) (p : Addr) (n : Nat) : Prop := ∃ a b c : Int, H p = some (.lst [.int a, .int b, .int c]) ∧ 0 ≤ a ∧ 0 ≤ b ∧ b < 2147483647 ∧ 0 ≤ c ∧ c ≤ n
theorem Bx.same {H H' : Hp} {p : Addr} {n : Nat} (h : Bx H p n) (s : Same H H') : Bx H' p n := by
  obtain ⟨a, b, c, hp, r⟩ := h
  exact ⟨a, b, c, s _ _ hp, r⟩
theorem Bx.mono {H : Hp} {p : Addr} {n m : Nat} (h : Bx H p n) (l : n ≤ m) : Bx H p m := by
  obtain ⟨a, b, c, hp, h1, h2, h3, h4, h5⟩ := h
  exact ⟨a, b, c, hp, h1, h2, h3, h4, by omega⟩
theorem Bx.new {H : Hp} {p q : Addr} {n : Nat} {o : HO} (h : Bx H p n) (nq : H q = none) : Bx (L2.upd H q o) p n := h.same (same_upd nq)
theorem Bx.ne_tup {H : Hp} {p q : Addr} {n : Nat} {xs : List V} (h : Bx H p n) (e : H q = some (.tup xs)) : q ≠ p := by
  obtain ⟨a, b, c, hp, _⟩ := h
  exact ne_of e hp (fun z => by cases z)
/-- an item of a menu of numbers -/
theorem at_menu {Pr : Int → Prop} {xs : List Int} {r : Int} (h0 : 0 ≤ r) (h1 : r < xs.length) (hx : ∀ x, x ∈ xs → Pr x) : ∃ v, atI (xs.map V.int) r = some (V.int v) ∧ Pr v := by
  obtain ⟨j, rfl⟩ := Int.eq_ofNat_of_zero_le h0
  have hj : j < xs.length := by omega
  refine ⟨xs[j], atI_nat (by rw [List.getElem?_map, List.getElem?_eq_getElem hj]; rfl), hx _ (List.getElem_mem hj)⟩
theorem SqL.mk {K : PySem.W.Frag} {H : Hp} {a : Addr} {xs : List V} (h : H a = some (.lst xs)) : SqL K H a xs := .inl (.inl h)
theorem SqT.mk {K : PySem.W.Frag} {H : Hp} {a : Addr} {xs : List V} (h : H a = some (.tup xs)) : SqT K H a xs := .inl (.inl h)
theorem same_tup {K : PySem.W.Frag} {H H' : Hp} {a : Addr} {xs : List V} (e : Same H H') (h : SqT K H a xs) : SqT K H' a xs := by
  rcases h with (h | ⟨o, h⟩) | h
  · exact .inl (.inl (e _ _ h))
  · exact .inl (.inr ⟨o, e _ _ h⟩)
  · exact .inr h
theorem ixn {n j : Nat} (hj : j < n) : ixN n (j : Int) = some j := by
  unfold ixN
  rw [if_pos (by omega), if_pos (by omega)]
  simp
theorem cdivP {a m : Int} (h0 : 0 < m) (h1 : m < 2 ^ 60) : CDivP a m := ⟨h0, PyProof.noPylong_of_log2 (wide_div (i := a) (b := 60) h0 (by omega) (by decide) (by decide)).2⟩
theorem i01 {c : Prop} [Decidable c] : -(2 ^ 64) < (if c then (1 : Int) else 0) ∧ (if c then (1 : Int) else 0) < 2 ^ 64 := by
  split <;> decide
theorem i01n {c : Prop} [Decidable c] : 0 ≤ (if c then (1 : Int) else 0) := by
  split <;> decide
theorem absn (i : Int) : 0 ≤ (if i < 0 then -i else i) := by
  split <;> omega
/-! the box of a cell -/
def sp__law_box (K : PySem.W.Frag) : Sp := fun vs H Q _ => ∃ (a : Addr) (ns : List Int) (k : Nat), vs = [.ref a, .int (k : Nat)] ∧ SqL K H a (ns.map V.int) ∧ k < 1000 ∧
  ∀ H' p, Same H H' → H p = none → Bx H' p 0 → Q (.ref p) H'
theorem ok__law_box (T : Defs K mg) (TT : Tabs T base) : FnOk P w K mg base CX0 1 T.f__law_box T.fd__law_box ["_law_script", "_law_k"] (sp__law_box K) := by
  refine T.F__law_box.ok sc__law_box (fun vs H Q E h => ?_) (fun cdv A outer s H vs Q E hr h => ?_)
  · obtain ⟨a, ns, k, rfl, hS, hk, q⟩ := h
    rfl
  · obtain ⟨a, ns, k, rfl, hS, hk, q⟩ := h
    refine ⟨_, PSs.nox (pss_cons (ps_set (i := 2) sc__law_box.nd rfl (.inl rfl) pe_int)
    (pss_cons (ps_if (pt_cmpR op_lt (pv 1) (pe_callB call_len_seq (by rfl) T.m_len bt_len (pa_cons (pv 0) pa_nil)) (nomark _)) (pss_one (ps_set (i := 2) sc__law_box.nd rfl (.inl rfl) (pe_ix ix_list (pv 0) (pv 1) (fun _ _ => rfl)))) pss_nil)
    (pss_one (ps_ret (pe_lst (pa_cons (pe_op op_mul (pe_callB call_abs (by rfl) T.m_abs bt_abs (pa_cons (pv 2) pa_nil)) (pe_callTy call_int1 (by rfl) T.m_int bt_int (pa_cons (pe_cmpR op_ge (pe_callB call_abs (by rfl) T.m_abs bt_abs (pa_cons (pv 2) pa_nil)) (pe_op op_pow pe_int pe_int) (nomark _)) pa_nil))) (pa_cons (pe_op op_mod (pe_op op_add (pv 2) (pe_op op_mul (pe_op op_mul pe_int (pv 1)) (pv 1))) pe_int) (pa_cons pe_int pa_nil)))))))), ?_⟩
    refine ⟨.int k, rfl, .ref a, rfl, a, _, rfl, .inl hS, _, _, rfl, rfl, _, rfl, ite2 (fun e => ?_) (fun e => ?_)⟩
    · have hl : (k : Int) < ((ns.map V.int).length : Nat) := of_decide_eq_true e
      rw [List.length_map] at hl
      have hj : k < ns.length := by omega
      refine ⟨.ref a, rfl, .int k, rfl, a, _, _, .int ns[k], rfl, rfl, hS, atI_nat (by rw [List.getElem?_map, List.getElem?_eq_getElem hj]; rfl), ?_⟩
      refine ⟨_, rfl, _, rfl, _, rfl, _, rfl, _, _, rfl, rfl, ⟨by decide, by decide, by decide⟩, _, _, rfl, rfl, .inr ⟨_, rfl, _, _, rfl, rfl, .inr i01, _, rfl, .int k, rfl, _, _, rfl, rfl, .inl ⟨by decide, by decide⟩, .int k, rfl, _, _, rfl, rfl, .inr ⟨by omega, by omega⟩, _, _, rfl, rfl, _, _, rfl, rfl, (show (0 : Int) < 2147483647 by decide), (show 3 ≤ sizeLine by decide), fun p np => ?_⟩⟩
      refine q _ p (same_upd np) np ⟨_, _, _, upd_same, ?_, Int.emod_nonneg _ (by decide), Int.emod_lt_of_pos _ (by decide), Int.le_refl 0, Int.le_refl 0⟩
      exact Int.mul_nonneg (absn _) i01n
    · refine ⟨_, rfl, _, rfl, _, rfl, _, rfl, _, _, rfl, rfl, ⟨by decide, by decide, by decide⟩, _, _, rfl, rfl, .inr ⟨_, rfl, _, _, rfl, rfl, .inr i01, _, rfl, .int k, rfl, _, _, rfl, rfl, .inl ⟨by decide, by decide⟩, .int k, rfl, _, _, rfl, rfl, .inr ⟨by omega, by omega⟩, _, _, rfl, rfl, _, _, rfl, rfl, (show (0 : Int) < 2147483647 by decide), (show 3 ≤ sizeLine by decide), fun p np => ?_⟩⟩
      refine q _ p (same_upd np) np ⟨_, _, _, upd_same, ?_, Int.emod_nonneg _ (by decide), Int.emod_lt_of_pos _ (by decide), Int.le_refl 0, Int.le_refl 0⟩
      exact Int.mul_nonneg (absn _) i01n
/-! one number taken -/
def sp__law_take (K : PySem.W.Frag) : Sp := fun vs H Q _ => ∃ (p : Addr) (m : Int) (n : Nat), vs = [.ref p, .int m] ∧ Bx H p n ∧ 0 < m ∧ m < 2 ^ 60 ∧ n < 1000000000000 ∧
  ∀ H' r, But p H H' → Bx H' p (n + 1) → 0 ≤ r → r < m → Q (.int r) H'
theorem ok__law_take (T : Defs K mg) (TT : Tabs T base) : FnOk P w K mg base CX0 1 T.f__law_take T.fd__law_take ["_law_box_here", "_law_many"] (sp__law_take K) := by
  refine T.F__law_take.ok sc__law_take (fun vs H Q E h => ?_) (fun cdv A outer s H vs Q E hr h => ?_)
  · obtain ⟨p, m, n, rfl, ⟨a, b, c, hp, ha, hb, hb2, hc, hc2⟩, h0, h1, hn, q⟩ := h
    rfl
  · obtain ⟨p, m, n, rfl, ⟨a, b, c, hp, ha, hb, hb2, hc, hc2⟩, h0, h1, hn, q⟩ := h
    refine ⟨_, PSs.nox (pss_cons (ps_if (pt_cmpR op_gt (pe_ix ix_list (pv 0) pe_int (fun _ _ => rfl)) pe_int (nomark _)) (pss_cons (ps_asg (pe_callB call_divmodW (by rfl) T.m_divmod bt_divmod (pa_cons (pe_ix ix_list (pv 0) pe_int (fun _ _ => rfl)) (pa_cons (pv 1) pa_nil))) (pg_tup rfl (pgs_cons (pg_sub (pv 0) pe_int set_list) (pgs_cons (pg_name (i := 2) sc__law_take.nd rfl (.inl rfl)) pgs_nil))))
    (pss_one (ps_ret (pv 2)))) pss_nil)
    (pss_cons (ps_asg (pe_op op_add (pe_ix ix_list (pv 0) pe_int (fun _ _ => rfl)) pe_int) (pg_sub (pv 0) pe_int set_list))
    (pss_cons (ps_set (i := 3) sc__law_take.nd rfl (.inl rfl) (pe_op op_mod (pe_op op_pow (pe_op op_add (pe_ix ix_list (pv 0) pe_int (fun _ _ => rfl)) (pe_op op_mul pe_int (pe_ix ix_list (pv 0) pe_int (fun _ _ => rfl)))) pe_int) pe_int))
    (pss_one (ps_ret (pe_op op_mod (pe_op op_fdiv (pe_op op_mod (pe_op op_add (pe_op op_mul (pv 3) pe_int) (pe_op op_mul (pe_op op_mul (pe_ix ix_list (pv 0) pe_int (fun _ _ => rfl)) (pe_ix ix_list (pv 0) pe_int (fun _ _ => rfl))) pe_int)) pe_int) pe_int) (pv 1))))))), ?_⟩
    have SQ : SqL K H p [.int a, .int b, .int c] := SqL.mk hp
    refine ⟨.ref p, rfl, p, _, 0, _, rfl, rfl, SQ, atI_nat (j := 0) rfl, _, _, rfl, rfl, _, rfl, ite2 (fun e => ?_) (fun e => ?_)⟩
    · refine ⟨.ref p, rfl, p, _, 0, _, rfl, rfl, SQ, atI_nat (j := 0) rfl, .int m, rfl, a, m, rfl, cdivP h0 h1, fun t nt => ?_⟩
      have hp1 : (upd H t (.tup [.int (a / m), .int (a % m)])) p = some (.lst [.int a, .int b, .int c]) := by
        rw [upd_ne (ne_of_none hp nt)]
        exact hp
      refine ⟨t, _, rfl, SqT.mk upd_same, rfl, _, _, rfl, .ref p, rfl, p, _, 0, 0, rfl, rfl, hp1, rfl, _, _, rfl, rfl, _, rfl, ?_⟩
      refine q _ _ ((But.refl p H).new nt).put ⟨_, _, _, upd_same, Int.ediv_nonneg ha (by omega), hb, hb2, hc, by omega⟩ (Int.emod_nonneg _ (by omega)) (Int.emod_lt_of_pos _ h0)
    · refine ⟨.ref p, rfl, p, _, 2, _, rfl, rfl, SQ, atI_nat (j := 2) rfl, _, _, rfl, rfl, .ref p, rfl, p, _, 2, 2, rfl, rfl, hp, rfl, ?_⟩
      have SQ1 : SqL K (upd H p (.lst [.int a, .int b, .int (c + 1)])) p [.int a, .int b, .int (c + 1)] := SqL.mk upd_same
      refine ⟨.ref p, rfl, p, _, 1, _, rfl, rfl, SQ1, atI_nat (j := 1) rfl, .ref p, rfl, p, _, 2, _, rfl, rfl, SQ1, atI_nat (j := 2) rfl, _, _, rfl, rfl, .inl ⟨by decide, by decide⟩, _, _, rfl, rfl, _, _, rfl, rfl, ⟨by decide, by decide, by omega⟩, _, _, rfl, rfl, (show (0 : Int) < 2147483647 by decide), ?_⟩
      refine ⟨_, rfl, _, _, rfl, rfl, .inr ⟨by decide, by decide⟩, .ref p, rfl, p, _, 2, _, rfl, rfl, SQ1, atI_nat (j := 2) rfl, .ref p, rfl, p, _, 2, _, rfl, rfl, SQ1, atI_nat (j := 2) rfl, _, _, rfl, rfl, .inl ⟨by omega, by omega⟩, _, _, rfl, rfl, .inr ⟨by decide, by decide⟩, _, _, rfl, rfl, _, _, rfl, rfl, (show (0 : Int) < 2147483629 by decide), _, _, rfl, rfl, ⟨by decide, by decide⟩, .int m, rfl, _, _, rfl, rfl, h0, ?_⟩
      refine q _ _ (But.refl p H).put ⟨_, _, _, upd_same, ha, hb, hb2, by omega, by omega⟩ (Int.emod_nonneg _ (by omega)) (Int.emod_lt_of_pos _ h0)
/-! the folded cells -/
theorem cut_take (ns : List Int) (m : Nat) : cutV (ns.map V.int) none (some (m : Int)) = (ns.take m).map V.int := by
  unfold cutV
  rw [HT.sIx_none, HT.sIx_nat, List.drop_zero, List.length_map, Nat.sub_zero, ← List.map_take]
  congr 1
  by_cases h : m ≤ ns.length
  · rw [Nat.min_eq_left h]
  · rw [Nat.min_eq_right (by omega), List.take_length, List.take_of_length_le (by omega)]
theorem cut_rest (ns : List Int) (m k : Nat) : ∃ ms : List Int, cutV (ns.map V.int) (some (m : Int)) (some (k : Int)) = ms.map V.int ∧ (0 < ms.length → m < ns.length) ∧ ms.length ≤ ns.length := by
  unfold cutV
  rw [HT.sIx_nat, HT.sIx_nat, List.length_map]
  refine ⟨(ns.drop (min m ns.length)).take (min k ns.length - min m ns.length), ?_, fun h => ?_, ?_⟩
  · rw [List.map_take, List.map_drop]
  · rw [List.length_take, List.length_drop] at h
    omega
  · rw [List.length_take, List.length_drop]
    omega
def sp__law_folded (K : PySem.W.Frag) : Sp := fun vs H Q _ => ∃ (a : Addr) (ns : List Int) (m : Nat), vs = [.ref a, .int (m : Nat)] ∧ SqL K H a (ns.map V.int) ∧ ns.length ≤ 63 ∧ 0 < m ∧ m < 64 ∧
  ∀ H' p (cs : List Int), Same H H' → H p = none → H' p = some (.lst (cs.map V.int)) → cs.length ≤ m → Q (.ref p) H'
theorem ok__law_folded (T : Defs K mg) (TT : Tabs T base) : FnOk P w K mg base CX0 1 T.f__law_folded T.fd__law_folded ["_law_script", "_law_many"] (sp__law_folded K) := by
  refine T.F__law_folded.ok sc__law_folded (fun vs H Q E h => ?_) (fun cdv A outer s H vs Q E hr h => ?_)
  · obtain ⟨a, ns, m, rfl, hS, hlen, hm, hm2, q⟩ := h
    rfl
  · obtain ⟨a, ns, m, rfl, hS, hlen, hm, hm2, q⟩ := h
    refine ⟨_, PSs.nox (pss_cons (ps_set (i := 2) sc__law_folded.nd rfl (.inl rfl) (pe_callTy call_list_of (by rfl) T.m_list bt_list (pa_cons (pe_slice sl_list (pv 0) po_none (po_some (pv 1))) pa_nil)))
    (pss_cons ((ps_for PassesOwn.never rfl (pi_enum (by rfl) T.m_enumerate (pa_cons (pe_slice sl_list (pv 0) (po_some (pv 1)) (po_some pe_int)) pa_nil)) (pg_tup rfl (pgs_cons (pg_name (i := 3) sc__law_folded.nd rfl (.inl rfl)) (pgs_cons (pg_name (i := 4) sc__law_folded.nd rfl (.inl rfl)) pgs_nil))) (pss_one (ps_asg (pe_op op_add (pe_ix ix_list (pv 2) (pe_op op_mod (pv 3) (pv 1)) (fun _ _ => rfl)) (pe_op op_mul (pv 4) (pe_op op_add (pv 3) pe_int))) (pg_sub (pv 2) (pe_op op_mod (pv 3) (pv 1)) set_list)))))
    (pss_one (ps_ret (pv 2))))), ?_⟩
    refine ⟨.ref a, rfl, .int m, rfl, m, rfl, a, _, rfl, hS, fun c nc => ?_⟩
    rw [cut_take]
    have s1 : Same H (upd H c (.lst ((ns.take m).map V.int))) := same_upd nc
    refine ⟨c, _, rfl, .inl (SqL.mk upd_same), fun l nl => ?_⟩
    have s2 := s1.trans (same_upd nl (o := .lst ((ns.take m).map V.int)))
    refine ⟨.ref a, rfl, .int m, rfl, m, rfl, 63, rfl, a, _, rfl, s2.seq hS, fun d nd => ?_⟩
    obtain ⟨ms, em, hms, hms2⟩ := cut_rest ns m 63
    rw [show (63 : Int) = ((63 : Nat) : Int) from rfl, em]
    have nl0 : H l = none := s1.free nl
    have nd0 : H d = none := s2.free nd
    have ndl : l ≠ d := fun e => by
      rw [← e, upd_same] at nd
      cases nd
    refine ⟨d, _, rfl, SqL.mk upd_same, for_it (walk_enum (xs := ms.map V.int)) (fun i σ H3 => ∃ y3 y4, ∃ cs : List Int, σ = [some (.ref a), some (.int m), some (.ref l), y3, y4] ∧ Same H H3 ∧ H3 l = some (.lst (cs.map V.int)) ∧ cs.length = (ns.take m).length ∧ H3 d = some (.lst (ms.map V.int))) ⟨none, none, ns.take m, rfl, s2.trans (same_upd nd), ?_, rfl, upd_same⟩ ?_ ?_ ?_⟩
    · rw [upd_ne ndl, upd_same]
    · rintro i σ H3 hi ⟨y3, y4, cs, rfl, s3, hl, hc, hd⟩
      exact SqL.mk hd
    · rintro i x σ H3 H4 hi ⟨y3, y4, cs, rfl, s3, hl, hc, hd⟩ ⟨t, x1, x2, rfl, nt, rfl, e1, e2⟩
      rw [List.length_map] at hi
      have lm : m < ns.length := hms (by omega)
      have lc : cs.length = m := by
        rw [hc, List.length_take]
        omega
      have ex1 : x1 = .int (i : Nat) := (Option.some.inj e1).symm
      have ex2 : x2 = .int ms[i] := by
        have e2 : (ms.map V.int)[i]? = some x2 := e2
        rw [List.getElem?_map, List.getElem?_eq_getElem hi] at e2
        exact (Option.some.inj e2).symm
      subst ex1 ex2
      have hl1 : (upd H3 t (.tup [.int (i : Nat), .int ms[i]])) l = some (.lst (cs.map V.int)) := by
        rw [upd_ne (ne_of_none hl nt)]
        exact hl
      have him : i % m < cs.length := by
        rw [lc]
        exact Nat.mod_lt _ hm
      have eim : ((i : Int) % (m : Int)) = ((i % m : Nat) : Int) := by omega
      refine ⟨t, _, rfl, SqT.mk upd_same, rfl, _, _, rfl, _, _, rfl, rfl, ?_⟩
      refine ⟨.ref l, rfl, .int (i : Nat), rfl, .int m, rfl, _, _, rfl, rfl, (show (0 : Int) < (m : Int) by omega), l, _, _, .int cs[i % m], rfl, rfl, SqL.mk hl1, ?_, .int ms[i], rfl, .int (i : Nat), rfl, _, _, rfl, rfl, _, _, rfl, rfl, .inr ⟨by omega, by omega⟩, _, _, rfl, rfl, .ref l, rfl, .int (i : Nat), rfl, .int m, rfl, _, _, rfl, rfl, (show (0 : Int) < (m : Int) by omega), l, _, _, i % m, rfl, rfl, hl1, ?_, ?_⟩
      · rw [eim]
        exact atI_nat (by rw [List.getElem?_map, List.getElem?_eq_getElem him]; rfl)
      · rw [eim]
        exact ixn (by rw [List.length_map]; exact him)
      · refine ⟨_, _, cs.set (i % m) (cs[i % m] + ms[i] * ((i : Int) + 2)), rfl, same_newer (s3.trans (same_upd nt)) nl0, ?_, by rw [List.length_set, hc], ?_⟩
        · rw [upd_same, List.map_set]
        · rw [upd_ne ndl.symm, upd_ne (ne_of_none hd nt)]
          exact hd
    · rintro σ H3 ⟨y3, y4, cs, rfl, s3, hl, hc, hd⟩
      exact ⟨.ref l, rfl, q H3 l cs s3 nl0 hl (by rw [hc, List.length_take]; omega)⟩
/-! the program's own -/
theorem op_fdivNW {X : Cx} : OpR X (binaryOp .FloorDiv) (rI (fun _ j => j ≠ 0 ∧ j.natAbs.log2 < 9000) fun i j => .int (i.fdiv j)) := opI fun _ _ _ _ _ _ _ hc q => floordiv_int hc.1 q (.inl (PyProof.noPylong_of_log2 hc.2))
theorem gcd_step (x y : Nat) : Nat.gcd y (x % y) = Nat.gcd x y := by
  rw [Nat.gcd_comm y, ← Nat.gcd_rec, Nat.gcd_comm]
theorem gcd_small {t b : Int} (hb : b ≠ 0) (h : S 4000 b) : (Int.gcd t b : Int).natAbs.log2 < 9000 := by
  have h1 : Int.gcd t b ≤ b.natAbs := Nat.le_of_dvd (by omega) (Nat.gcd_dvd_right _ _)
  have h2 : 0 < Int.gcd t b := Int.gcd_pos_of_ne_zero_right t hb
  exact (wide_div (i := 0) (j := (Int.gcd t b : Int)) (b := 4000) (by omega) (by rw [Int.natAbs_natCast]; exact Nat.lt_of_le_of_lt h1 h) (by decide) (by decide)).2
def sp_common_divisor (_ : PySem.W.Frag) : Sp := fun vs H Q _ => ∃ a b : Int, vs = [.int a, .int b] ∧ Q (.int (if (1 : Int) > (Int.gcd a b : Int) then 1 else (Int.gcd a b : Int))) H
theorem ok_common_divisor (T : Defs K mg) (TT : Tabs T base) : FnOk P w K mg base CX0 1 T.f_common_divisor T.fd_common_divisor ["one", "other"] (sp_common_divisor K) := by
  refine T.F_common_divisor.ok sc_common_divisor (fun vs H Q E h => ?_) (fun cdv A outer s H vs Q E hr h => ?_)
  · obtain ⟨a, b, rfl, q⟩ := h
    rfl
  · obtain ⟨a, b, rfl, q⟩ := h
    refine ⟨_, PSs.nox (pss_cons (ps_set (i := 0) sc_common_divisor.nd rfl (.inl rfl) (pe_callB call_abs (by rfl) T.m_abs bt_abs (pa_cons (pv 0) pa_nil)))
    (pss_cons (ps_set (i := 1) sc_common_divisor.nd rfl (.inl rfl) (pe_callB call_abs (by rfl) T.m_abs bt_abs (pa_cons (pv 1) pa_nil)))
    (pss_cons (ps_while PassesOwn.never (pt_cmpR op_gt (pv 1) pe_int (nomark _)) (pss_one (ps_par (i := 0) (j := 1) (by rfl) sc_common_divisor.nd rfl rfl (by decide) rfl rfl (pa_cons (pv 1) (pa_cons (pe_op op_mod (pv 0) (pv 1)) pa_nil)) (by rfl))))
    (pss_one (ps_ret (pe_callB (call_max2 rfl) (by rfl) T.m_max bt_max (pa_cons (pv 0) (pa_cons pe_int pa_nil)))))))), ?_⟩
    refine ⟨.int a, rfl, a, rfl, .int b, rfl, b, rfl, ?_⟩
    refine while_by (fun σ H1 => H1 = H ∧ ∃ x y : Nat, σ = [some (.int (x : Nat)), some (.int (y : Nat))] ∧ Nat.gcd x y = Int.gcd a b) (fun σ _ => match σ with | [_, some (.int y)] => y.toNat | _ => 0) ⟨rfl, a.natAbs, b.natAbs, ?_, rfl⟩ ?_ ?_
    · rw [abs_eq, abs_eq]
      rfl
    · rintro σ H1 ⟨rfl, x, y, rfl, hg⟩
      refine ⟨.int (y : Nat), rfl, _, _, rfl, rfl, _, rfl, ite2 (fun e => ?_) (fun e => ?_)⟩
      · have hy : (0 : Int) < (y : Int) := of_decide_eq_true e
        refine ⟨.int (y : Nat), rfl, .int (x : Nat), rfl, .int (y : Nat), rfl, _, _, rfl, rfl, hy, _, _, rfl, ⟨rfl, y, x % y, ?_, ?_⟩, ?_⟩
        · rfl
        · rw [gcd_step, hg]
        · show ((x : Int) % (y : Int)).toNat < ((y : Int)).toNat
          have := Int.emod_lt_of_pos (x : Int) hy
          have := Int.emod_nonneg (x : Int) (show (y : Int) ≠ 0 by omega)
          omega
      · have hy : ¬ (0 : Int) < (y : Int) := fun z => e (decide_eq_true z)
        have y0 : y = 0 := by omega
        subst y0
        rw [Nat.gcd_zero_right] at hg
        refine ⟨.int (x : Nat), rfl, _, _, rfl, ?_⟩
        rw [hg]
        exact q
    · rintro σ H1 Q1 Q2 hQ ⟨v, hv, i, j, e1, e2, k, e3, h3⟩
      exact ⟨v, hv, i, j, e1, e2, k, e3, hQ _ _ h3⟩
def sp_fraction (_ : PySem.W.Frag) : Sp := fun vs H Q _ => ∃ t b : Int, vs = [.int t, .int b] ∧ b ≠ 0 ∧ S 4000 b ∧ ∀ H' p, Same H H' → H p = none → H' p = some (.tup [.int (frT t b), .int (frB t b)]) → Q (.ref p) H'
/-! match x: case (word, names ..) -/
abbrev TCs := Addr → List V → TS
structure PCs (X : Cx) (cs : List MatchCase) (t : TCs) : Prop where
  run : ∀ (pins : List (Addr × Obj)) (s : Shared) (σ : L2.St) (H : Hp) (D : L2.Ends) (a : Addr) (xs : List V) (first : Bool), Inv X pins σ H s → SqT X.K H a xs → t a xs D σ H →
    wpAny (model X.prog X.w) X.A (matchCases cs X.env (.ref a) first) (SP X pins D) X.xe s
def tMatch (K : PySem.W.Frag) (te : TE) (tc : TCs) : TS := fun D σ H => te σ H fun v H1 => ∃ a xs, v = .ref a ∧ SqT K H1 a xs ∧ tc a xs D σ H1
theorem ps_match {X : Cx} {e : Expr} {cs : List MatchCase} {pos : Pos} {te : TE} {tc : TCs} (he : PE X e te) (hc : PCs X cs tc) : PS X (.Match e cs pos) (tMatch X.K te tc) := by
  refine ⟨fun pins s σ H D I h => ?_⟩
  refine wpAny_Match (thn (he.run pins s σ H _ I h) fun v s1 ⟨x, H1, I1, r1, a, xs, e1, hq, q⟩ => ?_)
  subst e1
  cases r1
  exact hc.run pins s1 σ H1 D a xs true I1 hq q
theorem pcs_nil {X : Cx} : PCs X [] (fun _ _ D σ H => D.nx σ H) := ⟨fun _ _ σ H _ _ _ _ I _ h => wpAny_matchCases_nil ⟨σ, H, I, h⟩⟩
theorem pcs_any {X : Cx} {body : List Stmt} {rest : List MatchCase} {pos : Pos} {tb : TS} (hb : PSs X body tb) : PCs X (⟨.MatchAs none none pos, none, body⟩ :: rest) (fun _ _ => tb) := by
  refine ⟨fun pins s σ H D a xs first I hq h => wpAny_matchCases_cons (wpAny_matchPattern_Capture ?_)⟩
  exact wpAny_assignInOrder_none (hb.run pins s σ H D I h)
/-- the slots i .. get the values .. in turn -/
def sets (σ : L2.St) : List Nat → List V → L2.St
  | i :: is, v :: vs => sets (σ.set i (some v)) is vs
  | _, _ => σ
structure PCap (X : Cx) (ps : List Pattern) (ns : List (Nat × Str)) : Prop where
  each : ∀ (s : Shared) (us : List Value) (Q : Option (List (Str × Value)) → Shared → Prop), us.length = ns.length → Q (some (List.zipWith (fun n u => (n.2, u)) ns us)) s → wpAny (model X.prog X.w) X.A (matchEach ps X.env us) Q X.xe s
  slot : ∀ n, n ∈ ns → X.N[n.1]? = some n.2 ∧ Loc X.env.scope n.2 ∧ (X.fn n.2 = true ∨ X.env.scope.names.lookup n.2 = some .local)
  len : ps.length = ns.length
theorem pcap_nil {X : Cx} : PCap X [] [] := ⟨fun s us Q hl h => wpAny_matchEach_nil (by
  rw [show us = [] from List.eq_nil_of_length_eq_zero hl] at h
  exact h), fun n hn => (by cases hn), rfl⟩
theorem pcap_cons {X : Cx} {i : Nat} {x : Str} {pos : Pos} {ps : List Pattern} {ns : List (Nat × Str)} (hi : X.N[i]? = some x) (hx : Loc X.env.scope x) (h : PCap X ps ns) (hf : X.fn x = true ∨ X.env.scope.names.lookup x = some .local := by first | exact .inl rfl | exact .inr rfl | assumption) :
    PCap X (.MatchAs none (some x) pos :: ps) ((i, x) :: ns) := by
  refine ⟨fun s us Q hl hQ => ?_, fun n hn => ?_, ?_⟩
  · match us, hl with
    | u :: us, hl =>
      refine wpAny_matchEach_cons (wpAny_matchPattern_Capture ?_)
      refine h.each s us _ (Nat.succ.inj hl) ?_
      exact hQ
  · rcases List.mem_cons.mp hn with rfl | hn
    · exact ⟨hi, hx, hf⟩
    · exact h.slot n hn
  · rw [List.length_cons, List.length_cons, h.len]
theorem bind_all {X : Cx} {pins : List (Addr × Obj)} {H : Hp} (hN : X.N.Nodup) : ∀ (ns : List (Nat × Str)) (us : List Value) (vs : List V) (σ : L2.St) (s : Shared) (Q : Unit → Shared → Prop),
    (∀ n, n ∈ ns → X.N[n.1]? = some n.2 ∧ Loc X.env.scope n.2 ∧ (X.fn n.2 = true ∨ X.env.scope.names.lookup n.2 = some .local)) → us.length = ns.length → Vals vs us → Inv X pins σ H s → (∀ s', Inv X pins (sets σ (ns.map Prod.fst) vs) H s' → Q () s') →
    wpAny (model X.prog X.w) X.A (assignInOrder ((List.zipWith (fun (n : Nat × Str) u => (n.2, u)) ns us).map fun (n, _) => bindName X.env n) ((List.zipWith (fun (n : Nat × Str) u => (n.2, u)) ns us).map (·.2))) Q X.xe s
  | [], us, vs, σ, s, Q, _, hl, r, I, q => by
    have e : us = [] := List.eq_nil_of_length_eq_zero hl
    subst e
    cases r
    exact wpAny_assignInOrder_none (q s I)
  | n :: ns, us, vs, σ, s, Q, hs, hl, r, I, q => by
    match us, vs, hl, r with
    | u :: us, v :: vs, hl, .cons r1 r2 =>
      obtain ⟨h1, h2, h3⟩ := hs n List.mem_cons_self
      refine wpAny_assignInOrder_more (wpAny_bindName (store_ok I hN h1 h2 r1 (fun s1 I1 => ?_) h3))
      exact bind_all hN ns us vs _ s1 Q (fun m hm => hs m (List.mem_cons_of_mem _ hm)) (Nat.succ.inj hl) r2 I1 q
def tCase (word : Str) (is : List Nat) (tb : TS) (rest : TCs) : TCs := fun a xs D σ H =>
  (xs.length ≠ is.length + 1 ∧ rest a xs D σ H) ∨ ∃ z ys, xs = .str z :: ys ∧ ys.length = is.length ∧ ((z = word ∧ tb D (sets σ is ys) H) ∨ (z ≠ word ∧ rest a xs D σ H))
theorem pcs_seq {X : Cx} {e : Expr} {word : Str} {vp sp : Pos} {ps : List Pattern} {ns : List (Nat × Str)} {body : List Stmt} {rest : List MatchCase} {tb : TS} {tr : TCs} (hc : X.calm = true) (hN : X.N.Nodup) (hw : PE X e (tC (.str word))) (hcap : PCap X ps ns) (hb : PSs X body tb) (hr : PCs X rest tr)
    (hstar : (.MatchValue e vp :: ps).findIdx? (·.isStar) = none := by rfl) (hwild : ((.MatchValue e vp :: ps).all fun p => p.isWildcard || (p.isStar && p.names.isEmpty)) = false := by rfl) :
    PCs X (⟨.MatchSequence (.MatchValue e vp :: ps) sp, none, body⟩ :: rest) (tCase word (ns.map Prod.fst) tb tr) := by
  refine ⟨fun pins s σ H D a xs first I hq h => ?_⟩
  obtain ⟨its, rv, ht, hz⟩ := I.tuple hq
  have hl := rv.length
  have hsl : sizeLine = 16777216 := by decide
  have hfit : ((its.toArray.size : Nat) : Int) < 2 ^ 63 := by
    rw [List.size_toArray]
    omega
  have lp := hcap.len
  have miss : ∀ s', Inv X pins σ H s' → tr a xs D σ H → wpAny (model X.prog X.w) X.A (matchCases rest X.env (.ref a) false) (SP X pins D) X.xe s' := fun s' I' q => hr.run pins s' σ H D a xs false I' hq q
  refine wpAny_matchCases_cons ?_
  rcases h with ⟨hn, h⟩ | ⟨z, ys, rfl, hn, h⟩
  · rw [List.length_map] at hn
    refine matchSeq_tuple_miss ht hfit (by rw [List.size_toArray, List.length_cons]; omega) ?_ hstar hwild
    exact miss _ (I.kept (t' := s.toks + 1 + 1) fun b o q => q) h
  · rw [List.length_map] at hn
    rw [List.length_cons] at hl
    refine matchSeq_tuple_hit ht hfit (by rw [List.size_toArray, List.length_cons]; omega) ?_ hstar hwild
    have e1 : (Pattern.MatchValue e vp :: ps).length = its.toArray.size := by
      rw [List.size_toArray, List.length_cons]
      omega
    have key : ∀ s2 : Shared, Inv X pins σ H s2 → wpAny (model X.prog X.w) X.A (matchEach (.MatchValue e vp :: ps) X.env its) (fun r s₁ => match r with
        | none => wpAny (model X.prog X.w) X.A (matchCases rest X.env (.ref a) false) (SP X pins D) X.xe s₁
        | some bs => wpAny (model X.prog X.w) X.A (assignInOrder (bs.map fun (n, _) => bindName X.env n) (bs.map (·.2))) (fun _ s₂ => wpAny (model X.prog X.w) X.A (execs body X.env) (SP X pins D) X.xe s₂) X.xe s₁) X.xe s2 := fun s2 I1 => by
      clear e1 hfit hz ht
      match its, rv, hl with
      | u :: us, .cons r1 r2, hl =>
        refine wpAny_matchEach_cons (wpAny_matchPattern_Value ?_)
        refine thn (hw.run pins s2 σ H (fun v H' => v = .str word ∧ H' = H) I1 ⟨rfl, rfl⟩) fun c s3 ⟨x, H3, I3, r3, e3, e4⟩ => ?_
        subst e3 e4
        refine thn (op_eq pins s3 σ H3 (.str z) (.str word) u c (fun v H' => v = .bl (decide (V.str z = V.str word)) ∧ H' = H3) I3 r1 r3 ⟨rfl, rfl, rfl⟩) fun d s4 ⟨y, H4, I4, r4, e5, e6⟩ => ?_
        subst e5 e6
        obtain rfl : d = Value.bool (decide (V.str z = V.str word)) := r4
        refine wpAny_truthy_bool ?_
        rcases h with ⟨rfl, h⟩ | ⟨ne, h⟩
        · rw [if_pos (decide_eq_true rfl)]
          have ul : us.length = ns.length := by
            have := r2.length
            omega
          refine hcap.each s4 us _ ul ?_
          show wpAny _ _ (assignInOrder _ _) _ _ s4
          exact bind_all hN ns us ys σ s4 _ hcap.slot ul r2 I4 fun s5 I5 => hb.run pins s5 _ H4 D I5 h
        · rw [if_neg (fun y => ne (V.str.inj (of_decide_eq_true y)))]
          exact miss s4 I4 h
    rw [e1]
    refine unpackItems_tuple (I.ok.hd hc) ht fun h' hx => ?_
    have I1 : Inv X pins σ H { s with heap := h', toks := s.toks + 1 + 1 } := I.kept (t' := s.toks + 1 + 1) fun b o q => hx b o (Nat.ne_of_lt (Heap.lt_size q)) q
    refine key _ ?_
    exact I1
/-! match x: case (word, names ..): the first item may be anything -/
def tCaseX (K : PySem.W.Frag) (word : Str) (is : List Nat) (tb : TS) (rest : TCs) : TCs := fun a xs D σ H =>
  (xs.length ≠ is.length + 1 ∧ rest a xs D σ H) ∨ ∃ x ys d, xs = x :: ys ∧ ys.length = is.length ∧ Dp K H x d ∧ SeqAt.shaped d = true ∧ ((d = .str word ∧ tb D (sets σ is ys) H) ∨ (d ≠ .str word ∧ rest a xs D σ H))
theorem eqv_strD {d : PyData} {z : Str} : PyData.eqv d (.str z) = true ↔ d = .str z := by
  cases d with
  | str x =>
    show (x == z) = true ↔ _
    constructor
    · intro h
      rw [eq_of_beq h]
    · intro h
      cases h
      exact beq_self_eq_true z
  | _ => exact ⟨fun h => (by cases h), fun h => (by cases h)⟩
theorem pcs_seqX {X : Cx} {e : Expr} {word : Str} {vp sp : Pos} {ps : List Pattern} {ns : List (Nat × Str)} {body : List Stmt} {rest : List MatchCase} {tb : TS} {tr : TCs} (hu : X.A.units + 64 < cLine) (hc : X.calm = true) (hN : X.N.Nodup) (hw : PE X e (tC (.str word))) (hcap : PCap X ps ns) (hb : PSs X body tb) (hr : PCs X rest tr)
    (hstar : (.MatchValue e vp :: ps).findIdx? (·.isStar) = none := by rfl) (hwild : ((.MatchValue e vp :: ps).all fun p => p.isWildcard || (p.isStar && p.names.isEmpty)) = false := by rfl) (hws : SeqAt.shaped (.str word) = true := by decide +kernel) :
    PCs X (⟨.MatchSequence (.MatchValue e vp :: ps) sp, none, body⟩ :: rest) (tCaseX X.K word (ns.map Prod.fst) tb tr) := by
  refine ⟨fun pins s σ H D a xs first I hq h => ?_⟩
  obtain ⟨its, rv, ht, hz⟩ := I.tuple hq
  have hl := rv.length
  have hsl : sizeLine = 16777216 := by decide
  have hfit : ((its.toArray.size : Nat) : Int) < 2 ^ 63 := by
    rw [List.size_toArray]
    omega
  have lp := hcap.len
  have miss : ∀ s', Inv X pins σ H s' → tr a xs D σ H → wpAny (model X.prog X.w) X.A (matchCases rest X.env (.ref a) false) (SP X pins D) X.xe s' := fun s' I' q => hr.run pins s' σ H D a xs false I' hq q
  refine wpAny_matchCases_cons ?_
  rcases h with ⟨hn, h⟩ | ⟨z, ys, dz, rfl, hn, hdz, sz, h⟩
  · rw [List.length_map] at hn
    refine matchSeq_tuple_miss ht hfit (by rw [List.size_toArray, List.length_cons]; omega) ?_ hstar hwild
    exact miss _ (I.kept (t' := s.toks + 1 + 1) fun b o q => q) h
  · rw [List.length_map] at hn
    rw [List.length_cons] at hl
    refine matchSeq_tuple_hit ht hfit (by rw [List.size_toArray, List.length_cons]; omega) ?_ hstar hwild
    have e1 : (Pattern.MatchValue e vp :: ps).length = its.toArray.size := by
      rw [List.size_toArray, List.length_cons]
      omega
    have key : ∀ s2 : Shared, Inv X pins σ H s2 → wpAny (model X.prog X.w) X.A (matchEach (.MatchValue e vp :: ps) X.env its) (fun r s₁ => match r with
        | none => wpAny (model X.prog X.w) X.A (matchCases rest X.env (.ref a) false) (SP X pins D) X.xe s₁
        | some bs => wpAny (model X.prog X.w) X.A (assignInOrder (bs.map fun (n, _) => bindName X.env n) (bs.map (·.2))) (fun _ s₂ => wpAny (model X.prog X.w) X.A (execs body X.env) (SP X pins D) X.xe s₂) X.xe s₁) X.xe s2 := fun s2 I1 => by
      clear e1 hfit hz ht
      match its, rv, hl with
      | u :: us, .cons r1 r2, hl =>
        refine wpAny_matchEach_cons (wpAny_matchPattern_Value ?_)
        refine thn (hw.run pins s2 σ H (fun v H' => v = .str word ∧ H' = H) I1 ⟨rfl, rfl⟩) fun c s3 ⟨x, H3, I3, r3, e3, e4⟩ => ?_
        subst e3 e4
        refine thn (op_eqD hu pins s3 σ H3 z (.str word) u c (fun v H' => v = .bl (PyData.eqv dz (.str word)) ∧ H' = H3) I3 r1 r3 ⟨dz, .str word, hdz, .str _, sz, hws, rfl, rfl⟩) fun d s4 ⟨y, H4, I4, r4, e5, e6⟩ => ?_
        subst e5 e6
        obtain rfl : d = Value.bool (PyData.eqv dz (.str word)) := r4
        refine wpAny_truthy_bool ?_
        rcases h with ⟨ez, h⟩ | ⟨ne, h⟩
        · rw [if_pos (eqv_strD.mpr ez)]
          have ul : us.length = ns.length := by
            have := r2.length
            omega
          refine hcap.each s4 us _ ul ?_
          show wpAny _ _ (assignInOrder _ _) _ _ s4
          exact bind_all hN ns us ys σ s4 _ hcap.slot ul r2 I4 fun s5 I5 => hb.run pins s5 _ H4 D I5 h
        · rw [if_neg (fun y => ne (eqv_strD.mp y))]
          exact miss s4 I4 h
    rw [e1]
    refine unpackItems_tuple (I.ok.hd hc) ht fun h' hx => ?_
    have I1 : Inv X pins σ H { s with heap := h', toks := s.toks + 1 + 1 } := I.kept (t' := s.toks + 1 + 1) fun b o q => hx b o (Nat.ne_of_lt (Heap.lt_size q)) q
    refine key _ ?_
    exact I1
/-! max(tuple), max(tuple, default=d) -/
def rMaxT (K : PySem.W.Frag) : List V → Hp → VK → Prop := fun vs H Q => ∃ (a : Addr) (ns : List Int), vs = [V.ref a] ∧ SqT K H a (ns.map V.int) ∧ 0 < ns.length ∧ ∀ m, m ∈ ns → (∀ y, y ∈ ns → y ≤ m) → Q (.int m) H
theorem best_in {ns : List Int} (h : 0 < ns.length) : ns.getD (argBest (fun i j => decide (ns.getD i 0 > ns.getD j 0)) (ns.length - 1)) 0 ∈ ns ∧ ∀ y, y ∈ ns → y ≤ ns.getD (argBest (fun i j => decide (ns.getD i 0 > ns.getD j 0)) (ns.length - 1)) 0 := by
  obtain ⟨h1, h2⟩ := argBest_gt (fun i => ns.getD i 0) (ns.length - 1)
  refine ⟨?_, fun y hy => ?_⟩
  · generalize argBest (fun i j => decide (ns.getD i 0 > ns.getD j 0)) (ns.length - 1) = k at h1
    have hk : k < ns.length := by omega
    rw [List.getD_eq_getElem?_getD, List.getElem?_eq_getElem hk]
    exact List.getElem_mem hk
  · obtain ⟨j, hj, rfl⟩ := List.getElem_of_mem hy
    have := h2 j (by omega)
    have e : ns.getD j 0 = ns[j] := by
      rw [List.getD_eq_getElem?_getD, List.getElem?_eq_getElem hj]
      rfl
    rw [← e]
    exact this
theorem ints_at {its : List Value} {ns : List Int} (rv : Vals (ns.map V.int) its) : ∀ (i : Nat) (v : Value), its.toArray[i]? = some v → ∃ t, v = Value.int (ns.getD i 0) t := fun i v hv => by
  have hv2 : its[i]? = some v := by simpa using hv
  have hl := rv.length
  rw [List.length_map] at hl
  have hi : i < ns.length := by
    have := (List.getElem?_eq_some_iff.mp hv2).1
    omega
  obtain ⟨u, hu, ru⟩ := rv.get (show (ns.map V.int)[i]? = some (V.int ns[i]) by rw [List.getElem?_map, List.getElem?_eq_getElem hi]; rfl)
  rw [hv2] at hu
  cases hu
  obtain ⟨t, rfl⟩ := (show ∃ t, v = Value.int ns[i] t from ru)
  exact ⟨t, by
    show Value.int ns[i] t = Value.int (ns.getD i 0) t
    rw [List.getD_eq_getElem?_getD, List.getElem?_eq_getElem hi]
    rfl⟩
theorem cr_maxT {X : Cx} (hc : X.calm = true) : CallR X (.builtin "max") (rMaxT X.K) := by
  intro pins s σ H vs us Q I r h
  obtain ⟨a, ns, rfl, hs, hne, q⟩ := h
  obtain ⟨its, rv, ht, _⟩ := I.tuple hs
  rw [Vals.ref1 r]
  have hh := I.ok.hd hc
  have lta : a < s.heap.objs.size := by
    obtain ⟨o, ho, _⟩ := id ht
    exact Heap.lt_size ho
  have hl := rv.length
  rw [List.length_map] at hl
  have hz : its.toArray.size = ns.length := by rw [List.size_toArray, hl]
  refine call_max_walk (wpAny_pyIter_tuple (show s.heap.IsTuple a its.toArray from ht) ⟨s.heap.objs.size, _, _, _, _, _, fun i j => decide (ns.getD i 0 > ns.getD j 0), rfl, Walks.tuple (A := X.A.in1) hh s.heap.objs.size a (Nat.ne_of_lt lta) its.toArray, ⟨⟨_, Heap.get?_push_size _ rfl, rfl, rfl⟩, (show s.heap.IsTuple a its.toArray from ht).at fun o e => Heap.get?_push_of_some _ e⟩, fun b hb => ?_, by rw [hz]; exact hne, CmpOf.ints_gt (fun i => ns.getD i 0) (ints_at rv), fun v h' tk hP hk => ?_⟩)
  · show b < (s.heap.push _).objs.size
    rw [Heap.size_push]
    rcases List.mem_cons.mp hb with z | z
    · rw [z]
      exact Nat.lt_succ_self _
    · rw [List.mem_singleton.mp z]
      exact Nat.lt_succ_of_lt lta
  · obtain ⟨t, rfl⟩ := ints_at rv _ _ hP
    rw [hz]
    obtain ⟨b1, b2⟩ := best_in hne
    refine ⟨.int _, H, I.kept fun b o e => hk b o (fun z => ?_) (Heap.get?_push_of_some _ e), ⟨_, rfl⟩, q _ b1 b2⟩
    rw [List.mem_singleton] at z
    rw [z] at e
    exact Nat.lt_irrefl _ (Heap.lt_size e)
theorem cr_maxTD {X : Cx} (hc : X.calm = true) : CallRK X (.builtin "max") [Str.ofString "default"] (fun vs zs H Q => (∃ z, zs = [z]) ∧ rMaxT X.K vs H Q) := by
  intro pins s σ H vs zs us ws Q I r rz h
  obtain ⟨⟨z, rfl⟩, a, ns, rfl, hs, hne, q⟩ := h
  obtain ⟨its, rv, ht, _⟩ := I.tuple hs
  rw [Vals.ref1 r]
  match ws, rz with
  | [d], .cons rd .nil =>
    have hh := I.ok.hd hc
    have lta : a < s.heap.objs.size := by
      obtain ⟨o, ho, _⟩ := id ht
      exact Heap.lt_size ho
    have hl := rv.length
    rw [List.length_map] at hl
    have hz : its.toArray.size = ns.length := by rw [List.size_toArray, hl]
    have none : ∀ (b : Addr) (o : Obj), ({ s.heap with objs := #[] } : Heap).get? b = some o → False := fun b o e => by
      have := Heap.lt_size e
      exact Nat.not_lt_zero _ this
    refine call_max_walkD (wpAny_pyIter_tuple (show s.heap.IsTuple a its.toArray from ht) ⟨s.heap.objs.size, _, _, _, _, _, _, { s.heap with objs := #[] }, fun i j => decide (ns.getD i 0 > ns.getD j 0), rfl, (Walks.tuple (A := X.A.in1) hh s.heap.objs.size a (Nat.ne_of_lt lta) its.toArray).toS, ⟨⟨_, Heap.get?_push_size _ rfl, rfl, rfl⟩, (show s.heap.IsTuple a its.toArray from ht).at fun o e => Heap.get?_push_of_some _ e⟩, fun b hb => ?_, fun b o e => (none b o e).elim, fun b o e => (none b o e).elim, fun e => by rw [hz] at e; omega, fun _ => ⟨fun i j vi vj s' Q' E' _ hi hj hq => CmpOf.ints_gt (fun i => ns.getD i 0) (ints_at rv) i j vi vj s' Q' E' hi hj hq, fun v s' hP hm => ?_⟩⟩)
    · show b < (s.heap.push _).objs.size
      rw [Heap.size_push]
      rcases List.mem_cons.mp hb with z | z
      · rw [z]
        exact Nat.lt_succ_self _
      · rw [List.mem_singleton.mp z]
        exact Nat.lt_succ_of_lt lta
    · obtain ⟨t, rfl⟩ := ints_at rv _ _ hP
      rw [hz]
      obtain ⟨b1, b2⟩ := best_in hne
      obtain ⟨h', g', d', t', o'⟩ := s'
      have eg : g' = s.gens := hm.gens
      have ed : d' = s.drawn := hm.drawn
      have eo : o' = s.os := hm.os
      subst eg ed eo
      refine ⟨.int _, H, I.kept (h' := h') (t' := t') fun b o e => hm.heap b o (fun z => ?_) (Heap.get?_push_of_some _ e), ⟨_, rfl⟩, q _ b1 b2⟩
      rw [List.mem_singleton] at z
      rw [z] at e
      exact Nat.lt_irrefl _ (Heap.lt_size e)
/-! sum(tuple) -/
theorem preSum_take (ns : List Int) : ∀ k, preSum (fun i => ns.getD i 0) k = (ns.take k).sum
  | 0 => rfl
  | k + 1 => by
    show preSum (fun i => ns.getD i 0) k + ns.getD k 0 = _
    rw [preSum_take ns k, List.take_add_one, List.getD_eq_getElem?_getD]
    cases ns[k]? with
    | none => simp
    | some x => simp
def rSumT (K : PySem.W.Frag) : List V → Hp → VK → Prop := fun vs H Q => ∃ (a : Addr) (ns : List Int), vs = [V.ref a] ∧ SqT K H a (ns.map V.int) ∧ Q (.int ns.sum) H
theorem cr_sumT {X : Cx} (hc : X.calm = true) : CallR X (.builtin "sum") (rSumT X.K) := by
  intro pins s σ H vs us Q I r h
  obtain ⟨a, ns, rfl, hs, q⟩ := h
  obtain ⟨its, rv, ht, _⟩ := I.tuple hs
  rw [Vals.ref1 r]
  have hh := I.ok.hd hc
  have lta : a < s.heap.objs.size := by
    obtain ⟨o, ho, _⟩ := ht
    exact Heap.lt_size ho
  have hl := rv.length
  rw [List.length_map] at hl
  refine call_sum_walkG (wpAny_pyIter_tuple (show s.heap.IsTuple a its.toArray from ht) ⟨s.heap.objs.size, _, _, _, _, _, fun i => ns.getD i 0, rfl, Walks.tuple (A := X.A.in1) hh s.heap.objs.size a (Nat.ne_of_lt lta) its.toArray, ⟨⟨_, Heap.get?_push_size _ rfl, rfl, rfl⟩, (show s.heap.IsTuple a its.toArray from ht).at fun o e => Heap.get?_push_of_some _ e⟩, fun b hb => ?_, fun i v hv => ?_, fun h' tk t' hk => ?_⟩)
  · show b < (s.heap.push _).objs.size
    rw [Heap.size_push]
    rcases List.mem_cons.mp hb with z | z
    · rw [z]
      exact Nat.lt_succ_self _
    · rw [List.mem_singleton.mp z]
      exact Nat.lt_succ_of_lt lta
  · have hv2 : its[i]? = some v := by simpa using hv
    have hi : i < ns.length := by
      have := (List.getElem?_eq_some_iff.mp hv2).1
      omega
    obtain ⟨u, hu, ru⟩ := rv.get (show (ns.map V.int)[i]? = some (V.int ns[i]) by rw [List.getElem?_map, List.getElem?_eq_getElem hi]; rfl)
    rw [hv2] at hu
    cases hu
    obtain ⟨t, rfl⟩ := (show ∃ t, v = Value.int ns[i] t from ru)
    exact ⟨t, by
      show Value.int ns[i] t = Value.int (ns.getD i 0) t
      rw [List.getD_eq_getElem?_getD, List.getElem?_eq_getElem hi]
      rfl⟩
  · rw [preSum_take, List.take_of_length_le (by rw [List.size_toArray]; omega)]
    refine ⟨.int _, H, I.kept fun b o e => hk b o (fun z => ?_) (Heap.get?_push_of_some _ e), ⟨_, rfl⟩, q⟩
    rw [List.mem_singleton] at z
    rw [z] at e
    exact Nat.lt_irrefl _ (Heap.lt_size e)
theorem sumTK {X : Cx} {K : PySem.W.Frag} (h : X.K = K) (hc : X.calm = true) : CallR X (.builtin "sum") (rSumT K) := by
  subst h
  exact cr_sumT hc
/-! what a register holds -/
def parF : Nat → Nat → Nat
  | 0, _ => 0
  | f + 1, n => (n % 2 + parF f (n / 2)) % 2
def par (n : Nat) : Nat := parF 7 n
def regS (w p x : Nat) : Nat := 2 * x % 2 ^ w + par (x &&& p)
def regA (w p s : Nat) : Nat → Nat
  | 0 => s
  | k + 1 => regS w p (regA w p s k)
def regI (w p z : Nat) : Nat := z / 2 + 2 ^ (w - 1) * ((z % 2 + par ((z / 2) &&& p)) % 2)
theorem par_lt (n : Nat) : par n < 2 := Nat.mod_lt _ (by decide)
theorem regS_lt {w p x : Nat} (hw : 1 ≤ w) : regS w p x < 2 ^ w := by
  unfold regS
  have h1 := par_lt (x &&& p)
  have h2 := Nat.mod_lt (2 * x) (Nat.two_pow_pos w)
  obtain ⟨v, rfl⟩ : ∃ v, w = v + 1 := ⟨w - 1, by omega⟩
  rw [Nat.pow_succ] at *
  have : 2 * x % (2 ^ v * 2) % 2 = 0 := by
    rw [Nat.mod_mul_left_mod]
    omega
  omega
theorem reg_back2 : ∀ p, p < 4 → 2 ≤ p → ∀ x, x < 4 → regI 2 p (regS 2 p x) = x := by decide +kernel
theorem reg_back3 : ∀ p, p < 8 → 4 ≤ p → ∀ x, x < 8 → regI 3 p (regS 3 p x) = x := by decide +kernel
theorem reg_back4 : ∀ p, p < 16 → 8 ≤ p → ∀ x, x < 16 → regI 4 p (regS 4 p x) = x := by decide +kernel
theorem reg_back5 : ∀ p, p < 32 → 16 ≤ p → ∀ x, x < 32 → regI 5 p (regS 5 p x) = x := by decide +kernel
theorem reg_back6 : ∀ p, p < 64 → 32 ≤ p → ∀ x, x < 64 → regI 6 p (regS 6 p x) = x := by decide +kernel
structure RgW (w p : Nat) : Prop where
  lo : 2 ≤ w
  hi : w ≤ 6
  pl : 2 ^ (w - 1) ≤ p
  ph : p < 2 ^ w
theorem reg_back {w p x : Nat} (h : RgW w p) (hx : x < 2 ^ w) : regI w p (regS w p x) = x := by
  obtain ⟨h1, h2, h3, h4⟩ := h
  match w, h1, h2 with
  | 2, _, _ => exact reg_back2 p h4 h3 x hx
  | 3, _, _ => exact reg_back3 p h4 h3 x hx
  | 4, _, _ => exact reg_back4 p h4 h3 x hx
  | 5, _, _ => exact reg_back5 p h4 h3 x hx
  | 6, _, _ => exact reg_back6 p h4 h3 x hx
theorem regA_lt {w p s : Nat} (h : RgW w p) (hs : s < 2 ^ w) : ∀ k, regA w p s k < 2 ^ w
  | 0 => hs
  | _ + 1 => regS_lt (by have := h.lo; omega)
theorem reg_inj {w p x y : Nat} (h : RgW w p) (hx : x < 2 ^ w) (hy : y < 2 ^ w) (e : regS w p x = regS w p y) : x = y := by
  rw [← reg_back h hx, e, reg_back h hy]
theorem regA_back {w p s : Nat} (h : RgW w p) (hs : s < 2 ^ w) : ∀ i d, regA w p s (i + d) = regA w p s i → regA w p s d = s
  | 0, d, e => by rw [Nat.zero_add] at e; exact e
  | i + 1, d, e => by
    rw [show i + 1 + d = (i + d) + 1 by omega] at e
    exact regA_back h hs i d (reg_inj h (regA_lt h hs _) (regA_lt h hs _) e)
theorem regA_zero {w p s : Nat} (h : RgW w p) (hs : s < 2 ^ w) (s0 : 0 < s) : ∀ k, 0 < regA w p s k
  | 0 => s0
  | k + 1 => by
    rcases Nat.eq_zero_or_pos (regA w p s (k + 1)) with z | z
    · exfalso
      have ih := regA_zero h hs s0 k
      have e0 : regS w p 0 = 0 := by
        unfold regS
        rw [Nat.mul_zero, Nat.zero_mod, Nat.zero_and]
        rfl
      have : regA w p s k = 0 := reg_inj h (regA_lt h hs k) (Nat.two_pow_pos w) (by rw [e0]; exact z)
      omega
    · exact z
theorem pigeon : ∀ (n : Nat) (l : List Nat), l.Nodup → (∀ x, x ∈ l → x < n) → l.length ≤ n
  | 0, l, _, h => by
    cases l with
    | nil => exact Nat.le_refl 0
    | cons x r => exact absurd (h x List.mem_cons_self) (Nat.not_lt_zero _)
  | n + 1, l, hd, h => by
    by_cases hm : n ∈ l
    · have h1 := pigeon n (l.erase n) (hd.erase n) fun x hx => by
        have h2 := (hd.mem_erase_iff).mp hx
        have := h x h2.2
        omega
      rw [List.length_erase_of_mem hm] at h1
      omega
    · have h1 := pigeon n l hd fun x hx => by
        have := h x hx
        have : x ≠ n := fun e => hm (e ▸ hx)
        omega
      omega
/-- the first k that comes back -/
structure IsPer (w p s k : Nat) : Prop where
  pos : 1 ≤ k
  le : k ≤ 2 ^ w
  back : regA w p s k = s
  first : ∀ j, 0 < j → j < k → regA w p s j ≠ s
theorem reg_nodup {w p s k : Nat} (h : RgW w p) (hs : s < 2 ^ w) (hf : ∀ j, 0 < j → j < k → regA w p s j ≠ s) : ((List.range k).map (regA w p s)).Nodup := by
  rw [List.nodup_iff_pairwise_ne, List.pairwise_map]
  refine List.pairwise_lt_range.imp_of_mem ?_
  intro a b ha hb hab e
  have hb := List.mem_range.mp hb
  refine hf (b - a) (by omega) (by omega) (regA_back h hs a (b - a) ?_)
  rw [show a + (b - a) = b by omega]
  exact e.symm
theorem per_ex {w p s : Nat} (h : RgW w p) (hs : s < 2 ^ w) : ∃ k, IsPer w p s k := by
  have ex : ∃ k, 1 ≤ k ∧ k ≤ 2 ^ w ∧ regA w p s k = s := by
    apply Classical.byContradiction
    intro hn
    have hf : ∀ j, 0 < j → j < 2 ^ w + 1 → regA w p s j ≠ s := fun j h0 h1 e => hn ⟨j, by omega, by omega, e⟩
    have := pigeon (2 ^ w) _ (reg_nodup h hs hf) fun x hx => by
      obtain ⟨j, _, rfl⟩ := List.mem_map.mp hx
      exact regA_lt h hs j
    rw [List.length_map, List.length_range] at this
    omega
  -- the least such
  have least : ∀ n, ∀ k, k ≤ n → 1 ≤ k → k ≤ 2 ^ w → regA w p s k = s → ∃ k, IsPer w p s k := by
    intro n
    induction n with
    | zero => intro k h1 h2; omega
    | succ n ih =>
      intro k h1 h2 h3 h4
      by_cases hj : ∃ j, 0 < j ∧ j < k ∧ regA w p s j = s
      · obtain ⟨j, j0, jk, je⟩ := hj
        exact ih j (by omega) j0 (by omega) je
      · exact ⟨k, h2, h3, h4, fun j j0 jk je => hj ⟨j, j0, jk, je⟩⟩
  obtain ⟨k, h1, h2, h3⟩ := ex
  exact least k k (Nat.le_refl k) h1 h2 h3
theorem IsPer.uniq {w p s k l : Nat} (h : IsPer w p s k) (g : IsPer w p s l) : k = l := by
  rcases Nat.lt_trichotomy k l with z | z | z
  · exact absurd h.back (g.first k h.pos z)
  · exact z
  · exact absurd g.back (h.first l g.pos z)
noncomputable def per (w p s : Nat) : Nat := @dite Nat (∃ k, IsPer w p s k) (Classical.propDecidable _) (fun h => h.choose) (fun _ => 0)
theorem per_is {w p s : Nat} (h : RgW w p) (hs : s < 2 ^ w) : IsPer w p s (per w p s) := by
  unfold per
  rw [dif_pos (per_ex h hs)]
  exact (per_ex h hs).choose_spec
theorem per_eq {w p s k : Nat} (h : RgW w p) (hs : s < 2 ^ w) (g : IsPer w p s k) : per w p s = k := (per_is h hs).uniq g
/-- the law's odd count -/
def oddL (w x p : Nat) : Int := ((List.range w).map fun j => (((x / 2 ^ j % 2 : Nat) : Int) * ((p / 2 ^ j % 2 : Nat) : Int))).sum % 2
theorem odd2 : ∀ p, p < 4 → ∀ x, x < 4 → oddL 2 x p = ((par (x &&& p) : Nat) : Int) := by decide +kernel
theorem odd3 : ∀ p, p < 8 → ∀ x, x < 8 → oddL 3 x p = ((par (x &&& p) : Nat) : Int) := by decide +kernel
theorem odd4 : ∀ p, p < 16 → ∀ x, x < 16 → oddL 4 x p = ((par (x &&& p) : Nat) : Int) := by decide +kernel
theorem odd5 : ∀ p, p < 32 → ∀ x, x < 32 → oddL 5 x p = ((par (x &&& p) : Nat) : Int) := by decide +kernel
theorem odd6 : ∀ p, p < 64 → ∀ x, x < 64 → oddL 6 x p = ((par (x &&& p) : Nat) : Int) := by decide +kernel
theorem odd_eq {w p x : Nat} (h : RgW w p) (hx : x < 2 ^ w) : oddL w x p = ((par (x &&& p) : Nat) : Int) := by
  obtain ⟨h1, h2, h3, h4⟩ := h
  match w, h1, h2 with
  | 2, _, _ => exact odd2 p h4 x hx
  | 3, _, _ => exact odd3 p h4 x hx
  | 4, _, _ => exact odd4 p h4 x hx
  | 5, _, _ => exact odd5 p h4 x hx
  | 6, _, _ => exact odd6 p h4 x hx
/-! makers -/
inductive Mk where
  | counter (r s t : Nat)
  | table (ns : List Int)
  | turned (w s : Nat)
  | register (w p s : Nat)
  | slow (n : Nat) (m : Mk)
  | slip (n : Nat) (m : Mk)
  | late (n : Nat) (m : Mk)
def Mk.inn : Mk → Mk
  | .slow _ m => m.inn
  | .slip _ m => m.inn
  | .late _ m => m.inn
  | m => m
def Mk.dep : Mk → Nat
  | .slow _ m => m.dep + 1
  | .slip _ m => m.dep + 1
  | .late _ m => m.dep + 1
  | _ => 0
def Mk.bt : Mk → Int → Int
  | .slow n m, t => m.bt (t / n)
  | .slip n m, t => m.bt (t + t / n)
  | .late n m, t => m.bt (t - n)
  | _, t => t
def lff (n : Nat) : Nat → Nat
  | 0 => 0
  | w + 1 => 2 * lff n w + n / 2 ^ w % 2
noncomputable def Mk.pl : Mk → List Int
  | .counter r s t => (List.range r).map fun i => (((t + s * i) % r : Nat) : Int)
  | .table ns => ns
  | .turned w s => (List.range (2 ^ w)).map fun i => ((lff ((s + i) % 2 ^ w) w : Nat) : Int)
  | .register w p s => (List.range (per w p s)).map fun k => ((regA w p s k : Nat) : Int)
  | _ => []
noncomputable def Mk.rnd : Mk → Nat
  | .slow n m => n * m.rnd
  | .slip n m => n * m.rnd / Nat.gcd m.rnd (n + 1)
  | .late _ m => m.rnd
  | m => m.pl.length
def Mk.Pl : Mk → Prop
  | .counter r s t => 1 ≤ r ∧ r ≤ 64 ∧ s ≤ 64 ∧ t < r
  | .table ns => 1 ≤ ns.length ∧ ns.length ≤ 64 ∧ ∀ x, x ∈ ns → 0 ≤ x ∧ x ≤ 63
  | .turned w s => 1 ≤ w ∧ w ≤ 6 ∧ s < 2 ^ w
  | .register w p s => RgW w p ∧ 1 ≤ s ∧ s < 2 ^ w
  | _ => False
def Mk.Ok : Mk → Prop
  | .slow n m => 1 ≤ n ∧ n ≤ 64 ∧ m.Ok
  | .slip n m => 1 ≤ n ∧ n ≤ 64 ∧ m.Ok
  | .late n m => n ≤ 64 ∧ m.Ok
  | m => m.Pl
def Mk.Top : Mk → Int → Prop
  | .counter r _ _, v => v = r
  | .table ns, v => ∃ M, M ∈ ns ∧ (∀ y, y ∈ ns → y ≤ M) ∧ v = M + 1
  | .turned w _, v => v = ((2 ^ w : Nat) : Int)
  | .register w _ _, v => v = ((2 ^ w : Nat) : Int)
  | _, _ => False
theorem Mk.Top.uniq {m : Mk} {v u : Int} (h : m.Top v) (k : m.Top u) : v = u := by
  cases m with
  | counter r s t => exact h.trans k.symm
  | table ns =>
    obtain ⟨M, h1, h2, rfl⟩ := h
    obtain ⟨N, k1, k2, rfl⟩ := k
    have := h2 N k1
    have := k2 M h1
    omega
  | turned w s => exact h.trans k.symm
  | register w p s => exact h.trans k.symm
  | _ => exact h.elim
noncomputable def Mk.val (m : Mk) (t : Int) : Int := m.inn.pl.getD ((m.bt t) % (m.inn.pl.length : Int)).toNat 0
theorem Mk.Ok.inn : ∀ {m : Mk}, m.Ok → m.inn.Pl
  | .slow _ m, h => Mk.Ok.inn (m := m) h.2.2
  | .slip _ m, h => Mk.Ok.inn (m := m) h.2.2
  | .late _ m, h => Mk.Ok.inn (m := m) h.2
  | .counter _ _ _, h => h
  | .table _, h => h
  | .turned _ _, h => h
  | .register _ _ _, h => h
theorem Mk.Pl.len {m : Mk} (h : m.Pl) : 1 ≤ m.pl.length ∧ m.pl.length ≤ 64 := by
  cases m with
  | counter r s t =>
    obtain ⟨h1, h2, _⟩ := h
    simp only [Mk.pl, List.length_map, List.length_range]
    omega
  | table ns => exact ⟨h.1, h.2.1⟩
  | turned w s =>
    obtain ⟨h1, h2, _⟩ := h
    simp only [Mk.pl, List.length_map, List.length_range]
    exact ⟨Nat.one_le_two_pow, Nat.le_trans (Nat.pow_le_pow_right (by decide) h2) (by decide)⟩
  | register w p s =>
    obtain ⟨h1, h2, h3⟩ := h
    have ip := per_is h1 h3
    simp only [Mk.pl, List.length_map, List.length_range]
    exact ⟨ip.pos, Nat.le_trans ip.le (Nat.le_trans (Nat.pow_le_pow_right (by decide) h1.hi) (by decide))⟩
  | _ => exact h.elim
theorem Mk.inn_dep : ∀ m : Mk, m.inn.dep = 0
  | .slow _ m => Mk.inn_dep m
  | .slip _ m => Mk.inn_dep m
  | .late _ m => Mk.inn_dep m
  | .counter _ _ _ => rfl
  | .table _ => rfl
  | .turned _ _ => rfl
  | .register _ _ _ => rfl
theorem Mk.inn_self : ∀ {m : Mk}, m.dep = 0 → m.inn = m
  | .counter _ _ _, _ => rfl
  | .table _, _ => rfl
  | .turned _ _, _ => rfl
  | .register _ _ _, _ => rfl
/-! makers as they stand -/
def MkAt (H : Hp) : Mk → V → Prop
  | .counter r s t, v => ∃ a, v = .ref a ∧ H a = some (.tup [.str "counter", .int (r : Nat), .int (s : Nat), .int (t : Nat)])
  | .table ns, v => ∃ a b, v = .ref a ∧ H a = some (.tup [.str "table", .ref b]) ∧ H b = some (.tup (ns.map V.int))
  | .turned w s, v => ∃ a, v = .ref a ∧ H a = some (.tup [.str "turned", .int (w : Nat), .int (s : Nat)])
  | .register w p s, v => ∃ a, v = .ref a ∧ H a = some (.tup [.str "register", .int (w : Nat), .int (p : Nat), .int (s : Nat)])
  | .slow n m, v => ∃ a x, v = .ref a ∧ H a = some (.tup [.str "slow", .int (n : Nat), x]) ∧ MkAt H m x
  | .slip n m, v => ∃ a x, v = .ref a ∧ H a = some (.tup [.str "slip", .int (n : Nat), x]) ∧ MkAt H m x
  | .late n m, v => ∃ a x, v = .ref a ∧ H a = some (.tup [.str "late", .int (n : Nat), x]) ∧ MkAt H m x
theorem MkAt.keep {H H' : Hp} (s : ∀ a xs, H a = some (.tup xs) → H' a = some (.tup xs)) : ∀ {m : Mk} {v : V}, MkAt H m v → MkAt H' m v
  | .counter _ _ _, _, ⟨a, e, h⟩ => ⟨a, e, s _ _ h⟩
  | .table _, _, ⟨a, b, e, h, k⟩ => ⟨a, b, e, s _ _ h, s _ _ k⟩
  | .turned _ _, _, ⟨a, e, h⟩ => ⟨a, e, s _ _ h⟩
  | .register _ _ _, _, ⟨a, e, h⟩ => ⟨a, e, s _ _ h⟩
  | .slow _ m, _, ⟨a, x, e, h, k⟩ => ⟨a, x, e, s _ _ h, MkAt.keep s (m := m) k⟩
  | .slip _ m, _, ⟨a, x, e, h, k⟩ => ⟨a, x, e, s _ _ h, MkAt.keep s (m := m) k⟩
  | .late _ m, _, ⟨a, x, e, h, k⟩ => ⟨a, x, e, s _ _ h, MkAt.keep s (m := m) k⟩
theorem MkAt.same {H H' : Hp} {m : Mk} {v : V} (h : MkAt H m v) (s : Same H H') : MkAt H' m v := h.keep fun _ _ e => s _ _ e
theorem MkAt.but {H H' : Hp} {m : Mk} {v : V} {p : Addr} {n : Nat} (h : MkAt H m v) (B : Bx H p n) (s : But p H H') : MkAt H' m v := h.keep fun _ _ e => s _ _ (B.ne_tup e) e
def inW (z : Str) : Bool := inV (.str z) [.str "slow", .str "slip", .str "late"]
theorem inW_slow : inW "slow" = true := by decide +kernel
theorem inW_slip : inW "slip" = true := by decide +kernel
theorem inW_late : inW "late" = true := by decide +kernel
theorem inW_counter : inW "counter" = false := by decide +kernel
theorem inW_table : inW "table" = false := by decide +kernel
theorem inW_turned : inW "turned" = false := by decide +kernel
theorem inW_register : inW "register" = false := by decide +kernel
/-- what stands around a maker -/
structure Around1 (m : Mk) (z : Str) (n : Nat) (m' : Mk) : Prop where
  word : (z = "slow" ∧ m = .slow n m') ∨ (z = "slip" ∧ m = .slip n m') ∨ (z = "late" ∧ m = .late n m')
theorem MkAt.shape {H : Hp} {m : Mk} {v : V} (h : MkAt H m v) : (∃ z n m' a x, v = .ref a ∧ H a = some (.tup [.str z, .int (n : Nat), x]) ∧ MkAt H m' x ∧ Around1 m z n m' ∧ inW z = true) ∨ (m.dep = 0 ∧ ∃ a z xs, v = .ref a ∧ H a = some (.tup (.str z :: xs)) ∧ inW z = false) := by
  cases m with
  | counter r s t => obtain ⟨a, e, h⟩ := h; exact .inr ⟨rfl, a, _, _, e, h, inW_counter⟩
  | table ns => obtain ⟨a, b, e, h, _⟩ := h; exact .inr ⟨rfl, a, _, _, e, h, inW_table⟩
  | turned w s => obtain ⟨a, e, h⟩ := h; exact .inr ⟨rfl, a, _, _, e, h, inW_turned⟩
  | register w p s => obtain ⟨a, e, h⟩ := h; exact .inr ⟨rfl, a, _, _, e, h, inW_register⟩
  | slow n m => obtain ⟨a, x, e, h, k⟩ := h; exact .inl ⟨_, n, m, a, x, e, h, k, ⟨.inl ⟨rfl, rfl⟩⟩, inW_slow⟩
  | slip n m => obtain ⟨a, x, e, h, k⟩ := h; exact .inl ⟨_, n, m, a, x, e, h, k, ⟨.inr (.inl ⟨rfl, rfl⟩)⟩, inW_slip⟩
  | late n m => obtain ⟨a, x, e, h, k⟩ := h; exact .inl ⟨_, n, m, a, x, e, h, k, ⟨.inr (.inr ⟨rfl, rfl⟩)⟩, inW_late⟩
theorem Around1.dep {m m' : Mk} {z : Str} {n : Nat} (h : Around1 m z n m') : m.dep = m'.dep + 1 ∧ m.inn = m'.inn := by
  rcases h.word with ⟨_, rfl⟩ | ⟨_, rfl⟩ | ⟨_, rfl⟩ <;> exact ⟨rfl, rfl⟩
def sp_innermost (_ : PySem.W.Frag) : Sp := fun vs H Q _ => ∃ m v, vs = [v] ∧ MkAt H m v ∧ ∀ H' u, Same H H' → MkAt H' m.inn u → Q u H'
def sp_inner_beat (_ : PySem.W.Frag) : Sp := fun vs H Q _ => ∃ m v t, vs = [v, .int t] ∧ MkAt H m v ∧ m.Ok ∧ ∀ H', Same H H' → Q (.int (m.bt t)) H'
/-! the program: numbers of plain makers -/
theorem is_pos {n : Nat} (h : 1 ≤ n) : (0 : Int) < (n : Int) := by omega
def sp_counter_round (_ : PySem.W.Frag) : Sp := fun vs H Q _ => ∃ r s t : Nat, vs = [.int (r : Nat), .int (s : Nat), .int (t : Nat)] ∧ 1 ≤ r ∧ r ≤ 64 ∧ s ≤ 64 ∧ t < r ∧
  ∀ H' p, Same H H' → H p = none → H' p = some (.lst ((Mk.counter r s t).pl.map V.int)) → Q (.ref p) H'
theorem ok_counter_round (T : Defs K mg) (TT : Tabs T base) : FnOk P w K mg base CX0 1 T.f_counter_round T.fd_counter_round ["size", "step", "start"] (sp_counter_round K) := by
  refine T.F_counter_round.ok sc_counter_round (fun vs H Q E h => ?_) (fun cdv A outer s H vs Q E hr h => ?_)
  · obtain ⟨r, s', t, rfl, r1, r2, s2, t2, q⟩ := h
    rfl
  · obtain ⟨r, s', t, rfl, r1, r2, s2, t2, q⟩ := h
    refine ⟨_, PSs.nox (pss_one (ps_ret (pe_lc (own := [("t", 3)]) (g := gName 3) (tt := tYes) rfl sc_counter_round.nd (pi_range1 (by rfl) T.m_range (pa_cons (pv 0) pa_nil)) (blkOk_by (N := N_counter_round) (sc := defScope s_counter_round) (by decide +kernel)) (fun _ _ _ _ _ => (pg_name (i := 3) sc_counter_round.nd rfl (.inl rfl))) (fun _ _ _ _ _ => pts_nil) (fun _ _ _ _ _ => (pe_op op_mod (pe_op op_add (pv 2) (pe_op op_mul (pv 1) (pv 3))) (pv 0)))))), ?_⟩
    have hsl : sizeLine = 16777216 := by decide
    refine ⟨.int (r : Nat), rfl, (r : Nat), rfl, by omega, by omega, fun D nD => ?_⟩
    refine lc_range (fun i H1 => Same H H1 ∧ H1 D = some (.lst (((List.range i).map fun i => (((t + s' * i) % r : Nat) : Int)).map V.int))) ⟨same_upd nD, upd_same⟩ (fun i H1 hi h => ?_) (fun H1 h => ?_)
    · obtain ⟨s1, hD⟩ := h
      have hi : i < r := by omega
      refine ⟨rfl, yes_ite ?_⟩
      refine ⟨.int (t : Nat), rfl, .int (s' : Nat), rfl, _, rfl, _, _, rfl, rfl, .inl ⟨by omega, by omega⟩, _, _, rfl, rfl, .int (r : Nat), rfl, _, _, rfl, rfl, is_pos r1, ?_⟩
      refine ⟨_, hD, by rw [List.length_map, List.length_map, List.length_range]; omega, same_newer s1 nD, ?_⟩
      rw [upd_same, List.range_succ, List.map_append, List.map_append]
      have e : ((t : Int) + (s' : Int) * (0 + (i : Int))) % (r : Int) = (((t + s' * i) % r : Nat) : Int) := by
        rw [Int.zero_add, Int.natCast_emod, Int.natCast_add, Int.natCast_mul]
      dsimp only
      rw [e]
      rfl
    · obtain ⟨s1, hD⟩ := h
      rw [Int.toNat_natCast] at hD
      exact q H1 D s1 nD hD
def sp_last_for_first (_ : PySem.W.Frag) : Sp := fun vs H Q _ => ∃ n w : Nat, vs = [.int (n : Nat), .int (w : Nat)] ∧ w ≤ 64 ∧ Q (.int (lff n w : Nat)) H
theorem bit_and (n i : Nat) : Builtin.bitAnd ((n : Int) / 2 ^ ((0 : Int) + (i : Int)).toNat) 1 = ((n / 2 ^ i % 2 : Nat) : Int) := by
  rw [Int.zero_add, Int.toNat_natCast]
  have h := _root_.Bits.bit_at (x := (n : Int)) i
  rw [Int.fdiv_eq_ediv_of_nonneg _ (by exact Int.le_of_lt (Int.pow_pos (by decide)))] at h
  rw [h]
  have e : ((2 : Int) ^ i) = ((2 ^ i : Nat) : Int) := by rw [Int.natCast_pow]; rfl
  rw [e]
  omega
theorem ok_last_for_first (T : Defs K mg) (TT : Tabs T base) : FnOk P w K mg base CX0 1 T.f_last_for_first T.fd_last_for_first ["number", "wide"] (sp_last_for_first K) := by
  refine T.F_last_for_first.ok sc_last_for_first (fun vs H Q E h => ?_) (fun cdv A outer s H vs Q E hr h => ?_)
  · obtain ⟨n, w', rfl, hw, q⟩ := h
    rfl
  · obtain ⟨n, w', rfl, hw, q⟩ := h
    refine ⟨_, PSs.nox (pss_cons (ps_set (i := 2) sc_last_for_first.nd rfl (.inl rfl) pe_int)
    (pss_cons ((ps_for PassesOwn.never rfl (pi_range1 (by rfl) T.m_range (pa_cons (pv 1) pa_nil)) (pg_name (i := 3) sc_last_for_first.nd rfl (.inl rfl)) (pss_one (ps_set (i := 2) sc_last_for_first.nd rfl (.inl rfl) (pe_op op_add (pe_op op_mul pe_int (pv 2)) (pe_op op_and (pe_op op_shr (pv 0) (pv 3)) pe_int))))))
    (pss_one (ps_ret (pv 2))))), ?_⟩
    refine ⟨.int (w' : Nat), rfl, (w' : Nat), rfl, by omega, by omega, for_range (fun i σ G => ∃ y3, σ = [some (.int (n : Nat)), some (.int (w' : Nat)), some (.int (lff n i : Nat)), y3] ∧ G = H) ⟨none, rfl, rfl⟩ ?_ ?_⟩
    · rintro i σ G hi ⟨y3, rfl, rfl⟩
      refine ⟨_, rfl, _, _, rfl, rfl, .inl ⟨by decide, by decide⟩, .int (n : Nat), rfl, .int (0 + (i : Int)), rfl, _, _, rfl, rfl, (show (0 : Int) ≤ 0 + (i : Int) by omega), _, _, rfl, rfl, _, _, rfl, rfl, some (.int (0 + (i : Int))), ?_, rfl⟩
      try dsimp only
      rw [bit_and]
      rfl
    · rintro σ G ⟨y3, rfl, rfl⟩
      rw [Int.toNat_natCast]
      exact ⟨_, rfl, q⟩
theorem two_pow6 {w : Nat} (h : w ≤ 6) : 1 ≤ 2 ^ w ∧ 2 ^ w ≤ 64 := ⟨Nat.one_le_two_pow, Nat.le_trans (Nat.pow_le_pow_right (by decide) h) (by decide)⟩
theorem shl_one (w : Nat) : (1 : Int) * 2 ^ ((w : Nat) : Int).toNat = ((2 ^ w : Nat) : Int) := by
  rw [Int.toNat_natCast, Int.one_mul, Int.natCast_pow]
  rfl
def sp_size_of (_ : PySem.W.Frag) : Sp := fun vs H Q _ => ∃ w : Nat, vs = [.int (w : Nat)] ∧ w ≤ 6 ∧ Q (.int ((2 ^ w : Nat) : Int)) H
theorem ok_size_of (T : Defs K mg) (TT : Tabs T base) : FnOk P w K mg base CX0 1 T.f_size_of T.fd_size_of ["wide"] (sp_size_of K) := by
  refine T.F_size_of.ok sc_size_of (fun vs H Q E h => ?_) (fun cdv A outer s H vs Q E hr h => ?_)
  · obtain ⟨w', rfl, hw, q⟩ := h
    rfl
  · obtain ⟨w', rfl, hw, q⟩ := h
    refine ⟨_, PSs.nox (pss_one (ps_ret (pe_op op_shl pe_int (pe_callB (call_max2 rfl) (by rfl) T.m_max bt_max (pa_cons (pv 0) (pa_cons pe_int pa_nil)))))), ?_⟩
    have e0 : (if (0 : Int) > (w' : Int) then (0 : Int) else (w' : Int)) = (w' : Int) := if_neg (by omega)
    refine ⟨.int (w' : Nat), rfl, _, _, rfl, ?_⟩
    try dsimp only
    rw [e0]
    refine ⟨_, _, rfl, rfl, ⟨(show (0 : Int) ≤ (w' : Int) by omega), (show (w' : Int) ≤ 1000000 by omega), by decide⟩, ?_⟩
    try dsimp only
    rw [shl_one]
    exact q
def sp_turned_round (_ : PySem.W.Frag) : Sp := fun vs H Q _ => ∃ w s : Nat, vs = [.int (w : Nat), .int (s : Nat)] ∧ 1 ≤ w ∧ w ≤ 6 ∧ s < 2 ^ w ∧
  ∀ H' p, Same H H' → H p = none → H' p = some (.lst ((Mk.turned w s).pl.map V.int)) → Q (.ref p) H'
theorem ok_turned_round (T : Defs K mg) (TT : Tabs T base) : FnOk P w K mg base CX0 2 T.f_turned_round T.fd_turned_round ["wide", "start"] (sp_turned_round K) := by
  have G_size_of : FnOk P w K mg base CX0 1 T.f_size_of T.fd_size_of ["wide"] (sp_size_of K) := ok_size_of T TT
  have G_last_for_first : FnOk P w K mg base CX0 1 T.f_last_for_first T.fd_last_for_first ["number", "wide"] (sp_last_for_first K) := ok_last_for_first T TT
  refine T.F_turned_round.ok sc_turned_round (fun vs H Q E h => ?_) (fun cdv A outer s H vs Q E hr h => ?_)
  · obtain ⟨w', s', rfl, w1, w2, hs, q⟩ := h
    rfl
  · obtain ⟨w', s', rfl, w1, w2, hs, q⟩ := h
    refine ⟨_, PSs.nox (pss_cons (ps_set (i := 2) sc_turned_round.nd rfl (.inr rfl) (pe_call G_size_of (hr.mono (by decide)) (by rfl) T.g_size_of T.F_size_of.kp T.b_size_of .nil pass0 (pa_cons (pv 0) pa_nil)))
    (pss_one (ps_ret (pe_lc (own := [("t", 3)]) (g := gName 3) (tt := tYes) rfl sc_turned_round.nd (pi_range1 (by rfl) T.m_range (pa_cons (pv 2) pa_nil)) (blkOk_by (N := N_turned_round) (sc := defScope s_turned_round) (by decide +kernel)) (fun _ _ _ _ _ => (pg_name (i := 3) sc_turned_round.nd rfl (.inl rfl))) (fun _ _ _ _ _ => pts_nil) (fun _ _ _ _ _ => (pe_call G_last_for_first (hr.mono (by decide)) (by rfl) T.g_last_for_first T.F_last_for_first.kp T.b_last_for_first .nil pass0 (pa_cons (pe_op op_mod (pe_op op_add (pv 1) (pv 3)) (pv 2)) (pa_cons (pv 0) pa_nil)))))))), ?_⟩
    have hsl : sizeLine = 16777216 := by decide
    have tp := two_pow6 w2
    refine ⟨.int (w' : Nat), rfl, w', rfl, w2, ?_⟩
    refine ⟨.int ((2 ^ w' : Nat) : Int), rfl, _, rfl, by omega, by omega, fun D nD => ?_⟩
    refine lc_range (fun i H1 => Same H H1 ∧ H1 D = some (.lst (((List.range i).map fun i => ((lff ((s' + i) % 2 ^ w') w' : Nat) : Int)).map V.int))) ⟨same_upd nD, upd_same⟩ (fun i H1 hi h => ?_) (fun H1 h => ?_)
    · obtain ⟨s1, hD⟩ := h
      have hi : i < 2 ^ w' := by omega
      refine ⟨rfl, yes_ite ?_⟩
      have e : ((s' : Int) + (0 + (i : Int))) % ((2 ^ w' : Nat) : Int) = (((s' + i) % 2 ^ w' : Nat) : Int) := by
        rw [Int.zero_add, Int.natCast_emod, Int.natCast_add]
      refine ⟨.int (s' : Nat), rfl, _, rfl, _, _, rfl, rfl, .int ((2 ^ w' : Nat) : Int), rfl, _, _, rfl, rfl, is_pos tp.1, .int (w' : Nat), rfl, (s' + i) % 2 ^ w', w', congrArg (fun z => [V.int z, V.int ((w' : Nat) : Int)]) e, by omega, ?_⟩
      refine ⟨_, hD, by rw [List.length_map, List.length_map, List.length_range]; omega, same_newer s1 nD, ?_⟩
      rw [upd_same, List.range_succ, List.map_append, List.map_append]
      rfl
    · obtain ⟨s1, hD⟩ := h
      rw [Int.toNat_natCast] at hD
      exact q H1 D s1 nD hD
theorem xor01 {o b : Nat} (ho : o < 2) (hb : b < 2) : Builtin.bitXor (o : Int) (b : Int) = (((o + b) % 2 : Nat) : Int) := by
  match o, b, ho, hb with
  | 0, 0, _, _ => decide
  | 0, 1, _, _ => decide
  | 1, 0, _, _ => decide
  | 1, 1, _, _ => decide
theorem and_one (x : Nat) : Builtin.bitAnd (x : Int) 1 = ((x % 2 : Nat) : Int) := by
  have h := _root_.Bits.bit_at (x := (x : Int)) 0
  rw [Int.pow_zero, Int.fdiv_one] at h
  rw [h, Int.ediv_one]
  omega
theorem parF_zero : ∀ f, parF f 0 = 0
  | 0 => rfl
  | f + 1 => by
    show (0 % 2 + parF f (0 / 2)) % 2 = 0
    rw [Nat.zero_div, parF_zero f]
def sp_odd_ones (_ : PySem.W.Frag) : Sp := fun vs H Q _ => ∃ n : Nat, vs = [.int (n : Nat)] ∧ n < 2 ^ 7 ∧ Q (.int (par n : Nat)) H
theorem ok_odd_ones (T : Defs K mg) (TT : Tabs T base) : FnOk P w K mg base CX0 1 T.f_odd_ones T.fd_odd_ones ["number"] (sp_odd_ones K) := by
  refine T.F_odd_ones.ok sc_odd_ones (fun vs H Q E h => ?_) (fun cdv A outer s H vs Q E hr h => ?_)
  · obtain ⟨n, rfl, hn, q⟩ := h
    rfl
  · obtain ⟨n, rfl, hn, q⟩ := h
    refine ⟨_, PSs.nox (pss_cons (ps_set (i := 1) sc_odd_ones.nd rfl (.inl rfl) pe_int)
    (pss_cons (ps_while PassesOwn.never (pt_cmpR op_gt (pv 0) pe_int (nomark _)) (pss_cons (ps_set (i := 1) sc_odd_ones.nd rfl (.inl rfl) (pe_op op_xor (pv 1) (pe_op op_and (pv 0) pe_int)))
    (pss_one (ps_set (i := 0) sc_odd_ones.nd rfl (.inl rfl) (pe_op op_shr (pv 0) pe_int)))))
    (pss_one (ps_ret (pv 1))))), ?_⟩
    refine ⟨fun k σ H1 => ∃ x o f : Nat, x = k ∧ σ = [some (.int (x : Nat)), some (.int (o : Nat))] ∧ H1 = H ∧ x < 2 ^ f ∧ o < 2 ∧ (o + parF f x) % 2 = par n, ⟨n, n, 0, 7, rfl, rfl, rfl, hn, by decide, by rw [Nat.zero_add]; exact Nat.mod_eq_of_lt (par_lt n)⟩, ?_⟩
    rintro k σ H1 ⟨x, o, f, rfl, rfl, rfl, hx, ho, he⟩
    refine ⟨.int (x : Nat), rfl, _, _, rfl, rfl, _, rfl, ite2 (fun e => ⟨_, fun σ' H' h => h, ?_⟩) (fun e => ?_)⟩
    · have x0 : (0 : Int) < (x : Int) := of_decide_eq_true e
      match f, hx, he with
      | 0, hx, _ =>
        exfalso
        have : x < 1 := hx
        omega
      | f + 1, hx, he =>
        refine ⟨.int (o : Nat), rfl, .int (x : Nat), rfl, _, _, rfl, rfl, _, _, rfl, rfl, ?_⟩
        refine ⟨.int (x : Nat), rfl, _, _, rfl, rfl, (show (0 : Int) ≤ 1 by decide), ?_⟩
        refine ⟨x / 2, by omega, x / 2, (o + x % 2) % 2, f, rfl, ?_, rfl, by rw [Nat.pow_succ] at hx; omega, Nat.mod_lt _ (by decide), ?_⟩
        · have e1 : (x : Int) / 2 ^ (1 : Int).toNat = ((x / 2 : Nat) : Int) := by
            show (x : Int) / 2 ^ 1 = _
            omega
          try dsimp only
          rw [and_one, xor01 ho (Nat.mod_lt _ (by decide)), e1]
          rfl
        · have : (o + (x % 2 + parF f (x / 2)) % 2) % 2 = par n := he
          omega
    · have x0 : x = 0 := by
        have : ¬ (0 : Int) < (x : Int) := fun z => e (decide_eq_true z)
        omega
      subst x0
      rw [parF_zero, Nat.add_zero, Nat.mod_eq_of_lt ho] at he
      subst he
      exact ⟨_, rfl, q⟩
theorem and_nat (x p : Nat) : Builtin.bitAnd (x : Int) (p : Int) = ((x &&& p : Nat) : Int) := by
  rw [PyProof.Rows.bitAnd_pp (by omega) (by omega), Int.toNat_natCast, Int.toNat_natCast]
def sp_held_round (_ : PySem.W.Frag) : Sp := fun vs H Q _ => ∃ w p s : Nat, vs = [.int (w : Nat), .int (p : Nat), .int (s : Nat)] ∧ (Mk.register w p s).Pl ∧
  ∀ H' a, Same H H' → H a = none → H' a = some (.lst ((Mk.register w p s).pl.map V.int)) → Q (.ref a) H'
theorem step_eq {w x p : Nat} : (2 : Int) * (x : Int) % ((2 ^ w : Nat) : Int) + ((par (x &&& p) : Nat) : Int) = ((regS w p x : Nat) : Int) := by
  unfold regS
  rw [Int.natCast_add, Int.natCast_emod, Int.natCast_mul]
  rfl
theorem ok_held_round (T : Defs K mg) (TT : Tabs T base) : FnOk P w K mg base CX0 2 T.f_held_round T.fd_held_round ["wide", "taps", "start"] (sp_held_round K) := by
  have G_size_of : FnOk P w K mg base CX0 1 T.f_size_of T.fd_size_of ["wide"] (sp_size_of K) := ok_size_of T TT
  have G_odd_ones : FnOk P w K mg base CX0 1 T.f_odd_ones T.fd_odd_ones ["number"] (sp_odd_ones K) := ok_odd_ones T TT
  refine T.F_held_round.ok sc_held_round (fun vs H Q E h => ?_) (fun cdv A outer s H vs Q E hr h => ?_)
  · obtain ⟨w', p', s', rfl, ⟨hw, s1, s2⟩, q⟩ := h
    rfl
  · obtain ⟨w', p', s', rfl, ⟨hw, s1, s2⟩, q⟩ := h
    refine ⟨_, PSs.nox (pss_cons (ps_set (i := 3) sc_held_round.nd rfl (.inl rfl) (pe_call G_size_of (hr.mono (by decide)) (by rfl) T.g_size_of T.F_size_of.kp T.b_size_of .nil pass0 (pa_cons (pv 0) pa_nil)))
    (pss_cons (ps_set (i := 4) sc_held_round.nd rfl (.inl rfl) (pe_lst pa_nil))
    (pss_cons (ps_set (i := 5) sc_held_round.nd rfl (.inl rfl) (pv 2))
    (pss_cons (ps_while PassesOwn.never (PW.pt (pw_and (pt_cmpR op_lt (pe_callB call_len_seq (by rfl) T.m_len bt_len (pa_cons (pv 4) pa_nil)) (pv 3) (nomark _)) (pw_and1 (PW.pt (pw_or (pt_cmpR op_ne (pv 5) (pv 2) (nomark _)) (pw_or1 (pt_not (pt_truth (pv 4) (by intro _; rfl))))))))) (pss_cons (ps_expr (pe_bm PySem.F.plainAttrs_list PySem.F.slot_list_append PySem.F.type_list_append mt_append (pv 4) (pa_cons (pv 5) pa_nil)))
    (pss_one (ps_set (i := 5) sc_held_round.nd rfl (.inl rfl) (pe_op op_add (pe_op op_mod (pe_op op_mul pe_int (pv 5)) (pv 3)) (pe_call G_odd_ones (hr.mono (by decide)) (by rfl) T.g_odd_ones T.F_odd_ones.kp T.b_odd_ones .nil pass0 (pa_cons (pe_op op_and (pv 5) (pv 1)) pa_nil)))))))
    (pss_one (ps_ret (pv 4))))))), ?_⟩
    have hsl : sizeLine = 16777216 := by decide
    have tp := two_pow6 hw.hi
    have ip := per_is hw s2
    refine ⟨.int (w' : Nat), rfl, w', rfl, hw.hi, ?_⟩
    obtain ⟨n, hn⟩ : ∃ n, 2 ^ w' = n := ⟨_, rfl⟩
    rw [hn] at tp ⊢
    refine ⟨Nat.zero_le _, fun l nl => ?_⟩
    refine ⟨.int (s' : Nat), rfl, ?_⟩
    refine ⟨fun m σ H1 => ∃ k : Nat, m = n - k ∧ k ≤ n ∧ σ = [some (.int (w' : Nat)), some (.int (p' : Nat)), some (.int (s' : Nat)), some (.int (n : Nat)), some (.ref l), some (.int (regA w' p' s' k : Nat))] ∧ Same H H1 ∧ H1 l = some (.lst (((List.range k).map fun k => ((regA w' p' s' k : Nat) : Int)).map V.int)) ∧ ∀ j, 0 < j → j < k → regA w' p' s' j ≠ s', ⟨n, 0, by omega, by omega, rfl, same_upd nl, upd_same, fun j h0 h1 => by omega⟩, ?_⟩
    rintro m σ H1 ⟨k, rfl, hk, rfl, sH, hl, hf⟩
    have ll : (((List.range k).map fun k => ((regA w' p' s' k : Nat) : Int)).map V.int).length = k := by rw [List.length_map, List.length_map, List.length_range]
    have done : IsPer w' p' s' k → Q (.ref l) H1 := fun h => q H1 l sH nl (by
      rw [hl]
      show _ = some (HO.lst (((List.range (per w' p' s')).map fun k => ((regA w' p' s' k : Nat) : Int)).map V.int))
      rw [per_eq hw s2 h])
    have alt : regA w' p' s' k < 2 ^ w' := regA_lt hw s2 k
    have go : k < n → ∃ v, some (V.ref l) = some v ∧ True := fun _ => ⟨_, rfl, trivial⟩
    clear go
    refine ⟨.ref l, rfl, l, _, rfl, .inl (SqL.mk hl), .int (n : Nat), rfl, _, _, rfl, rfl, _, rfl, ?_⟩
    rw [ll]
    have body : ∀ (b : Prop), k < n → b → k < n := fun _ h _ => h
    clear body
    by_cases kn : k < n
    · rw [decide_eq_true (show (k : Int) < (n : Int) by omega)]
      refine iteT ?_
      refine ⟨_, rfl, .int (s' : Nat), rfl, rfl, _, rfl, ?_⟩
      by_cases es : regA w' p' s' k = s'
      · rw [show (!decide (V.int ((regA w' p' s' k : Nat) : Int) = V.int ((s' : Nat) : Int))) = false by rw [es, decide_eq_true rfl]; rfl]
        refine iteF ?_
        refine ⟨.ref l, rfl, _, .inl ⟨_, SqL.mk hl, rfl⟩, ?_⟩
        match k, kn, hk, hl, hf, done, alt, es with
        | 0, kn, hk, hl, hf, done, alt, es =>
          refine iteT ⟨_, fun σ' H' h => h, ?_⟩
          refine ⟨.ref l, rfl, .inl ⟨rfl, _, SqL.mk hl⟩, _, rfl, l, _, _, rfl, rfl, hl, (show 0 < sizeLine by decide), ?_⟩
          refine ⟨_, rfl, _, _, rfl, rfl, .inl ⟨by decide, by decide⟩, .int (n : Nat), rfl, _, _, rfl, rfl, is_pos tp.1, _, rfl, .int (p' : Nat), rfl, _, _, rfl, rfl, (regA w' p' s' 0 &&& p'), congrArg (fun z => [V.int z]) (and_nat _ _), Nat.lt_of_le_of_lt Nat.and_le_left (Nat.lt_of_lt_of_le alt (Nat.pow_le_pow_right (by decide) (by have := hw.hi; omega))), _, _, rfl, rfl, ?_⟩
          refine ⟨n - 1, by omega, 1, rfl, by omega, ?_, same_newer sH nl, by rw [upd_same]; rfl, fun j h0 h1 => by omega⟩
          try dsimp only
          rw [← hn, step_eq]
          rfl
        | k + 1, kn, hk, hl, hf, done, alt, es =>
          have nz : (!(((List.range (k + 1)).map fun k => ((regA w' p' s' k : Nat) : Int)).map V.int).isEmpty) = true := by
            rw [List.range_succ_eq_map]
            rfl
          rw [nz]
          refine iteF ?_
          exact ⟨.ref l, rfl, done ⟨by omega, by omega, es, hf⟩⟩
      · rw [show (!decide (V.int ((regA w' p' s' k : Nat) : Int) = V.int ((s' : Nat) : Int))) = true by
          rw [decide_eq_false (fun z => es (by have := V.int.inj z; omega))]
          rfl]
        refine iteT (iteT ⟨_, fun σ' H' h => h, ?_⟩)
        refine ⟨.ref l, rfl, .inl ⟨rfl, _, SqL.mk hl⟩, _, rfl, l, _, _, rfl, rfl, hl, by rw [ll]; omega, ?_⟩
        refine ⟨_, rfl, _, _, rfl, rfl, .inl ⟨by decide, by decide⟩, .int (n : Nat), rfl, _, _, rfl, rfl, is_pos tp.1, _, rfl, .int (p' : Nat), rfl, _, _, rfl, rfl, (regA w' p' s' k &&& p'), congrArg (fun z => [V.int z]) (and_nat _ _), Nat.lt_of_le_of_lt Nat.and_le_left (Nat.lt_of_lt_of_le alt (Nat.pow_le_pow_right (by decide) (by have := hw.hi; omega))), _, _, rfl, rfl, ?_⟩
        refine ⟨n - (k + 1), by omega, k + 1, rfl, by omega, ?_, same_newer sH nl, ?_, fun j h0 h1 => ?_⟩
        · try dsimp only
          rw [← hn, step_eq]
          rfl
        · rw [upd_same, List.range_succ, List.map_append, List.map_append]
          rfl
        · by_cases z : j = k
          · rw [z]
            exact es
          · exact hf j h0 (by omega)
    · rw [decide_eq_false (show ¬ (k : Int) < (n : Int) by omega)]
      refine iteF (iteF ?_)
      have kp : per w' p' s' = k := by
        have h1 := ip.le
        have h2 : ¬ per w' p' s' < k := fun z => hf _ ip.pos z ip.back
        omega
      refine ⟨.ref l, rfl, done ?_⟩
      rw [← kp]
      exact ip
def sp_plain_round (_ : PySem.W.Frag) : Sp := fun vs H Q _ => ∃ m v, vs = [v] ∧ MkAt H m v ∧ m.Pl ∧
  ∀ H' p, Same H H' → H p = none → H' p = some (.lst (m.pl.map V.int)) → Q (.ref p) H'
theorem ok_plain_round (T : Defs K mg) (TT : Tabs T base) : FnOk P w K mg base CX0 3 T.f_plain_round T.fd_plain_round ["maker"] (sp_plain_round K) := by
  have G_counter_round : FnOk P w K mg base CX0 1 T.f_counter_round T.fd_counter_round ["size", "step", "start"] (sp_counter_round K) := ok_counter_round T TT
  have G_turned_round : FnOk P w K mg base CX0 2 T.f_turned_round T.fd_turned_round ["wide", "start"] (sp_turned_round K) := ok_turned_round T TT
  have G_held_round : FnOk P w K mg base CX0 2 T.f_held_round T.fd_held_round ["wide", "taps", "start"] (sp_held_round K) := ok_held_round T TT
  refine T.F_plain_round.ok sc_plain_round (fun vs H Q E h => ?_) (fun cdv A outer s H vs Q E hr h => ?_)
  · obtain ⟨m, v, rfl, hm, pl, q⟩ := h
    rfl
  · obtain ⟨m, v, rfl, hm, pl, q⟩ := h
    refine ⟨_, PSs.nox (pss_one (ps_match (pv 0) (pcs_seq rfl sc_plain_round.nd pe_str (pcap_cons (i := 1) rfl (.inl rfl) (pcap_cons (i := 2) rfl (.inl rfl) (pcap_cons (i := 3) rfl (.inl rfl) pcap_nil))) (pss_one (ps_ret (pe_call G_counter_round (hr.mono (by decide)) (by rfl) T.g_counter_round T.F_counter_round.kp T.b_counter_round .nil pass0 (pa_cons (pv 1) (pa_cons (pv 2) (pa_cons (pv 3) pa_nil))))))
    (pcs_seq rfl sc_plain_round.nd pe_str (pcap_cons (i := 4) rfl (.inl rfl) (pcap_cons (i := 3) rfl (.inl rfl) pcap_nil)) (pss_one (ps_ret (pe_call G_turned_round (hr.mono (by decide)) (by rfl) T.g_turned_round T.F_turned_round.kp T.b_turned_round .nil pass0 (pa_cons (pv 4) (pa_cons (pv 3) pa_nil)))))
    (pcs_seq rfl sc_plain_round.nd pe_str (pcap_cons (i := 4) rfl (.inl rfl) (pcap_cons (i := 5) rfl (.inl rfl) (pcap_cons (i := 3) rfl (.inl rfl) pcap_nil))) (pss_one (ps_ret (pe_call G_held_round (hr.mono (by decide)) (by rfl) T.g_held_round T.F_held_round.kp T.b_held_round .nil pass0 (pa_cons (pv 4) (pa_cons (pv 5) (pa_cons (pv 3) pa_nil))))))
    (pcs_seq rfl sc_plain_round.nd pe_str (pcap_cons (i := 6) rfl (.inl rfl) pcap_nil) (pss_one (ps_ret (pe_callTy call_list_of (by rfl) T.m_list bt_list (pa_cons (pv 6) pa_nil))))
    pcs_nil)))))), ?_⟩
    cases m with
    | counter r s' t =>
      obtain ⟨a, rfl, ha⟩ := hm
      refine ⟨.ref a, rfl, a, _, rfl, SqT.mk ha, .inr ⟨_, _, rfl, rfl, .inl ⟨rfl, ?_⟩⟩⟩
      exact ⟨.int (r : Nat), rfl, .int (s' : Nat), rfl, .int (t : Nat), rfl, r, s', t, rfl, pl.1, pl.2.1, pl.2.2.1, pl.2.2.2, q⟩
    | turned w' s' =>
      obtain ⟨a, rfl, ha⟩ := hm
      refine ⟨.ref a, rfl, a, _, rfl, SqT.mk ha, .inl ⟨by simp, .inr ⟨_, _, rfl, rfl, .inl ⟨rfl, ?_⟩⟩⟩⟩
      exact ⟨.int (w' : Nat), rfl, .int (s' : Nat), rfl, w', s', rfl, pl.1, pl.2.1, pl.2.2, q⟩
    | table ns =>
      obtain ⟨a, b, rfl, ha, hb⟩ := hm
      refine ⟨.ref a, rfl, a, _, rfl, SqT.mk ha, .inl ⟨by simp, .inl ⟨by simp, .inl ⟨by simp, .inr ⟨_, _, rfl, rfl, .inl ⟨rfl, ?_⟩⟩⟩⟩⟩⟩
      exact ⟨.ref b, rfl, b, _, rfl, .inr (SqT.mk hb), fun l nl => q _ l (same_upd nl) nl upd_same⟩
    | register w' p' s' =>
      obtain ⟨a, rfl, ha⟩ := hm
      refine ⟨.ref a, rfl, a, _, rfl, SqT.mk ha, .inr ⟨_, _, rfl, rfl, .inr ⟨by decide +kernel, .inl ⟨by simp, .inr ⟨_, _, rfl, rfl, .inl ⟨rfl, ?_⟩⟩⟩⟩⟩⟩
      exact ⟨.int (w' : Nat), rfl, .int (p' : Nat), rfl, .int (s' : Nat), rfl, w', p', s', rfl, pl, q⟩
    | _ => exact pl.elim
/-! the program: rounds, tops, numbers at beats -/
def spr_round_of (d : Nat) (_ : PySem.W.Frag) : Sp := fun vs H Q _ => ∃ m v, vs = [v] ∧ MkAt H m v ∧ m.Ok ∧ m.dep < d ∧ ∀ H', Same H H' → Q (.int (m.rnd : Nat)) H'
theorem no_round_of {K : PySem.W.Frag} {vs : List V} {H : Hp} {Q : VK} {E : XK} (h : spr_round_of 0 K vs H Q E) : False := by
  obtain ⟨m, v, _, _, _, z, _⟩ := h
  exact Nat.not_lt_zero _ z
theorem gcd_le {a n : Nat} : 1 ≤ Nat.gcd a (n + 1) ∧ Nat.gcd a (n + 1) ≤ n + 1 := ⟨Nat.gcd_pos_of_pos_right _ (by omega), Nat.le_of_dvd (by omega) (Nat.gcd_dvd_right _ _)⟩
theorem okr_round_of (T : Defs K mg) (TT : Tabs T base) : ∀ d : Nat, FnOk P w K mg base CX0 (4 + d) T.f_round_of T.fd_round_of ["maker"] (spr_round_of d K)
  | 0 => ⟨fun _ _ _ _ z => (no_round_of z).elim, fun _ _ _ _ _ _ _ _ _ _ _ _ _ z => (no_round_of z).elim⟩
  | d + 1 => by
    have G_round_of : FnOk P w K mg base CX0 (4 + d) T.f_round_of T.fd_round_of ["maker"] (spr_round_of d K) := okr_round_of T TT d
    have G_common_divisor : FnOk P w K mg base CX0 1 T.f_common_divisor T.fd_common_divisor ["one", "other"] (sp_common_divisor K) := ok_common_divisor T TT
    have G_plain_round : FnOk P w K mg base CX0 3 T.f_plain_round T.fd_plain_round ["maker"] (sp_plain_round K) := ok_plain_round T TT
    show FnOk P w K mg base CX0 ((4 + d) + 1) T.f_round_of T.fd_round_of ["maker"] (spr_round_of (d + 1) K)
    refine T.F_round_of.ok sc_round_of (fun vs H Q E h => ?_) (fun cdv A outer s H vs Q E hr h => ?_)
    · obtain ⟨m, v, rfl, hm, ok, dp, q⟩ := h
      rfl
    · obtain ⟨m, v, rfl, hm, ok, dp, q⟩ := h
      refine ⟨_, PSs.nox (pss_one (ps_match (pv 0) (pcs_seq rfl sc_round_of.nd pe_str (pcap_cons (i := 1) rfl (.inl rfl) (pcap_cons (i := 2) rfl (.inl rfl) pcap_nil)) (pss_one (ps_ret (pe_op op_mul (pv 1) (pe_call G_round_of (hr.mono (by omega)) (by rfl) T.g_round_of T.F_round_of.kp T.b_round_of .nil pass0 (pa_cons (pv 2) pa_nil)))))
    (pcs_seq rfl sc_round_of.nd pe_str (pcap_cons (i := 1) rfl (.inl rfl) (pcap_cons (i := 2) rfl (.inl rfl) pcap_nil)) (pss_cons (ps_set (i := 3) sc_round_of.nd rfl (.inl rfl) (pe_call G_round_of (hr.mono (by omega)) (by rfl) T.g_round_of T.F_round_of.kp T.b_round_of .nil pass0 (pa_cons (pv 2) pa_nil)))
    (pss_one (ps_ret (pe_op op_fdiv (pe_op op_mul (pv 1) (pv 3)) (pe_call G_common_divisor (hr.mono (by omega)) (by rfl) T.g_common_divisor T.F_common_divisor.kp T.b_common_divisor .nil pass0 (pa_cons (pv 3) (pa_cons (pe_op op_add (pv 1) pe_int) pa_nil)))))))
    (pcs_seq rfl sc_round_of.nd pe_str (pcap_cons (i := 4) rfl (.inl rfl) (pcap_cons (i := 2) rfl (.inl rfl) pcap_nil)) (pss_one (ps_ret (pe_call G_round_of (hr.mono (by omega)) (by rfl) T.g_round_of T.F_round_of.kp T.b_round_of .nil pass0 (pa_cons (pv 2) pa_nil))))
    (pcs_any (pss_one (ps_ret (pe_callB call_len_seq (by rfl) T.m_len bt_len (pa_cons (pe_call G_plain_round (hr.mono (by omega)) (by rfl) T.g_plain_round T.F_plain_round.kp T.b_plain_round .nil pass0 (pa_cons (pv 0) pa_nil)) pa_nil)))))))))), ?_⟩
      cases m with
      | slow n m =>
        obtain ⟨a, x, rfl, ha, hx⟩ := hm
        have dp : m.dep + 1 < d + 1 := dp
        refine ⟨.ref a, rfl, a, _, rfl, SqT.mk ha, .inr ⟨_, _, rfl, rfl, .inl ⟨rfl, ?_⟩⟩⟩
        refine ⟨.int (n : Nat), rfl, x, rfl, m, x, rfl, hx, ok.2.2, by omega, fun H1 s1 => ?_⟩
        refine ⟨_, _, rfl, rfl, .inl ⟨(show -(2 ^ 64) < (n : Int) by omega), (show (n : Int) < 2 ^ 64 by have := ok.2.1; omega)⟩, ?_⟩
        have e : (n : Int) * (m.rnd : Int) = (((Mk.slow n m).rnd : Nat) : Int) := (Int.natCast_mul n m.rnd).symm
        try dsimp only
        rw [e]
        exact q H1 s1
      | slip n m =>
        obtain ⟨a, x, rfl, ha, hx⟩ := hm
        have dp : m.dep + 1 < d + 1 := dp
        refine ⟨.ref a, rfl, a, _, rfl, SqT.mk ha, .inr ⟨_, _, rfl, rfl, .inr ⟨by decide +kernel, .inr ⟨_, _, rfl, rfl, .inl ⟨rfl, ?_⟩⟩⟩⟩⟩
        refine ⟨x, rfl, m, x, rfl, hx, ok.2.2, by omega, fun H1 s1 => ?_⟩
        refine ⟨.int (n : Nat), rfl, .int (m.rnd : Nat), rfl, _, _, rfl, rfl, .inl ⟨(show -(2 ^ 64) < (n : Int) by omega), (show (n : Int) < 2 ^ 64 by have := ok.2.1; omega)⟩, .int (m.rnd : Nat), rfl, .int (n : Nat), rfl, _, _, rfl, rfl, _, _, rfl, ?_⟩
        have g := gcd_le (a := m.rnd) (n := n)
        have eg : Int.gcd (m.rnd : Int) ((n : Int) + 1) = Nat.gcd m.rnd (n + 1) := rfl
        have ef : (if (1 : Int) > (Int.gcd (m.rnd : Int) ((n : Int) + 1) : Int) then 1 else (Int.gcd (m.rnd : Int) ((n : Int) + 1) : Int)) = ((Nat.gcd m.rnd (n + 1) : Nat) : Int) := by
          rw [eg]
          split <;> omega
        rw [ef]
        have n2 := ok.2.1
        refine ⟨_, _, rfl, rfl, ⟨(show (0 : Int) < ((Nat.gcd m.rnd (n + 1) : Nat) : Int) by omega), (show ((Nat.gcd m.rnd (n + 1) : Nat) : Int) < 1073741824 by omega)⟩, ?_⟩
        have e : (n : Int) * (m.rnd : Int) / ((Nat.gcd m.rnd (n + 1) : Nat) : Int) = (((Mk.slip n m).rnd : Nat) : Int) := by
          rw [← Int.natCast_mul, ← Int.natCast_ediv]
          rfl
        try dsimp only
        rw [e]
        exact q H1 s1
      | late n m =>
        obtain ⟨a, x, rfl, ha, hx⟩ := hm
        have dp : m.dep + 1 < d + 1 := dp
        refine ⟨.ref a, rfl, a, _, rfl, SqT.mk ha, .inr ⟨_, _, rfl, rfl, .inr ⟨by decide +kernel, .inr ⟨_, _, rfl, rfl, .inr ⟨by decide +kernel, .inr ⟨_, _, rfl, rfl, .inl ⟨rfl, ?_⟩⟩⟩⟩⟩⟩⟩
        exact ⟨x, rfl, m, x, rfl, hx, ok.2, by omega, fun H1 s1 => q H1 s1⟩
      | counter r s' t =>
        obtain ⟨a, rfl, ha⟩ := id hm
        refine ⟨.ref a, rfl, a, _, rfl, SqT.mk ha, .inl ⟨by simp, .inl ⟨by simp, .inl ⟨by simp, ?_⟩⟩⟩⟩
        refine ⟨.ref a, rfl, .counter r s' t, _, rfl, hm, ok, fun H1 p s1 np hp => ⟨p, _, rfl, .inl (SqL.mk hp), ?_⟩⟩
        rw [List.length_map]
        exact q H1 s1
      | turned w' s' =>
        obtain ⟨a, rfl, ha⟩ := id hm
        refine ⟨.ref a, rfl, a, _, rfl, SqT.mk ha, .inr ⟨_, _, rfl, rfl, .inr ⟨by decide +kernel, .inr ⟨_, _, rfl, rfl, .inr ⟨by decide +kernel, .inr ⟨_, _, rfl, rfl, .inr ⟨by decide +kernel, ?_⟩⟩⟩⟩⟩⟩⟩
        refine ⟨.ref a, rfl, .turned w' s', _, rfl, hm, ok, fun H1 p s1 np hp => ⟨p, _, rfl, .inl (SqL.mk hp), ?_⟩⟩
        rw [List.length_map]
        exact q H1 s1
      | table ns =>
        obtain ⟨a, b, rfl, ha, hb⟩ := id hm
        refine ⟨.ref a, rfl, a, _, rfl, SqT.mk ha, .inl ⟨by simp, .inl ⟨by simp, .inl ⟨by simp, ?_⟩⟩⟩⟩
        refine ⟨.ref a, rfl, .table ns, _, rfl, hm, ok, fun H1 p s1 np hp => ⟨p, _, rfl, .inl (SqL.mk hp), ?_⟩⟩
        rw [List.length_map]
        exact q H1 s1
      | register w' p s' =>
        obtain ⟨a, rfl, ha⟩ := id hm
        refine ⟨.ref a, rfl, a, _, rfl, SqT.mk ha, .inl ⟨by simp, .inl ⟨by simp, .inl ⟨by simp, ?_⟩⟩⟩⟩
        refine ⟨.ref a, rfl, .register w' p s', _, rfl, hm, ok, fun H1 p s1 np hp => ⟨p, _, rfl, .inl (SqL.mk hp), ?_⟩⟩
        rw [List.length_map]
        exact q H1 s1
def sp_round_of (K : PySem.W.Frag) : Sp := spr_round_of 5 K
theorem ok_round_of (T : Defs K mg) (TT : Tabs T base) : FnOk P w K mg base CX0 9 T.f_round_of T.fd_round_of ["maker"] (sp_round_of K) := okr_round_of T TT 5
def sp_top_of (_ : PySem.W.Frag) : Sp := fun vs H Q _ => ∃ m v, vs = [v] ∧ MkAt H m v ∧ m.Ok ∧ ∀ H' z, Same H H' → m.inn.Top z → Q (.int z) H'
theorem pl_at {m : Mk} (h : m.Pl) (t : Int) : atI (m.pl.map V.int) (t % (m.pl.length : Int)) = some (.int (m.pl.getD (t % (m.pl.length : Int)).toNat 0)) := by
  have hl := h.len
  have h1 := Int.emod_nonneg t (show (m.pl.length : Int) ≠ 0 by omega)
  have h2 := Int.emod_lt_of_pos t (show (0 : Int) < (m.pl.length : Int) by omega)
  obtain ⟨j, hj⟩ := Int.eq_ofNat_of_zero_le h1
  rw [hj] at h2 ⊢
  have hj2 : j < m.pl.length := by omega
  refine atI_nat ?_
  rw [List.getElem?_map, List.getElem?_eq_getElem hj2, Int.toNat_natCast, List.getD_eq_getElem?_getD, List.getElem?_eq_getElem hj2]
  rfl
def sp_values_at (_ : PySem.W.Frag) : Sp := fun vs H Q _ => ∃ m v b ts, vs = [v, .ref b] ∧ MkAt H m v ∧ m.Ok ∧ H b = some (.lst ((ts : List Int).map V.int)) ∧ ts.length ≤ 100000 ∧
  ∀ H' p, Same H H' → H p = none → H' p = some (.lst ((ts.map m.val).map V.int)) → Q (.ref p) H'
def sp_value_at (_ : PySem.W.Frag) : Sp := fun vs H Q _ => ∃ m v t, vs = [v, .int t] ∧ MkAt H m v ∧ m.Ok ∧ ∀ H', Same H H' → Q (.int (m.val t)) H'
def sp_values_of (_ : PySem.W.Frag) : Sp := fun vs H Q _ => ∃ m v, ∃ n : Nat, vs = [v, .int (n : Nat)] ∧ MkAt H m v ∧ m.Ok ∧ n ≤ 100000 ∧
  ∀ H' p, Same H H' → H p = none → H' p = some (.lst (((List.range n).map fun (i : Nat) => m.val i).map V.int)) → Q (.ref p) H'
/-! the law's own divisor -/
def sp__law_divisor (_ : PySem.W.Frag) : Sp := fun vs H Q _ => ∃ a b : Int, vs = [.int a, .int b] ∧ Q (.int (Int.gcd a b : Int)) H
/-! where a number stands first -/
theorem flat_ints (xs : List Int) : (xs.map V.int).all flatV = true := by
  rw [List.all_eq_true]
  intro x hx
  obtain ⟨i, _, rfl⟩ := List.mem_map.mp hx
  rfl
theorem in_ints (xs : List Int) (k : Int) : inV (.int k) (xs.map V.int) = decide (k ∈ xs) := by
  unfold inV
  rw [Bool.eq_iff_iff, List.any_eq_true, decide_eq_true_iff]
  constructor
  · rintro ⟨y, hy, e⟩
    obtain ⟨i, hi, rfl⟩ := List.mem_map.mp hy
    have : i = k := by
      have e : (i == k) = true := e
      exact eq_of_beq e
    rw [← this]
    exact hi
  · intro h
    exact ⟨_, List.mem_map.mpr ⟨k, h, rfl⟩, show (k == k) = true from beq_self_eq_true k⟩
theorem first_of {xs : List Int} {k : Int} : k ∈ xs → ∃ j : Nat, xs[j]? = some k ∧ ∀ m, m < j → xs[m]? ≠ some k := by
  induction xs with
  | nil => intro h; cases h
  | cons x r ih =>
    intro h
    by_cases e : x = k
    · exact ⟨0, by rw [e]; rfl, fun m hm => by omega⟩
    · rcases List.mem_cons.mp h with h | h
      · exact absurd h.symm e
      · obtain ⟨j, h1, h2⟩ := ih h
        refine ⟨j + 1, h1, fun m hm => ?_⟩
        cases m with
        | zero => exact fun z => e (Option.some.inj z)
        | succ m => exact h2 m (by omega)
/-! counters, tables, turned ones -/
def Mk.Bs : Mk → Prop
  | .counter _ _ _ => True
  | .table _ => True
  | .turned _ _ => True
  | .register _ _ _ => True
  | _ => False
theorem bnd64 {z : Nat} (h : z ≤ 64) : -(2 ^ 64) < (z : Int) ∧ (z : Int) < 2 ^ 64 := by omega
def pows : List Int := [1, 2, 4, 8, 16, 32, 64]
def powP (w : Nat) : List Int := (List.range w).map fun j => ((2 ^ j : Nat) : Int)
def powR (w : Nat) : List Int := (List.range w).map fun j => ((2 ^ (w - 1 - j) : Nat) : Int)
theorem six {P : Nat → Prop} {w : Nat} (h : w ≤ 6) (h0 : P 0) (h1 : P 1) (h2 : P 2) (h3 : P 3) (h4 : P 4) (h5 : P 5) (h6 : P 6) : P w := by
  match w, h with
  | 0, _ => exact h0
  | 1, _ => exact h1
  | 2, _ => exact h2
  | 3, _ => exact h3
  | 4, _ => exact h4
  | 5, _ => exact h5
  | 6, _ => exact h6
theorem pow_take {w : Nat} (h : w ≤ 6) : pows.take w = powP w := six (P := fun w => pows.take w = powP w) h (by decide) (by decide) (by decide) (by decide) (by decide) (by decide) (by decide)
theorem pow_rev {w : Nat} (h : w ≤ 6) : (powP w).reverse = powR w := six (P := fun w => (powP w).reverse = powR w) h (by decide) (by decide) (by decide) (by decide) (by decide) (by decide) (by decide)
theorem pow_at {w : Nat} (h : w ≤ 6) : pows[w]? = some ((2 ^ w : Nat) : Int) := six (P := fun w => pows[w]? = some ((2 ^ w : Nat) : Int)) h (by decide) (by decide) (by decide) (by decide) (by decide) (by decide) (by decide)
theorem at_pow {w : Nat} (h : w ≤ 6) : atI (pows.map V.int) ((w : Nat) : Int) = some (.int ((2 ^ w : Nat) : Int)) := atI_nat (by rw [List.getElem?_map, pow_at h]; rfl)
theorem powP_len (w : Nat) : (powP w).length = w := by
  unfold powP
  rw [List.length_map, List.length_range]
theorem powR_len (w : Nat) : (powR w).length = w := by
  unfold powR
  rw [List.length_map, List.length_range]
theorem powP_at {w k : Nat} {y : V} (h : ((powP w).map V.int)[k]? = some y) : k < w ∧ y = .int ((2 ^ k : Nat) : Int) := by
  have hk := (List.getElem?_eq_some_iff.mp h).1
  rw [List.length_map, powP_len] at hk
  unfold powP at h
  rw [List.getElem?_map, List.getElem?_map, List.getElem?_range hk] at h
  cases h
  exact ⟨hk, rfl⟩
theorem powR_at {w k : Nat} {y : V} (h : ((powR w).map V.int)[k]? = some y) : k < w ∧ y = .int ((2 ^ (w - 1 - k) : Nat) : Int) := by
  have hk := (List.getElem?_eq_some_iff.mp h).1
  rw [List.length_map, powR_len] at hk
  unfold powR at h
  rw [List.getElem?_map, List.getElem?_map, List.getElem?_range hk] at h
  cases h
  exact ⟨hk, rfl⟩
theorem sum_two (f : Nat → Int) : ∀ k : Nat, ((List.range k).map fun j => 2 * f j).sum = 2 * ((List.range k).map f).sum
  | 0 => rfl
  | k + 1 => by
    rw [List.range_succ, List.map_append, List.sum_append, List.map_append, List.sum_append, sum_two f k]
    simp
    omega
theorem lff_sum (x : Nat) : ∀ w : Nat, ((List.range w).map fun j => ((x / 2 ^ j % 2 : Nat) : Int) * ((2 ^ (w - 1 - j) : Nat) : Int)).sum = ((lff x w : Nat) : Int)
  | 0 => rfl
  | w + 1 => by
    rw [List.range_succ, List.map_append, List.sum_append]
    have e : (List.range w).map (fun j => ((x / 2 ^ j % 2 : Nat) : Int) * ((2 ^ (w + 1 - 1 - j) : Nat) : Int)) = (List.range w).map fun j => 2 * (((x / 2 ^ j % 2 : Nat) : Int) * ((2 ^ (w - 1 - j) : Nat) : Int)) := by
      apply List.map_congr_left
      intro j hj
      have hj := List.mem_range.mp hj
      show _ = 2 * (_ * _)
      rw [show w + 1 - 1 - j = (w - 1 - j) + 1 by omega, Nat.pow_succ, Int.natCast_mul, Int.mul_comm ((2 ^ (w - 1 - j) : Nat) : Int), Int.mul_left_comm]
      rfl
    rw [e, sum_two (fun j => ((x / 2 ^ j % 2 : Nat) : Int) * ((2 ^ (w - 1 - j) : Nat) : Int)) w, lff_sum x w]
    show 2 * ((lff x w : Nat) : Int) + (_ * ((2 ^ (w + 1 - 1 - w) : Nat) : Int) + 0) = ((2 * lff x w + x / 2 ^ w % 2 : Nat) : Int)
    rw [show w + 1 - 1 - w = 0 by omega]
    omega
def sp__law_powers (_ : PySem.W.Frag) : Sp := fun vs H Q _ => vs = [] ∧ ∀ H' p, Same H H' → H p = none → H' p = some (.lst (pows.map V.int)) → Q (.ref p) H'
def sp__law_base (_ : PySem.W.Frag) : Sp := fun vs H Q _ => ∃ m v, vs = [v] ∧ MkAt H m v ∧ m.Pl ∧ m.Bs ∧
  ∀ H' p, Same H H' → H p = none → H' p = some (.lst (m.pl.map V.int)) → Q (.ref p) H'
theorem ne_table_counter : ¬ (V.str "counter" = V.str "table") := by decide +kernel
/-! the law's own numbers -/
def sp__law_inner (_ : PySem.W.Frag) : Sp := fun vs H Q _ => ∃ m v, vs = [v] ∧ MkAt H m v ∧ ∀ H' u, Same H H' → MkAt H' m.inn u → Q u H'
def spr__law_round (d : Nat) (_ : PySem.W.Frag) : Sp := fun vs H Q _ => ∃ m v, vs = [v] ∧ MkAt H m v ∧ m.Ok ∧ m.inn.Bs ∧ m.dep < d ∧ ∀ H', Same H H' → Q (.int (m.rnd : Nat)) H'
theorem no__law_round {K : PySem.W.Frag} {vs : List V} {H : Hp} {Q : VK} {E : XK} (h : spr__law_round 0 K vs H Q E) : False := by
  obtain ⟨m, v, _, _, _, _, z, _⟩ := h
  exact Nat.not_lt_zero _ z
theorem rnd_plain {m : Mk} (h : m.dep = 0) : m.rnd = m.pl.length := by
  cases m with
  | slow n m => cases h
  | slip n m => cases h
  | late n m => cases h
  | _ => rfl
theorem ok_plain {m : Mk} (h : m.dep = 0) (ok : m.Ok) : m.Pl := by
  have := ok.inn
  rw [Mk.inn_self h] at this
  exact this
theorem ne_late_slow : ¬ (V.str "slow" = V.str "late") := by decide +kernel
theorem ne_late_slip : ¬ (V.str "slip" = V.str "late") := by decide +kernel
theorem ne_slip_slow : ¬ (V.str "slow" = V.str "slip") := by decide +kernel
def spr__law_beat (d : Nat) (_ : PySem.W.Frag) : Sp := fun vs H Q _ => ∃ m v b t, vs = [v, .ref b, .int t] ∧ MkAt H m v ∧ m.Ok ∧ m.dep < d ∧ ∃ k : Mk, k.Pl ∧ H b = some (.lst (k.pl.map V.int)) ∧ Q (.int (k.pl.getD ((m.bt t) % (k.pl.length : Int)).toNat 0)) H
theorem no__law_beat {K : PySem.W.Frag} {vs : List V} {H : Hp} {Q : VK} {E : XK} (h : spr__law_beat 0 K vs H Q E) : False := by
  obtain ⟨m, v, b, t, _, _, _, z, _⟩ := h
  exact Nat.not_lt_zero _ z
theorem str_ne {z y : Str} (h : inW z = false) (k : inW y = true) : decide (V.str z = V.str y) = false := decide_eq_false fun e => by
  rw [V.str.inj e, k] at h
  cases h
/-! heaps with tables -/
theorem trip0 : TriplesOk (#[] : Array Value).toList := trivial
structure Sam (H H' : Hp) : Prop where
  obj : ∀ b o, (∀ ps, o ≠ .tbl ps) → H b = some o → H' b = some o
  tab : ∀ b ps, H b = some (.tbl ps) → ∃ ps', H' b = some (.tbl ps') ∧ (TriplesOk ps.toList → TriplesOk ps'.toList)
theorem Sam.of {H H' : Hp} (s : Same H H') : Sam H H' := ⟨fun b o _ e => s b o e, fun b ps e => ⟨ps, s b _ e, fun z => z⟩⟩
theorem Sam.refl (H : Hp) : Sam H H := .of (Same.refl H)
theorem Sam.trans {H H1 H2 : Hp} (a : Sam H H1) (b : Sam H1 H2) : Sam H H2 := ⟨fun c o n e => b.obj c o n (a.obj c o n e), fun c ps e => by
  obtain ⟨p1, e1, t1⟩ := a.tab c ps e
  obtain ⟨p2, e2, t2⟩ := b.tab c p1 e1
  exact ⟨p2, e2, fun z => t2 (t1 z)⟩⟩
theorem Sam.tabG {H H' : Hp} {P : Addr} (a : Sam H H') (t : GxR.TabG H P) : GxR.TabG H' P := by
  obtain ⟨ps, e, z⟩ := t
  obtain ⟨p1, e1, t1⟩ := a.tab P ps e
  exact ⟨p1, e1, t1 z⟩
theorem Sam.tup {H H' : Hp} {a : Addr} {xs : List V} (s : Sam H H') (h : H a = some (.tup xs)) : H' a = some (.tup xs) := s.obj _ _ (fun _ z => by cases z) h
theorem Sam.lst {H H' : Hp} {a : Addr} {xs : List V} (s : Sam H H') (h : H a = some (.lst xs)) : H' a = some (.lst xs) := s.obj _ _ (fun _ z => by cases z) h
theorem Sam.free {H H' : Hp} (s : Sam H H') {l : Addr} (h : H' l = none) : H l = none := by
  cases q : H l with
  | none => rfl
  | some o =>
    cases o with
    | tbl ps =>
      obtain ⟨p1, e1, _⟩ := s.tab l ps q
      rw [e1] at h
      cases h
    | _ =>
      rw [s.obj l _ (fun _ z => by cases z) q] at h
      cases h
theorem Sam.tabbed {P : Addr} {H H' : Hp} (g : GxR.TabG H P) (t : GxR.Tabbed P H H') : Sam H H' := by
  obtain ⟨⟨p1, e1, z1⟩, k⟩ := t
  obtain ⟨p0, e0, _⟩ := g
  refine ⟨fun b o n e => ?_, fun b ps e => ?_⟩
  · by_cases hb : b = P
    · rw [hb, e0] at e
      exact absurd (Option.some.inj e).symm (n p0)
    · rw [k b hb]
      exact e
  · by_cases hb : b = P
    · rw [hb]
      exact ⟨p1, e1, fun _ => z1⟩
    · exact ⟨ps, by rw [k b hb]; exact e, fun z => z⟩
theorem sam_newer {H H' : Hp} {q : Addr} {o : HO} (a : Sam H H') (n : H q = none) : Sam H (upd H' q o) := ⟨fun c x hx e => by
    rw [upd_ne (ne_of_none e n)]
    exact a.obj c x hx e, fun c ps e => by
    obtain ⟨p1, e1, t1⟩ := a.tab c ps e
    exact ⟨p1, by rw [upd_ne (ne_of_none e n)]; exact e1, t1⟩⟩
/-- all but the box stays, tables grow -/
structure Bus (p : Addr) (H H' : Hp) : Prop where
  obj : ∀ b o, b ≠ p → (∀ ps, o ≠ .tbl ps) → H b = some o → H' b = some o
  tab : ∀ b ps, b ≠ p → H b = some (.tbl ps) → ∃ ps', H' b = some (.tbl ps') ∧ (TriplesOk ps.toList → TriplesOk ps'.toList)
theorem Bus.of {p : Addr} {H H' : Hp} (s : But p H H') : Bus p H H' := ⟨fun b o n _ e => s b o n e, fun b ps n e => ⟨ps, s b _ n e, fun z => z⟩⟩
theorem Bus.sam {p : Addr} {H H' : Hp} (s : Sam H H') : Bus p H H' := ⟨fun b o _ n e => s.obj b o n e, fun b ps _ e => s.tab b ps e⟩
theorem Bus.refl (p : Addr) (H : Hp) : Bus p H H := .of (But.refl p H)
theorem Bus.trans {p : Addr} {H H1 H2 : Hp} (a : Bus p H H1) (b : Bus p H1 H2) : Bus p H H2 := ⟨fun c o h n e => b.obj c o h n (a.obj c o h n e), fun c ps h e => by
  obtain ⟨p1, e1, t1⟩ := a.tab c ps h e
  obtain ⟨p2, e2, t2⟩ := b.tab c p1 h e1
  exact ⟨p2, e2, fun z => t2 (t1 z)⟩⟩
theorem Bus.tup {p : Addr} {H H' : Hp} {n : Nat} {a : Addr} {xs : List V} (s : Bus p H H') (B : Bx H p n) (h : H a = some (.tup xs)) : H' a = some (.tup xs) := s.obj _ _ (B.ne_tup h) (fun _ z => by cases z) h
theorem Bus.lst {p : Addr} {H H' : Hp} {a : Addr} {xs : List V} (s : Bus p H H') (ne : a ≠ p) (h : H a = some (.lst xs)) : H' a = some (.lst xs) := s.obj _ _ ne (fun _ z => by cases z) h
theorem Bus.tabG {p : Addr} {H H' : Hp} {n : Nat} {P : Addr} (s : Bus p H H') (B : Bx H p n) (t : GxR.TabG H P) : GxR.TabG H' P := by
  obtain ⟨ps, e, z⟩ := t
  obtain ⟨a, b, c, hp, _⟩ := B
  obtain ⟨p1, e1, t1⟩ := s.tab P ps (ne_of e hp (fun z => by cases z)) e
  exact ⟨p1, e1, t1 z⟩
theorem Bus.new {p q : Addr} {H H' : Hp} {o : HO} (a : Bus p H H') (n : H' q = none) : Bus p H (upd H' q o) := a.trans (.of ((But.refl p H').new n))
/-- a thing made since H may change -/
theorem bus_newer {p q : Addr} {H H' : Hp} {o : HO} (a : Bus p H H') (n : H q = none) : Bus p H (upd H' q o) := ⟨fun c x h hx e => by
    rw [upd_ne (ne_of_none e n)]
    exact a.obj c x h hx e, fun c ps h e => by
    obtain ⟨p1, e1, t1⟩ := a.tab c ps h e
    exact ⟨p1, by rw [upd_ne (ne_of_none e n)]; exact e1, t1⟩⟩
theorem Bus.free {p : Addr} {H H' : Hp} {n : Nat} (s : Bus p H H') (B : Bx H p n) (B' : ∃ m, Bx H' p m) {l : Addr} (h : H' l = none) : H l = none := by
  cases q : H l with
  | none => rfl
  | some o =>
    have nl : l ≠ p := fun z => by
      obtain ⟨m, _, _, _, hp, _⟩ := B'
      rw [z, hp] at h
      cases h
    cases o with
    | tbl ps =>
      obtain ⟨p1, e1, _⟩ := s.tab l ps nl q
      rw [e1] at h
      cases h
    | _ =>
      rw [s.obj l _ nl (fun _ z => by cases z) q] at h
      cases h
theorem Bx.sam {H H' : Hp} {p : Addr} {n : Nat} (h : Bx H p n) (s : Sam H H') : Bx H' p n := by
  obtain ⟨a, b, c, hp, r⟩ := h
  exact ⟨a, b, c, s.lst hp, r⟩
theorem bus_same {p : Addr} {H H1 H2 : Hp} (n : H p = none) (a : Sam H H1) (b : Bus p H1 H2) : Sam H H2 := ⟨fun c x h e => b.obj c x (ne_of_none e n) h (a.obj c x h e), fun c ps e => by
  obtain ⟨p1, e1, t1⟩ := a.tab c ps e
  obtain ⟨p2, e2, t2⟩ := b.tab c p1 (ne_of_none e n) e1
  exact ⟨p2, e2, fun z => t2 (t1 z)⟩⟩
theorem ne_new {H : Hp} {p q : Addr} {n : Nat} (B : Bx H p n) (nq : H q = none) : q ≠ p := fun e => by
  obtain ⟨_, _, _, hp, _⟩ := B
  rw [e, hp] at nq
  cases nq
theorem nat_of {x : Int} (h : 0 ≤ x) : ∃ m : Nat, x = (m : Nat) := Int.eq_ofNat_of_zero_le h
theorem listK {X : Cx} {K : PySem.W.Frag} {tg e : Expr} {t : TE} (h : X.K = K) (he : PE X e t) : PI X tg e (iList K t) := by
  subst h
  exact pi_list he
theorem nx_via {t u : TS} {D : Ends} {r : VK} {k c : L2.St → Hp → Prop} {σ : L2.St} {H : Hp} (R : L2.St → Hp → Prop) (h1 : ∀ N : L2.St → Hp → Prop, (∀ σ H, R σ H → N σ H) → t { D with nx := N } σ H) (h2 : ∀ σ H, R σ H → u D σ H) : Ends.nx { nx := tSeq t u D, rt := r, bk := k, ct := c } σ H := h1 _ h2
theorem seq_via {t u : TS} {D : Ends} {σ : L2.St} {H : Hp} (R : L2.St → Hp → Prop) (h1 : ∀ N : L2.St → Hp → Prop, (∀ σ H, R σ H → N σ H) → t { D with nx := N } σ H) (h2 : ∀ σ H, R σ H → u D σ H) : tSeq t u D σ H := h1 _ h2
theorem u1 {k : Nat} {A : Around} (r : Room k A) : A.units + 1 < cLine := by
  have := r.un
  omega
theorem lcK {X : Cx} {K : PySem.W.Frag} (h : X.K = K) : MtR X "list.count" (rCntI K) := by
  subst h
  exact mt_lcount
theorem pe_bmK {X : Cx} {K : PySem.W.Frag} {T id : String} {name : Str} {r : V → List V → Hp → VK → Prop} {o e : Expr} {es : List Expr} {to : TE} {t : TA} {apos cpos : Pos} (pa : PlainAttrs T) (slot : Slot T name id) (hty : typeOf (.builtin id) = pure (.type "method_descriptor")) (hm : MtR X id r) (ho : PE X o to) (ha : PA X (e :: es) t) (hk : X.K = K := by rfl)
    (hbase : attributeBase o name X.env (eval o X.env) = eval o X.env := by rfl)
    (hfew : ((backTo cpos (starEach (e :: es) X.env)).all (fun x => !x.1) && (backToKw cpos (keywordEach [] X.env)).all (fun x => x.1.isSome) && decide ((e :: es).length + ([] : List Keyword).length + (if ([] : List Keyword).isEmpty then 0 else 1) < 30)) = true := by rfl)
    (hline : (apos.endLine == cpos.line) = true := by rfl) (hs : starEach (e :: es) X.env = (false, eval e X.env) :: starEach es X.env := by rfl) (hplain : (backTo cpos (starEach es X.env)).any (·.1) = false := by rfl) :
    PE X (.Call (.Attribute o name apos) (e :: es) [] cpos) (tBM K T r to t) := by
  subst hk
  exact pe_bm pa slot hty hm ho ha hbase hfew hline hs hplain
/-! generator expressions whose element is anything that PE serves: the generator's own frame as a context -/
abbrev Cx.gblk (X : Cx) (s : Shared) (H : Hp) (scope : Scope) (C : Addr) (code : Value) (fp : List Addr) : Cx :=
  { X with A := X.A.in1.in1.in1.in1.deeper (genEnv scope (cloFrom X.env.cells scope.names []) C code builtinsNs X.env), s_0 := s, H_0 := H, env := genEnv scope (cloFrom X.env.cells scope.names []) C code builtinsNs X.env, outer := X.stack, stack := (genEnv scope (cloFrom X.env.cells scope.names []) C code builtinsNs X.env) :: X.stack, ex := fp, fn := fun x => scope.names.lookup x == some .cell, pn := [], xe := fun _ _ => False }
theorem over_gen {A : Around} {elt : Expr} {gs : List Comprehension} {sc : Scope} {pos : Pos} {it acc : Value} {env : Env} : A.over (.compLoop (.GeneratorExp elt gs sc pos) 0 it acc env) [] = A.deeper env := by
  first
    | rfl
    | (obtain ⟨hd, d, fr, gd, u⟩ := A; simp [Around.over, Around.deeper, marksOver, frameCount, unitsOf, envsOf, guardsOf, pushEnvs, pushGuards, Code.envs, Code.env?, Code.isFrame, Code.guards, Code.isGuard, Code.weight, Code.frames, Code.isCreation, Code.isCaller, Code.cUnits])
theorem over_gen0 {A : Around} {elt : Expr} {gs : List Comprehension} {sc : Scope} {pos : Pos} {it acc : Value} {env : Env} : A.over (.compStart (.GeneratorExp elt gs sc pos) 0 it acc env) [] = A.deeper env := by
  first
    | rfl
    | (obtain ⟨hd, d, fr, gd, u⟩ := A; simp [Around.over, Around.deeper, marksOver, frameCount, unitsOf, envsOf, guardsOf, pushEnvs, pushGuards, Code.envs, Code.env?, Code.isFrame, Code.guards, Code.isGuard, Code.weight, Code.frames, Code.isCreation, Code.isCaller, Code.cUnits])
theorem Room.gen {k : Nat} {A : Around} (r : Room (k + 1) A) (env : Env) : Room k (A.in1.in1.in1.in1.deeper env) :=
  ⟨r.hd, by have := r.dp; show A.depth + 1 + 3 * k + 5 < _; omega, by have := r.un; show A.units + 1 + 1 + 1 + 1 + 3 + 16 * k + 200 < _; omega⟩
/-- the names of a generator expression: as a block's, none of them a cell of its own -/
structure GenOk (N : List Str) (sc scope : Scope) (own : List (Str × Nat)) : Prop where
  blk : BlkOk N sc scope own
  co : scope.isCoroutine = false
  cel : ∀ y ∈ scope.names, y.2 ≠ .cell
  dot : scope.names.lookup (".0" : Str) = some NameKind.local
theorem genOk_by {N : List Str} {sc scope : Scope} {own : List (Str × Nat)} (h : blkC N sc scope own = true) (co : scope.isCoroutine = false) (cel : (scope.names.all fun y => y.2 != .cell) = true) (dot : scope.names.lookup (".0" : Str) = some NameKind.local) : GenOk N sc scope own := by
  refine ⟨blkOk_by h, co, fun y hy e => ?_, dot⟩
  have := List.all_eq_true.mp cel y hy
  rw [e] at this
  cases this
section
variable {X : Cx} {pins : List (Addr × Obj)} {σ : L2.St} {H : Hp} {s : Shared}
theorem gen_start {scope : Scope} {own : List (Str × Nat)} {fp : List Addr} {code : Value} {h' : Heap} {go : Obj} {G : Array GenState} {tk : Nat} {it : Value} (I : Inv X pins σ H s) (ok : GenOk X.N X.env.scope scope own) (hN : X.N.Nodup) (hfp : ∀ b ∈ fp, FpOk X pins H b ∧ b < s.heap.objs.size)
    (hns : h'.Ns s.heap.objs.size (fun y => if y = ".0" then some it else none)) (sb : Heap.SameBut s.heap.objs.size (s.heap.push { cls := .type "frame", data := .dict #[] }) h') (hG : AllBare G) (hgo : (h'.push go).get? h'.objs.size = some go) (hgd : ∀ v, go.data ≠ .cell v) :
    Inv (Cx.gblk X s H scope s.heap.objs.size code fp) [(h'.objs.size, go)] (wipe σ (own.map (·.2))) H { s with gens := G, toks := tk, heap := h'.push go } := by
  have hfree : ∀ y ∈ scope.names, y.2 = .free → ∃ c, X.env.cells.lookup y.1 = some c := fun y hy e => by
    rcases ok.blk.free y hy e with k | k
    · exact I.ok.has _ (.inl k)
    · exact I.ok.has _ (.inr k)
  have szh : h'.objs.size = s.heap.objs.size + 1 := by rw [sb.1, Heap.size_push]
  have kp : ∀ b o, s.heap.get? b = some o → (h'.push go).get? b = some o := fun b o e => Heap.get?_push_of_some _ (sb.extBut b o (Nat.ne_of_lt (Heap.lt_size e)) (Heap.get?_push_of_some _ e))
  have cm : ∀ {y c}, (cloFrom X.env.cells scope.names []).lookup y = some c → X.env.cells.lookup y = some c ∧ c < s.heap.objs.size ∧ (y, NameKind.free) ∈ scope.names := fun {y c} e => by
    rcases cloFrom_mem (PySem.mem_of_lookup e) with hm | ⟨h1, rfl⟩
    · cases hm
    · obtain ⟨c, hc⟩ := hfree _ h1 rfl
      rw [hc]
      obtain ⟨w, z⟩ := I.cell _ _ hc
      exact ⟨rfl, z.lt, h1⟩
  have look : ∀ {y}, scope.names.lookup y = some .free → ∃ c, (cloFrom X.env.cells scope.names []).lookup y = some c ∧ X.env.cells.lookup y = some c := fun {y} hl => by
    have hy : (y, NameKind.free) ∈ scope.names := PySem.mem_of_lookup hl
    obtain ⟨c', e'⟩ := mem_lookup (cloFrom_has (cells := X.env.cells) (acc := []) hy)
    exact ⟨c', e', (cm e').1⟩
  have okB : (Cx.gblk X s H scope s.heap.objs.size code fp).Ok := by
    refine ⟨I.ok.mod, ok.blk.kind, I.ok.glob, rfl, Nat.le_refl _, fun y z c e1 e2 => I.ok.inj y z c (cm e1).1 (cm e2).1, fun y hy => ?_, fun y c z e => ?_, I.ok.hd, ?_, .inr ⟨rfl, rfl⟩, fun b hb => ⟨?_, fun y c e z => ?_⟩, I.bs, Nat.le_trans I.ok.bsz I.sz, fun b o e hb => ?_, fun b hb z => ?_, I.stack, I.stkFree⟩
    · rcases hy with hy | hy
      · have hy : scope.names.lookup y = some .cell := hy
        exact absurd rfl (ok.cel _ (PySem.mem_of_lookup hy))
      · obtain ⟨c, h1, _⟩ := look (y := y) hy
        exact ⟨c, h1⟩
    · have z : (scope.names.lookup y == some NameKind.cell) = true := z
      have z : scope.names.lookup y = some .cell := by simpa using z
      exact absurd rfl (ok.cel _ (PySem.mem_of_lookup z))
    · show (X.A.frames.map (_ :: ·)) = some (_ :: X.stack)
      rw [I.ok.frames]
      rfl
    · exact Nat.ne_of_lt (hfp b hb).2
    · exact (hfp b hb).1.2.2.2.2.1 y c (cm e).1 z
    · rcases (hfp b hb).1.2.2.2.1 with z | z
      · exact I.ok.noex b o e z
      · exact absurd (Nat.lt_of_lt_of_le (Heap.lt_size e) (Nat.le_trans I.ok.bsz z)) (Nat.lt_irrefl _)
    · rcases List.mem_cons.mp (I.stkSub b z) with z | z
      · exact (hfp b hb).1.2.1 z
      · exact (hfp b hb).1.2.2.1 z
  refine ⟨okB, rfl, hG, Un.kept kp, ⟨_, hns.push go, fun i y av e1 e2 e3 => ?_⟩, fun y c e => ?_, I.hok.fresh (Nat.le_refl _), fun y c e => I.freeC y c (cm e).1, fun p hp => ?_, I.hok.kept kp, by rw [wipe_length]; exact I.len⟩
  · obtain ⟨e2, hne⟩ := wipe_some e2
    have e3 : Vis scope y := e3
    have hfr : scope.names.lookup y = some .free := by
      have no : ∀ k, scope.names.lookup y = some k → (k = .local ∨ k = .cell) → False := fun k e hh => by
        rcases ok.blk.own _ (PySem.mem_of_lookup e) hh with e' | e'
        · obtain ⟨p, hp, hpy⟩ := List.mem_map.mp e'
          have e3 := ok.blk.ix p hp
          have : p.1 = y := hpy
          rw [this] at e3
          exact hne (List.mem_map.mpr ⟨p, hp, nodup_ix hN e3 e1⟩)
        · exact e' (List.mem_of_getElem? e1)
      rcases e3 with e3 | e3 | e3
      · exact (no _ e3 (.inl rfl)).elim
      · exact (no _ e3 (.inr rfl)).elim
      · exact e3
    obtain ⟨m, hn, hl⟩ := I.loc
    have hvis : Vis X.env.scope y := (ok.blk.free _ (PySem.mem_of_lookup hfr) rfl).elim (fun k => .inr (.inl k)) (fun k => .inr (.inr k))
    obtain ⟨w, r, q⟩ := hl i y av e1 e2 hvis
    refine ⟨w, r, .inr ⟨.inr hfr, ?_⟩⟩
    obtain ⟨c, h1, h2⟩ := look hfr
    rcases q with ⟨k, _⟩ | ⟨_, c', e', z⟩
    · have k : X.env.scope.names.lookup y = some .local := k
      rcases ok.blk.free _ (PySem.mem_of_lookup hfr) rfl with k' | k' <;> rw [show X.env.scope.names.lookup y = _ from k'] at k <;> cases k
    · rw [h2] at e'; cases e'
      exact ⟨c, h1, z.keeps kp⟩
  · obtain ⟨w, z⟩ := I.cell y c (cm e).1
    exact ⟨w, z.keeps kp⟩
  · have hp : p = (h'.objs.size, go) := by simpa using hp
    subst hp
    have ge : s.heap.objs.size ≤ h'.objs.size := by omega
    refine ⟨hgo, I.hok.fresh ge, by show h'.objs.size ≠ s.heap.objs.size; omega, fun z => ?_, hgd⟩
    rcases List.mem_cons.mp (I.stkSub _ z) with z | z
    · have z : h'.objs.size = X.env.locals := z
      exact Nat.ne_of_lt (Nat.lt_of_lt_of_le I.lt ge) z.symm
    · exact I.nofs ge z
end
section
/-- what the consumer holds beside, what it is told, where it goes on, the end -/
structure GPar where
  ext : List V → List (Addr × Obj) → Prop
  yld : List V → V → Hp → Prop
  go : List V → V → Hp → Prop
  fin : List V → Hp → Prop
def YG (Y : Cx) (ga : Addr) (go : Obj) (p : GPar) : Protocol := fun _ _ v s kap => ∃ (ys : List V) (y : V) (H' : Hp) (ps pf : List (Addr × Obj)) (σ' : L2.St), RelV y v ∧ p.ext ys ps ∧ (∀ q ∈ pf, q.1 < Y.env.locals) ∧ Inv Y (((ga, go) :: ps) ++ pf) σ' H' s ∧ p.yld ys y H' ∧
  ∀ s' ps', p.ext (ys ++ [y]) ps' → Inv Y (((ga, go) :: ps') ++ pf) σ' H' s' → p.go ys y H' → kap (.send .none) s'
def RG (Y : Cx) (ga : Addr) (go : Obj) (p : GPar) : Shared → Prop := fun s => ∃ (ys : List V) (H' : Hp) (ps : List (Addr × Obj)) (σ' : L2.St), p.ext ys ps ∧ Inv Y ((ga, go) :: ps) σ' H' s ∧ p.fin ys H'
theorem gen_loop {Y : Cx} {A : Around} {ga : Addr} {go : Obj} {p : GPar} {elt tg iter : Expr} {ifs : List Expr} {scope : Scope} {pos : Pos} {it : Addr} {fp : List Addr} {tn : Nat → Heap → Prop} {J : It} {g : TG} {tt : TT} {te : TE} {σ : L2.St} {vs : List Nat} {W : List V → Nat → Nat → Hp → Prop}
    (hcal : Y.calm = true) (hpn : Y.pn = []) (T : Turn Y.prog Y.w Y.K tg J fp it tn) (hpg : PG Y tg g) (hpt : PTs Y ifs tt) (hpe : PE Y elt te) (hxe : Y.xe = fun _ _ => False)
    (hA : A.over (.compLoop (.GeneratorExp elt [⟨tg, iter, ifs, 0⟩] scope pos) 0 (.ref it) .none Y.env) [] = Y.A) (hex : ∀ b ∈ fp, b ∈ Y.ex) (hga : ∀ b ∈ fp, ga ≠ b) (hext : ∀ ys ps, p.ext ys ps → ∀ q ∈ ps, ∀ b ∈ fp, q.1 ≠ b) (hco : Y.env.scope.isCoroutine = false) (hfl : ∀ b ∈ fp, b < Y.env.locals)
    (step : ∀ ys i m H, W ys i m H → (J.stop i H ∧ p.fin ys H) ∨ (J.go i H ∧ ∃ Nx : List V → Hp → Prop, (∀ ys' H', Nx ys' H' → ∃ m', m' < m ∧ W ys' (i + 1) m' H') ∧ ∀ x H', J.yld i H x H' → g x (wipe σ vs) H' fun σ2 H2 => wipe σ2 vs = wipe σ vs ∧ tt σ2 H2 fun b H3 =>
      if b = true then te σ2 H3 fun y H4 => p.yld ys y H4 ∧ (p.go ys y H4 → Nx (ys ++ [y]) H4) else Nx ys H3)) :
    ∀ (m n i : Nat) (ys : List V) (H : Hp) (ps : List (Addr × Obj)) (s₀ s : Shared), m < n → W ys i m H → p.ext ys ps → Inv Y ((ga, go) :: ps) (wipe σ vs) H s → tn i s.heap → (∀ b ∈ fp, H b = none) →
      Seg (model Y.prog Y.w) A (fun n s₀ r s₁ => r = .ok .next ∧ (fun _ _ s => RG Y ga go p s) n s₀ s₁) (YG Y ga go p) n s₀ (.compLoop (.GeneratorExp elt [⟨tg, iter, ifs, 0⟩] scope pos) 0 (.ref it) .none Y.env)
        ((model Y.prog Y.w).den (.compLoop (.GeneratorExp elt [⟨tg, iter, ifs, 0⟩] scope pos) 0 (.ref it) .none Y.env)) [] s := by
  intro m
  induction m using Nat.strongRecOn with
  | ind m ih =>
  intro n i ys H ps s₀ s hmn w0 ex0 I0 st0 n0
  have stat : ∀ {σ' : L2.St} {H' : Hp} {s' : Shared} {ys' ps'}, p.ext ys' ps' → Inv Y ((ga, go) :: ps') σ' H' s' → (∀ b ∈ fp, H' b = none) → ∀ b ∈ fp, FpOk Y ((ga, go) :: ps') H' b := fun {σ' H' s' ys' ps'} e' I' hn b hb =>
    ⟨hn b hb, (I'.ok.exf b (hex b hb)).1, I'.ok.exfs b (hex b hb), .inl (hex b hb), fun x c e => (I'.ok.exf b (hex b hb)).2 x c e, fun q hq => by
      rw [hpn, List.nil_append] at hq
      rcases List.mem_cons.mp hq with z | z
      · rw [z]; exact hga b hb
      · exact hext _ _ e' q z b hb⟩
  show Seg _ A _ _ _ s₀ _ ((compTurn (.GeneratorExp elt [⟨tg, iter, ifs, 0⟩] scope pos) 0 (.ref it) .none Y.env).onRaise (leaving Y.env)) [] s
  rw [compTurn_gen, Sem.onRaise_eq_wrap]
  refine seg_bind_wrap (wpAny_standAt ?_)
  rcases step ys i m H w0 with ⟨stop, qf⟩ | ⟨gon, Nx, hNx, turn⟩
  · refine seg_bind_wrap ?_
    rw [hA]
    refine thnF (T.done Y rfl rfl rfl hcal i _ s _ H (fun _ _ => False) I0 (stat ex0 I0 n0) st0 stop) fun r s6 ⟨hr, I6⟩ => ?_
    subst hr
    exact seg_end (.ok .next) ⟨rfl, ys, H, ps, _, ex0, I6, qf⟩
  · refine seg_bind_wrap ?_
    rw [hA]
    refine thnF (T.item Y rfl rfl rfl hcal i _ s _ H (fun _ _ => False) I0 (stat ex0 I0 n0) st0 gon) fun r s6 ⟨u, hr, h6⟩ => ?_
    subst hr
    refine seg_bind_wrap ?_
    rw [hA]
    refine thnF h6 fun _ s7 ⟨x, H7, I7, r7, y7, st7, n7⟩ => ?_
    have I7' := I7.pinned (stat ex0 I7 n7) (T.obj _ _ st7)
    refine seg_bind_wrap ?_
    rw [hA]
    have fx : ∀ {α : Type} {t : Sem α} {Q : α → Shared → Prop} {s : Shared}, wpAny (model Y.prog Y.w) Y.A t Q Y.xe s → wpAny (model Y.prog Y.w) Y.A t Q (fun _ _ => False) s := fun h => by rw [hxe] at h; exact h
    refine thnF (fx (hpg.run _ s7 _ H7 x u _ I7' r7 (turn x H7 y7))) fun _ s8 ⟨σ8, H8, I8, hw8, q8⟩ => ?_
    refine seg_bind_wrap ?_
    rw [hA]
    refine thnF (fx (hpt.run _ s8 σ8 H8 _ I8 q8)) fun b s9 ⟨H9, I9, q9⟩ => ?_
    have fin : ∀ {s' : Shared} {H' : Hp} {ys' ps' m'}, m' < m → ∀ {n' : Nat} {s₀' : Shared}, m' < n' → p.ext ys' ps' → Inv Y (((ga, go) :: ps') ++ pinsAt fp s7.heap) σ8 H' s' → W ys' (i + 1) m' H' → Seg (model Y.prog Y.w) A (fun n s₀ r s₁ => r = .ok .next ∧ (fun _ _ s => RG Y ga go p s) n s₀ s₁) (YG Y ga go p) n' s₀' (.compLoop (.GeneratorExp elt [⟨tg, iter, ifs, 0⟩] scope pos) 0 (.ref it) .none Y.env)
        ((model Y.prog Y.w).den (.compLoop (.GeneratorExp elt [⟨tg, iter, ifs, 0⟩] scope pos) 0 (.ref it) .none Y.env)) [] s' := fun {s' H' ys' ps' m'} hm {n' s₀'} hn e' I' w' => by
      have pin' : ∀ b ∈ fp, ∀ o, s7.heap.get? b = some o → s'.heap.get? b = some o ∧ H' b = none := fun b hb o e =>
        let z := I'.pin (b, o) (List.mem_append_right _ (List.mem_append_right _ (mem_pinsAt hb e)))
        ⟨z.1, z.2.1⟩
      have hl : (wipe σ vs).length = σ8.length := by rw [← hw8, wipe_length]
      have I2 : Inv Y ((ga, go) :: ps') σ8 H' s' := I'.pins_of fun q hq => I'.pin q (List.mem_append_right _ (List.mem_append_left _ hq))
      refine ih m' hm n' (i + 1) ys' H' ps' s₀' s' hn w' e' (I2.weak hl fun j v e => ?_) (T.keep _ _ _ st7 fun b hb o e => (pin' b hb o e).1) fun b hb => ?_
      · rw [← hw8] at e
        exact (wipe_some e).1
      · obtain ⟨o, e, _⟩ := T.obj _ _ st7 b hb
        exact (pin' b hb o e).2
    cases b with
    | false =>
      simp only [Bool.false_eq_true, if_false] at q9 ⊢
      obtain ⟨m', hm, w'⟩ := hNx _ _ q9
      exact seg_again rfl (fin hm (by omega) ex0 I9 w')
    | true =>
      simp only [if_true] at q9 ⊢
      have hy : ∀ v, yieldOut Y.env v = yieldValue v := fun v => by simp only [yieldOut, hco, Bool.false_eq_true, if_false]
      simp only [hy]
      rw [Sem.bind_eq_wrap', Sem.bind_eq_wrap', Sem.wrap_wrap, Sem.wrap_wrap]
      refine seg_wrap ?_
      rw [hA]
      refine thnF (fx (hpe.run _ s9 σ8 H9 _ I9 q9)) fun z s10 ⟨yv, H10, I10, r10, yl, cont⟩ => ?_
      obtain ⟨n, rfl⟩ : ∃ k, n = k + 1 := ⟨n - 1, by omega⟩
      refine seg_at (seg_yield rfl rfl rfl ⟨ys, yv, H10, ps, pinsAt fp s7.heap, σ8, r10, ex0, fun q hq => hfl _ (of_pinsAt hq).1, I10, yl, fun s' ps' e' I' go' => ?_⟩)
      obtain ⟨m', hm, w'⟩ := hNx _ _ (cont go')
      exact seg_again rfl (fin hm (by omega) e' I' w')
theorem gen_begin {Y : Cx} {A : Around} {elt tg iter : Expr} {ifs : List Expr} {scope : Scope} {pos : Pos} {it : Addr} {R : GenEnd} {Yp : Protocol} {n : Nat} {s₀ s : Shared} {cenv : Env}
    (self : ∀ (B : Around) (Q : Value → Shared → Prop) (E : Value → Shared → Prop), Q (.ref it) s → wpAny (model Y.prog Y.w) B (pyIter (.ref it)) Q E s)
    (loop : Seg (model Y.prog Y.w) A R Yp n s₀ (.compLoop (.GeneratorExp elt [⟨tg, iter, ifs, 0⟩] scope pos) 0 (.ref it) .none cenv) ((model Y.prog Y.w).den (.compLoop (.GeneratorExp elt [⟨tg, iter, ifs, 0⟩] scope pos) 0 (.ref it) .none cenv)) [] s) :
    Seg (model Y.prog Y.w) A R Yp n s₀ (.compStart (.GeneratorExp elt [⟨tg, iter, ifs, 0⟩] scope pos) 0 (.ref it) .none cenv) ((model Y.prog Y.w).den (.compStart (.GeneratorExp elt [⟨tg, iter, ifs, 0⟩] scope pos) 0 (.ref it) .none cenv)) [] s := by
  show Seg _ A _ _ _ s₀ _ ((compStart (.GeneratorExp elt [⟨tg, iter, ifs, 0⟩] scope pos) 0 (.ref it) .none cenv).onRaise (leaving cenv)) [] s
  unfold compStart
  rw [Sem.onRaise_eq_wrap]
  show Seg _ A _ _ _ s₀ _ ((ask >>= _).wrap _ _ _ _) [] s
  refine seg_bind_wrap (wpAny_askSetting ?_)
  split
  · exact seg_again rfl loop
  · first
      | exact seg_bind_wrap (wpAny_rule (seg_bind_wrap (wpAny_standAt (seg_bind_wrap (self _ _ _ (seg_again rfl loop))))))
      | (refine seg_bind_wrap (wpAny_rule ?_); show Seg _ A _ _ _ s₀ _ ((standAt iter.pos >>= _).wrap _ _ _ _) [] s; exact seg_bind_wrap (wpAny_standAt (seg_bind_wrap (self _ _ _ (seg_again rfl loop)))))
end
section
def GAt (X Y : Cx) (ga : Addr) (gi : Nat) (go : Obj) (p : GPar) (n : Nat) (s : Shared) : Prop := s.heap.IsGen ga gi ∧ s.heap.NoLimit ∧ ∃ gs, s.gens[gi]? = some gs ∧
  gs.Goes (model X.prog X.w) X.A.in1.in1.in1.in1 (fun n s₀ r s₁ => r = .ok .next ∧ (fun _ _ s => RG Y ga go p s) n s₀ s₁) (YG Y ga go p) n (.send .none) (s.setGen gi .running)
theorem inv_gens {Y : Cx} {pins : List (Addr × Obj)} {σ : L2.St} {H : Hp} {s : Shared} {G : Array GenState} (I : Inv Y pins σ H s) (hG : AllBare G) : Inv Y pins σ H { s with gens := G } :=
  I.call (g' := G) (t' := s.toks) (d' := s.drawn) (ch := []) Un.refl I.hok hG (fun b z => by simp at z)
theorem inv_setGen {Y : Cx} {pins : List (Addr × Obj)} {σ : L2.St} {H : Hp} {s : Shared} {gi : Nat} {x : GenState} (I : Inv Y pins σ H s) (hx : x.bare = true) : Inv Y pins σ H (s.setGen gi x) :=
  inv_gens I (allBare_setGen I.bare hx)
theorem gat_next {X Y : Cx} {ga : Addr} {gi : Nat} {go : Obj} {p : GPar} {n : Nat} {s : Shared} {E : Value → Shared → Prop} (hh : X.A.handled = none) (hroom : X.A.depth < recursionLimit) (hpr : Y.prog = X.prog) (hw : Y.w = X.w)
    (hgo : ∀ h : Heap, h.get? ga = some go → h.IsGen ga gi) (h : GAt X Y ga gi go p n s) :
    wpAny (model X.prog X.w) X.A.in1.in1.in1 (pyNext (.ref ga)) (fun r s' =>
      (∃ v, r = some v ∧ ∃ (ys : List V) (y : V) (H' : Hp) (ps pf : List (Addr × Obj)) (σ' : L2.St), RelV y v ∧ p.ext ys ps ∧ (∀ q ∈ pf, q.1 < Y.env.locals) ∧ Inv Y (((ga, go) :: ps) ++ pf) σ' H' s' ∧ p.yld ys y H' ∧
        ∀ s'' ps', p.ext (ys ++ [y]) ps' → Inv Y (((ga, go) :: ps') ++ pf) σ' H' s'' → s''.gens = s'.gens → p.go ys y H' → ∃ m, n = m + 1 ∧ GAt X Y ga gi go p m s'') ∨
      (r = none ∧ RG Y ga go p s')) E s := by
  obtain ⟨hg, hl, gs, hgs, hgoes⟩ := h
  have hgl : gi < s.gens.size := (Array.getElem?_eq_some_iff.mp hgs).1
  refine wpAny_mono (GenW.wpAny_gsz (n := gi + 1) hgl (wpAny_pyNext_genexpQ (A := X.A.in1.in1.in1) (P := fun _ _ s => RG Y ga go p s) (Q := fun r s' => gi + 1 ≤ s'.gens.size → _) hh hl hroom hg hgs hgoes (fun v s₁ gs' hb hv => ?_) (fun s₁ hp h' hk => ?_))) (fun r s' z => z) (fun _ _ z => z)
  · intro hsz
    obtain ⟨ys, y, H', ps, pf, σ', rv, ex, pl, I, yl, kap⟩ := hv
    refine .inl ⟨v, rfl, ys, y, H', ps, pf, σ', rv, ex, pl, inv_setGen I hb, yl, fun s'' ps' ex' I' eg go' => ?_⟩
    have hsz1 : gi < s₁.gens.size := by
      have q : (s₁.setGen gi gs').gens.size = s₁.gens.size := GenW.setGen_size _ _ _
      have hsz' : gi + 1 ≤ (s₁.setGen gi gs').gens.size := hsz
      omega
    have k := kap (s''.setGen gi .running) ps' ex' (inv_setGen I' rfl) go'
    cases n with
    | zero => exact k.elim
    | succ m =>
      refine ⟨m, rfl, hgo _ (I'.pin (ga, go) (List.mem_append_right _ (List.mem_append_left _ List.mem_cons_self))).1, I'.nolimit, gs', ?_, k⟩
      rw [eg]
      exact setGen_at hsz1
  · intro _
    obtain ⟨ys, H', ps, σ', ex, I, fi⟩ := hp
    refine .inr ⟨rfl, ys, H', ps, σ', ex, ?_, fi⟩
    exact I.call' (s' := { s₁.setGen gi .finished with heap := h' }) (ch := []) rfl (Un.kept hk) (I.hok.kept hk) (allBare_setGen I.bare rfl) (fun b z => by simp at z)
theorem entry_all2 : entryFor table "all" = some Builtin.«all» := PySem.F.entry_all
/-- all(g): the consumer's loop -/
theorem all_loop {X Y : Cx} {ga : Addr} {gi : Nat} {go : Obj} {p : GPar} {R : Result → Shared → Prop} (hh : X.A.handled = none) (hroom : X.A.depth < recursionLimit) (hpr : Y.prog = X.prog) (hw : Y.w = X.w) (hgo : ∀ h : Heap, h.get? ga = some go → h.IsGen ga gi)
    (hext : ∀ ys, p.ext ys []) (hext2 : ∀ ys ps, p.ext ys ps → ps = []) (hy : ∀ ys y H, p.yld ys y H → ∃ b, y = .bl b ∧ (b = true → p.go ys y H))
    (hno : ∀ ys H' pf σ' s', p.yld ys (.bl false) H' → Inv Y ((ga, go) :: pf) σ' H' s' → R (.ok (.ret (.bool false))) s') (hyes : ∀ ys H' σ' s', p.fin ys H' → Inv Y [(ga, go)] σ' H' s' → R (.ok (.ret (.bool true))) s') :
    ∀ (n : Nat) (s : Shared), GAt X Y ga gi go p n s → codeAny (model X.prog X.w) X.A (.builtin "all.loop" ⟨[.ref ga], []⟩) R s := by
  intro n
  induction n with
  | zero =>
    intro s h
    refine codeAny_builtin PySem.F.entry_all_loop ?_
    rw [Around.under_plainId PySem.F.plain_all_loop _]
    show wpAny _ X.A.in1 (pyNext (.ref ga) >>= _) _ _ s
    refine wpAny_bind (wpAny_of_in1 (wpAny_of_in1 (wpAny_mono (gat_next hh hroom hpr hw hgo h) (fun r s' z => ?_) fun _ _ e => e)))
    rcases z with ⟨v, rfl, ys, y, H', ps, pf, σ', rv, ex, _, I, yl, k⟩ | ⟨rfl, ys, H', ps, σ', ex, I, fi⟩
    · obtain ⟨b, rfl, gob⟩ := hy _ _ _ yl
      obtain rfl : v = Value.bool b := rv
      obtain rfl := hext2 _ _ ex
      refine wpAny_bind (wpAny_holding (wpAny_truthy_bool ?_))
      refine wpAny_bind (wpAny_letGo ?_)
      cases b with
      | true =>
        obtain ⟨m, hm, _⟩ := k s' [] (hext _) I rfl (gob rfl)
        exact absurd hm (by omega)
      | false =>
        simp only [Bool.false_eq_true, if_false]
        exact wpAny_bind (wpAny_rule (wpAny_pure (hno _ _ _ _ _ yl I)))
    · obtain rfl := hext2 _ _ ex
      exact wpAny_bind (wpAny_rule (wpAny_pure (hyes _ _ _ _ fi I)))
  | succ n ih =>
    intro s h
    refine codeAny_builtin PySem.F.entry_all_loop ?_
    rw [Around.under_plainId PySem.F.plain_all_loop _]
    show wpAny _ X.A.in1 (pyNext (.ref ga) >>= _) _ _ s
    refine wpAny_bind (wpAny_of_in1 (wpAny_of_in1 (wpAny_mono (gat_next hh hroom hpr hw hgo h) (fun r s' z => ?_) fun _ _ e => e)))
    rcases z with ⟨v, rfl, ys, y, H', ps, pf, σ', rv, ex, _, I, yl, k⟩ | ⟨rfl, ys, H', ps, σ', ex, I, fi⟩
    · obtain ⟨b, rfl, gob⟩ := hy _ _ _ yl
      obtain rfl : v = Value.bool b := rv
      obtain rfl := hext2 _ _ ex
      refine wpAny_bind (wpAny_holding (wpAny_truthy_bool ?_))
      refine wpAny_bind (wpAny_letGo ?_)
      cases b with
      | true =>
        obtain ⟨m, hm, g2⟩ := k s' [] (hext _) I rfl (gob rfl)
        obtain rfl : m = n := by omega
        simp only [if_true]
        exact wpAny_pure ⟨plainId_quiet PySem.F.plain_all_loop _, ih _ g2⟩
      | false =>
        simp only [Bool.false_eq_true, if_false]
        exact wpAny_bind (wpAny_rule (wpAny_pure (hno _ _ _ _ _ yl I)))
    · obtain rfl := hext2 _ _ ex
      exact wpAny_bind (wpAny_rule (wpAny_pure (hyes _ _ _ _ fi I)))
end
section
variable {X : Cx} {pins : List (Addr × Obj)} {σ : L2.St} {H : Hp} {s : Shared}
theorem gen_mk {c P : Addr} {elt tg iter : Expr} {ifs : List Expr} {scope : Scope} {own : List (Str × Nat)} {gpos : Pos} {wi : TI} {g : TG} {tt : TT} {te : TE} {k : Nat} {R : It → Hp → Prop} {Q' : Value → Shared → Prop}
    (hr : Room (k + 1) X.A) (hc : X.calm = true) (hN : X.N.Nodup) (TB : GxR.TabB X.base X.mg c P) (hcode : X.env.code = .ref c) (ok : GenOk X.N X.env.scope scope own) (hi : PI X tg iter wi)
    (hg : ∀ (s : Shared) (H : Hp) (C : Addr) (code : Value) (fp : List Addr), Room k (Cx.gblk X s H scope C code fp).A → PG (Cx.gblk X s H scope C code fp) tg g)
    (ht : ∀ (s : Shared) (H : Hp) (C : Addr) (code : Value) (fp : List Addr), Room k (Cx.gblk X s H scope C code fp).A → PTs (Cx.gblk X s H scope C code fp) ifs tt)
    (he : ∀ (s : Shared) (H : Hp) (C : Addr) (code : Value) (fp : List Addr), Room k (Cx.gblk X s H scope C code fp).A → PE (Cx.gblk X s H scope C code fp) elt te)
    (hs : ∀ x, genFold iter X.env x = pure x) (I : Inv X pins σ H s) (h : wi σ H fun J H1 => GxR.TabG H1 P ∧ R J H1)
    (fin : ∀ (J : It) (H1 H4 : Hp) (Y : Cx) (s5 : Shared) (pf : List (Addr × Obj)) (ga : Addr) (gi : Nat) (go : Obj), R J H1 → GxR.Tabbed P H1 H4 → Y.prog = X.prog → Y.w = X.w → (∀ h : Heap, h.get? ga = some go → h.IsGen ga gi) → s5.heap.objs.size = ga + 1 → Y.s_0.heap.objs.size ≤ Y.env.locals → Y.pn = [] →
      Inv Y ([(ga, go)] ++ pf) (wipe σ (own.map (·.2))) H4 s5 → (∀ {pins' σ' H' s'}, Inv Y pins' σ' H' s' → Inv X pins σ H' s') →
      (∀ (p : GPar) (W : List V → Nat → Nat → Hp → Prop) (m : Nat), (∀ ys ps, p.ext ys ps → ∀ q ∈ ps, s5.heap.objs.size ≤ q.1) →
        (∀ ys i m H, W ys i m H → (J.stop i H ∧ p.fin ys H) ∨ (J.go i H ∧ ∃ Nx : List V → Hp → Prop, (∀ ys' H', Nx ys' H' → ∃ m', m' < m ∧ W ys' (i + 1) m' H') ∧ ∀ x H', J.yld i H x H' → g x (wipe σ (own.map (·.2))) H' fun σ2 H2 => wipe σ2 (own.map (·.2)) = wipe σ (own.map (·.2)) ∧ tt σ2 H2 fun b H3 =>
          if b = true then te σ2 H3 fun y H4 => p.yld ys y H4 ∧ (p.go ys y H4 → Nx (ys ++ [y]) H4) else Nx ys H3)) →
        W [] 0 m H4 → ∀ s' ps, p.ext [] ps → Inv Y (((ga, go) :: ps) ++ pf) (wipe σ (own.map (·.2))) H4 s' → s'.gens = s5.gens → GAt X Y ga gi go p (m + 1) s') →
      Q' (.ref ga) s5) :
    wpAny (model X.prog X.w) X.A (eval (.GeneratorExp elt [⟨tg, iter, ifs, 0⟩] scope gpos) X.env) Q' X.xe s := by
  have hfree : ∀ y ∈ scope.names, y.2 = .free → ∃ c, X.env.cells.lookup y.1 = some c := fun y hy e => by
    rcases ok.blk.free y hy e with k | k
    · exact I.ok.has _ (.inl k)
    · exact I.ok.has _ (.inr k)
  refine wpAny_GeneratorExp_make ok.co (closure_ok hfree) ok.cel ok.dot ok.blk.kind (by have := hr.dp; omega) (thn (hi.run pins s σ H _ I h) fun xv s1 hx => thn hx fun itv s2 h2 => ?_) hs
  obtain ⟨it, fp, tn, J, H2, rfl, I2, T, st2, f2, ⟨ps, hP, trip⟩, r⟩ := h2
  refine ⟨I2.nolimit, ?_⟩
  have hPs : s2.heap.get? P = some { cls := .none, data := .fields ps } := I2.hok P _ hP
  have cd : PySem.W.CodeHd s2.heap c P := TB.code.keeps fun b u e => I2.bk b u e
  have nfP : ∀ b ∈ fp, b ≠ P := fun b hb z => by
    have := (f2 b hb).1
    rw [z, hP] at this
    cases this
  have go2 : ∀ (code : Value) (h3 : Heap) (tk : Nat) (more : Array Value), Heap.ExtBut P s2.heap h3 → h3.get? P = some { cls := .none, data := .fields (ps ++ more) } → TriplesOk (ps ++ more).toList →
      wpAny (model X.prog X.w) X.A (builtinsFor X.env.globals X.env.builtins) (fun bi s₄ => ∀ h', h'.Ns s₄.heap.objs.size (fun y => if y = ".0" then some (.ref it) else none) → Heap.SameBut s₄.heap.objs.size (s₄.heap.push { cls := .type "frame", data := .dict #[] }) h' →
          Q' (.ref h'.objs.size) { s₄ with
            gens := s₄.gens.push (.fresh (.compStart (.GeneratorExp elt [⟨tg, iter, ifs, 0⟩] scope gpos) 0 (.ref it) .none (genEnv scope (cloFrom X.env.cells scope.names []) s₄.heap.objs.size code bi X.env))),
            toks := s₄.toks + 1 + 1 + 1,
            heap := h'.push { cls := .type "generator", data := .fields #[.int s₄.gens.size 0, .str "<genexpr>" (s₄.toks + 1), .str (X.env.qual ++ "<genexpr>") (s₄.toks + 1 + 1)] } }) X.xe { s2 with heap := h3, toks := tk } := by
    intro code h3 tk more hx hP3 trip3
    obtain ⟨bm, ob, e1, e2, e3, e4, e5, e6, e7, e8⟩ := TB.bm
    have I4 : Inv X pins σ (upd H2 P (.tbl (ps ++ more))) { s2 with heap := h3, toks := tk } := GxR.inv_tab (g' := s2.gens) (d' := s2.drawn) (t' := tk) I2 hP (fun b u hb e => hx b u hb e) hP3 I2.bare
    have tb4 : GxR.Tabbed P H2 (upd H2 P (.tbl (ps ++ more))) := ⟨⟨_, upd_same, trip3⟩, fun b hb => upd_ne hb⟩
    refine wpAny_builtinsFor (m := X.mg) (by rw [I2.ok.glob]; exact (I2.mod.glob.keeps I2.bk).extBut hx TB.gP) e1 e2 (hx _ _ e4 (I2.bk _ _ e5)) e6 e7 e8 ?_
    intro h' hn' hs'
    have f4 : ∀ b ∈ fp, FpOk X pins (upd H2 P (.tbl (ps ++ more))) b ∧ b < h3.objs.size := fun b hb => by
      obtain ⟨o, e, _⟩ := T.obj _ _ st2 b hb
      exact ⟨⟨(upd_ne (nfP b hb)).trans (f2 b hb).1, (f2 b hb).2⟩, Heap.lt_size (hx b o (nfP b hb) e)⟩
    have st4 : tn 0 h3 := T.keep _ _ _ st2 fun b hb o e => hx b o (nfP b hb) e
    generalize upd H2 P (.tbl (ps ++ more)) = H4 at I4 tb4 f4
    have szh : h'.objs.size = h3.objs.size + 1 := by rw [hs'.1]; exact Heap.size_push ..
    have main : ∀ (go : Obj) (G : Array GenState) (tk5 gi : Nat), (∀ h : Heap, h.get? h'.objs.size = some go → h.IsGen h'.objs.size gi) → (h'.push go).get? h'.objs.size = some go → (∀ v, go.data ≠ .cell v) → AllBare G →
        G[gi]? = some (.fresh (.compStart (.GeneratorExp elt [⟨tg, iter, ifs, 0⟩] scope gpos) 0 (.ref it) .none (genEnv scope (cloFrom X.env.cells scope.names []) h3.objs.size code builtinsNs X.env))) →
        Q' (.ref h'.objs.size) { s2 with gens := G, toks := tk5, heap := h'.push go } := by
      intro go G tk5 gi hgo hgo1 hgd hG hgi
      have Is := gen_start (s := { s2 with heap := h3, toks := tk }) (code := code) (tk := tk5) I4 ok hN f4 hn' hs' hG hgo1 hgd
      have hY := hg { s2 with heap := h3, toks := tk } H4 h3.objs.size code fp (Room.gen hr _)
      have tY := ht { s2 with heap := h3, toks := tk } H4 h3.objs.size code fp (Room.gen hr _)
      have eY := he { s2 with heap := h3, toks := tk } H4 h3.objs.size code fp (Room.gen hr _)
      have kp5 : ∀ b o, h3.get? b = some o → (h'.push go).get? b = some o := fun b o e => Heap.get?_push_of_some _ (hs'.extBut b o (Nat.ne_of_lt (Heap.lt_size e)) (Heap.get?_push_of_some _ e))
      have st5 : tn 0 (h'.push go) := T.keep _ _ _ st4 fun b hb o e => kp5 b o e
      have sz5 : (h'.push go).objs.size = h'.objs.size + 1 := Heap.size_push ..
      have gab : ∀ b ∈ fp, h'.objs.size ≠ b := fun b hb z => by
        have l := (f4 b hb).2
        have z : h'.objs.size = b := z
        have l2 : h3.objs.size < h'.objs.size := by rw [szh]; exact Nat.lt_succ_self _
        rw [z] at l2
        exact Nat.lt_irrefl _ (Nat.lt_trans l l2)
      have stat : ∀ b ∈ fp, FpOk (Cx.gblk X { s2 with heap := h3, toks := tk } H4 scope h3.objs.size code fp) [(h'.objs.size, go)] H4 b := fun b hb =>
        ⟨(f4 b hb).1.1, (Is.ok.exf b hb).1, Is.ok.exfs b hb, .inl hb, fun x c e => (Is.ok.exf b hb).2 x c e, fun q hq => by
          have hq : q = (h'.objs.size, go) := by simpa using hq
          rw [hq]
          exact gab b hb⟩
      have Ip := Is.pinned stat (T.obj _ _ st5)
      refine fin J H2 H4 (Cx.gblk X { s2 with heap := h3, toks := tk } H4 scope h3.objs.size code fp) _ (pinsAt fp (h'.push go)) h'.objs.size gi go r tb4 rfl rfl hgo sz5 (Nat.le_refl _) rfl Ip (fun {pins' σ' H' s'} I' => ?_) fun p W m hext step w0 s' ps' ex' I' eg => ?_
      · exact I4.call' (ch := fp) I'.os I'.base I'.hok I'.bare fun b hb => ⟨(f4 b hb).1.2.2.2.1, (f4 b hb).1.2.1, (f4 b hb).1.2.2.2.2.1, (f4 b hb).1.2.2.2.2.2⟩
      · have I2' : Inv (Cx.gblk X { s2 with heap := h3, toks := tk } H4 scope h3.objs.size code fp) ((h'.objs.size, go) :: ps') (wipe σ (own.map (·.2))) H4 s' := I'.pins_of fun q hq => I'.pin q (List.mem_append_right _ (List.mem_append_left _ hq))
        have pin' : ∀ b ∈ fp, ∀ o, (h'.push go).get? b = some o → s'.heap.get? b = some o := fun b hb o e => (I'.pin (b, o) (List.mem_append_right _ (List.mem_append_right _ (mem_pinsAt hb e)))).1
        have stn : tn 0 s'.heap := T.keep _ _ _ st5 fun b hb o e => pin' b hb o e
        have eg : s'.gens = G := eg
        rw [← eg] at hgi
        refine ⟨hgo _ (I'.pin (h'.objs.size, go) (List.mem_append_right _ (List.mem_append_left _ List.mem_cons_self))).1, I'.nolimit, _, hgi, rfl, ?_⟩
        refine gen_begin (Y := X) (fun B Q E q => T.self B 0 _ _ _ stn q) ?_
        exact gen_loop (Y := Cx.gblk X { s2 with heap := h3, toks := tk } H4 scope h3.objs.size code fp) (A := X.A.in1.in1.in1.in1) (σ := σ) (vs := own.map (·.2)) hc rfl T hY tY eY rfl over_gen (fun b hb => hb) gab
          (fun ys ps e q hq b hb z => by
            have l1 : (h'.push go).objs.size ≤ q.1 := hext ys ps e q hq
            have l2 := (f4 b hb).2
            rw [sz5, szh, z] at l1
            exact Nat.lt_irrefl _ (Nat.lt_of_lt_of_le l2 (Nat.le_of_succ_le (Nat.le_of_succ_le l1)))) ok.co (fun b hb => (f4 b hb).2) step m (m + 1) 0 [] H4 ps' _ _ (Nat.lt_succ_self m) w0 ex' (inv_setGen I2' rfl) stn fun b hb => (f4 b hb).1.1
    exact main _ _ _ _ (fun h e => ⟨_, _, _, e, rfl, rfl, rfl⟩) (Heap.get?_push_size _ rfl) (fun v z => by cases z) (AllBare.push I2.bare rfl) (Array.getElem?_push_size ..)
  cases hf : codeAmong gpos ps.toList with
  | none =>
    refine wpAny_genexprCodeX hcode (cd.code hPs trip) (cd.tab hPs) hf fun c' h' tk hx hge hlt hco' _ htab' _ => ?_
    obtain ⟨o1, vs, f1, tf, fl, tg, inF, tx, tt, op, _, _, _, _, _, _, _, _, _, htr, _⟩ := hco'
    exact go2 _ h' tk _ hx htab'.2 htr
  | some cv =>
    refine wpAny_genexprCode_hit hcode (cd.code hPs trip) hf ?_
    exact go2 cv s2.heap s2.toks #[] (Heap.ExtBut.refl _ _) (by rw [Array.append_empty]; exact hPs) (by rw [Array.append_empty]; exact trip)
/-- all(elt for tg in iter if ..) -/
def tAllE (P : Addr) (wi : TI) (g : TG) (tt : TT) (te : TE) (vs : List Nat) : TE := fun σ H Q => wi σ H fun J H1 => GxR.TabG H1 P ∧ ∀ H2, GxR.Tabbed P H1 H2 → ∃ W : Nat → Nat → Hp → Prop, (∃ m, W 0 m H2) ∧ ∀ i m H, W i m H →
  (J.stop i H ∧ Q (.bl true) H) ∨ (J.go i H ∧ ∃ Nx : Hp → Prop, (∀ H', Nx H' → ∃ m', m' < m ∧ W (i + 1) m' H') ∧ ∀ x H', J.yld i H x H' → g x (wipe σ vs) H' fun σ2 H3 => wipe σ2 vs = wipe σ vs ∧ tt σ2 H3 fun b H4 =>
    if b = true then te σ2 H4 fun y H5 => (∃ c : Bool, y = .bl c ∧ (c = false → Q (.bl false) H5)) ∧ (y = .bl true → Nx H5) else Nx H4)
theorem pe_allE {c P : Addr} {elt tg iter : Expr} {ifs : List Expr} {scope : Scope} {own : List (Str × Nat)} {p pos gpos : Pos} {wi : TI} {g : TG} {tt : TT} {te : TE} {k : Nat}
    (hr : Room (k + 1) X.A) (hgl : Gl X "all") (hm : X.mg "all" = none) (hb : bootBuiltins "all" = some (.builtin "all")) (hc : X.calm = true) (hN : X.N.Nodup) (TB : GxR.TabB X.base X.mg c P) (hcode : X.env.code = .ref c) (ok : GenOk X.N X.env.scope scope own) (hi : PI X tg iter wi)
    (hg : ∀ (s : Shared) (H : Hp) (C : Addr) (code : Value) (fp : List Addr), Room k (Cx.gblk X s H scope C code fp).A → PG (Cx.gblk X s H scope C code fp) tg g)
    (ht : ∀ (s : Shared) (H : Hp) (C : Addr) (code : Value) (fp : List Addr), Room k (Cx.gblk X s H scope C code fp).A → PTs (Cx.gblk X s H scope C code fp) ifs tt)
    (he : ∀ (s : Shared) (H : Hp) (C : Addr) (code : Value) (fp : List Addr), Room k (Cx.gblk X s H scope C code fp).A → PE (Cx.gblk X s H scope C code fp) elt te)
    (hs : ∀ x, genFold iter X.env x = pure x := by intro _; rfl)
    (hst : starEach [.GeneratorExp elt [⟨tg, iter, ifs, 0⟩] scope gpos] X.env = (false, eval (.GeneratorExp elt [⟨tg, iter, ifs, 0⟩] scope gpos) X.env) :: starEach [] X.env := by rfl) :
    PE X (.Call (.Name "all" p) [.GeneratorExp elt [⟨tg, iter, ifs, 0⟩] scope gpos] [] pos) (tAllE P wi g tt te (own.map (·.2))) := by
  constructor
  intro pins s σ H Q I h
  refine wpAny_Call_Name_kw (ld_blt I hgl hm hb (PyProof.Rows.callWith_builtin1 ?_ hst (by rfl)))
  rw [hst]
  show wpAny _ _ (spliced ((false, eval (.GeneratorExp elt [⟨tg, iter, ifs, 0⟩] scope gpos) X.env) :: backTo pos (starEach [] X.env))) _ _ s
  refine Calls.spliced_cons (gen_mk hr hc hN TB hcode ok hi hg ht he hs I h fun J H1 H4 Y s5 pf ga gi go r tb hpr hw hgo sz sl hpn I5 back goes => ?_)
  refine Calls.spliced_nil ?_
  obtain ⟨W, ⟨m, w0⟩, step⟩ := r H4 tb
  have hgen : s5.heap.IsGen ga gi := hgo _ (I5.pin (ga, go) (List.mem_append_right _ (List.mem_append_left _ List.mem_cons_self))).1
  have g0 := goes ⟨fun _ ps => ps = [], fun _ y H' => ∃ b : Bool, y = .bl b ∧ (b = false → Q (.bl false) H'), fun _ y _ => y = .bl true, fun _ H' => Q (.bl true) H'⟩ (fun _ i m H => W i m H) m (fun ys ps e q hq => by
      have e : ps = [] := e
      rw [e] at hq
      cases hq) (fun ys i m H w => (step i m H w).imp id fun ⟨a, Nx, hNx, b⟩ => ⟨a, fun _ H => Nx H, fun _ H' z => hNx H' z, fun x H' y => b x H' y⟩) w0 s5 [] rfl I5 rfl
  refine call_function_tree PySem.F.kind_all PySem.F.plain_all PySem.F.entry_all (PySem.F.args_all1 _) ?_
  unfold Builtin.«all»
  refine wpAny_bind (m := oneArg "all" _) (wpAny_pure ?_)
  refine wpAny_bind (wpAny_pyIter_gen hgen ?_)
  refine wpAny_pure ⟨plainId_quiet PySem.F.plain_all_loop _, all_loop (X := X) hr.hd (by have := hr.dp; omega) hpr hw hgo (fun _ => rfl) (fun _ _ e => e) (fun ys y H' (z : ∃ b : Bool, y = .bl b ∧ (b = false → Q (.bl false) H')) => ?_) (fun ys H' pf' σ' s' (z : ∃ b : Bool, V.bl false = .bl b ∧ (b = false → Q (.bl false) H')) I' => ?_) (fun ys H' σ' s' q I' => ?_) (m + 1) s5 g0⟩
  · obtain ⟨b, e, q⟩ := z
    exact ⟨b, e, fun z => by rw [e, z]⟩
  · obtain ⟨b, e, q⟩ := z
    cases e
    exact ⟨.bl false, H', back I', rfl, q rfl⟩
  · exact ⟨.bl true, H', back I', rfl, q⟩
end
/-- .. over what is walked as a Walk says -/
theorem ga_it {J : It} {n : Nat} {G : Hp → Prop} {Y : Nat → Hp → V → Hp → Prop} (w : Walk J n G Y) {g : TG} {tt : TT} {te : TE} {vs : List Nat} {σ : L2.St} {H2 : Hp} {Q : VK} (Pv : Nat → Hp → Prop) (h0 : Pv 0 H2) (hG : ∀ i H, i ≤ n → Pv i H → G H)
    (hs : ∀ i x H H', i < n → Pv i H → Y i H x H' → g x (wipe σ vs) H' fun σ2 H3 => wipe σ2 vs = wipe σ vs ∧ tt σ2 H3 fun b H4 => if b = true then te σ2 H4 fun y H5 => (∃ c : Bool, y = .bl c ∧ (c = false → Q (.bl false) H5)) ∧ (y = .bl true → Pv (i + 1) H5) else Pv (i + 1) H4) (hd : ∀ H, Pv n H → Q (.bl true) H) :
    ∃ W : Nat → Nat → Hp → Prop, (∃ m, W 0 m H2) ∧ ∀ i m H, W i m H →
      (J.stop i H ∧ Q (.bl true) H) ∨ (J.go i H ∧ ∃ Nx : Hp → Prop, (∀ H', Nx H' → ∃ m', m' < m ∧ W (i + 1) m' H') ∧ ∀ x H', J.yld i H x H' → g x (wipe σ vs) H' fun σ2 H3 => wipe σ2 vs = wipe σ vs ∧ tt σ2 H3 fun b H4 =>
        if b = true then te σ2 H4 fun y H5 => (∃ c : Bool, y = .bl c ∧ (c = false → Q (.bl false) H5)) ∧ (y = .bl true → Nx H5) else Nx H4) := by
  refine ⟨fun i m H => m = n - i ∧ i ≤ n ∧ Pv i H, ⟨n, by simp, Nat.zero_le _, h0⟩, ?_⟩
  rintro i m H ⟨rfl, hi, p⟩
  have q := hG i H hi p
  by_cases hlt : i < n
  · refine .inr ⟨w.goes i H hlt q, Pv (i + 1), fun H' p' => ⟨n - (i + 1), by omega, rfl, hlt, p'⟩, fun x H' y => hs i x H H' hlt p (w.yields i H x H' hlt q y)⟩
  · have e : i = n := by omega
    subst e
    exact .inl ⟨w.stops H q, hd H p⟩
/-! things whose text is short -/
mutual
def lvs (k : Nat) : PyData → Bool
  | .none | .bool _ => true
  | .int i => decide (i.natAbs < 10 ^ k)
  | .str x => x.cps.toList.all fun c => decide (c < 16 ^ 8)
  | .list xs | .tuple xs => lvsA k xs
  | .dict _ => false
def lvsA (k : Nat) : List PyData → Bool
  | [] => true
  | x :: xs => lvs k x && lvsA k xs
end
theorem log_sm {n k : Nat} (hk : k ≤ 400) (h : n < 10 ^ k) : n.log2 < 1920 := by
  by_cases z : n = 0
  · rw [z]
    decide
  · rw [Nat.log2_lt z]
    refine Nat.lt_of_lt_of_le h (Nat.le_trans (Nat.pow_le_pow_left (show 10 ≤ 2 ^ 4 by decide) k) ?_)
    rw [← Nat.pow_mul]
    exact Nat.pow_le_pow_right (by decide) (by omega)
theorem shown_k {i : Int} {k : Nat} (k0 : 0 < k) (h : i.natAbs < 10 ^ k) : (PyData.shown (.int i)).length ≤ k + 1 := by
  have e := int_text_length_le10 (k := k) k0 h
  show (Str.ofString (toString i)).length ≤ k + 1
  rw [PySem.ofString_length]
  exact e
mutual
theorem lvs_show {k : Nat} (k0 : 0 < k) (hk : k ≤ 400) : ∀ d : PyData, lvs k d = true → d.showable = true ∧ d.hasDict = false ∧ d.leavesShort (k + 1) = true
  | .none, _ => ⟨rfl, rfl, rfl⟩
  | .bool _, _ => ⟨rfl, rfl, rfl⟩
  | .int i, h => by
    have h1 : i.natAbs < 10 ^ k := by simpa only [lvs, decide_eq_true_eq] using h
    refine ⟨?_, rfl, ?_⟩
    · simp only [PyData.showable]
      exact decide_eq_true (log_sm hk h1)
    · simp only [PyData.leavesShort]
      exact decide_eq_true (shown_k k0 h1)
  | .str x, h => ⟨rfl, rfl, by simpa only [PyData.leavesShort, lvs] using h⟩
  | .list xs, h => by
    have := lvsA_show k0 hk xs (by simpa only [lvs] using h)
    simpa only [PyData.showable, PyData.hasDict, PyData.leavesShort] using this
  | .tuple xs, h => by
    have := lvsA_show k0 hk xs (by simpa only [lvs] using h)
    simpa only [PyData.showable, PyData.hasDict, PyData.leavesShort] using this
  | .dict _, h => by simp only [lvs] at h; exact nomatch h
theorem lvsA_show {k : Nat} (k0 : 0 < k) (hk : k ≤ 400) : ∀ xs : List PyData, lvsA k xs = true → PyData.showableAll xs = true ∧ PyData.hasDictAll xs = false ∧ PyData.leavesShortAll (k + 1) xs = true
  | [], _ => ⟨rfl, rfl, rfl⟩
  | x :: xs, h => by
    have h' : lvs k x = true ∧ lvsA k xs = true := by simpa only [lvsA, Bool.and_eq_true] using h
    obtain ⟨a1, a2, a3⟩ := lvs_show k0 hk x h'.1
    obtain ⟨b1, b2, b3⟩ := lvsA_show k0 hk xs h'.2
    simp only [PyData.showableAll, PyData.hasDictAll, PyData.leavesShortAll, a1, a2, a3, b1, b2, b3]
    exact ⟨rfl, rfl, rfl⟩
end
structure Sho (d : PyData) : Prop where
  s : d.showable = true
  n : d.hasDict = false
  dp : d.depth ≤ 60
  len : d.shown.length ≤ sizeLine
theorem sho_of {k : Nat} {d : PyData} (k0 : 7 ≤ k) (hk : k ≤ 400) (h : lvs k d = true) (dp : d.depth ≤ 60) (w : (k + 3) * d.weight ≤ 16000000) : Sho d := by
  obtain ⟨a, b, c⟩ := lvs_show (by omega) hk d h
  refine ⟨a, b, dp, ?_⟩
  have e : d.shown.length ≤ (k + 3) * d.weight + (k + 1) := PyData.shown_le (k + 1) (by omega) d c
  rw [sizeLine_eq]
  omega
theorem lvsA_of {k : Nat} : ∀ ds : List PyData, (∀ d, d ∈ ds → lvs k d = true) → lvsA k ds = true
  | [], _ => rfl
  | d :: ds, h => by
    simp only [lvsA, Bool.and_eq_true]
    exact ⟨h d List.mem_cons_self, lvsA_of ds fun x hx => h x (List.mem_cons_of_mem _ hx)⟩
theorem depA_of {n : Nat} : ∀ ds : List PyData, (∀ d, d ∈ ds → d.depth ≤ n) → PyData.depthAll ds ≤ n
  | [], _ => Nat.zero_le _
  | d :: ds, h => by
    have := h d List.mem_cons_self
    have := depA_of ds fun x hx => h x (List.mem_cons_of_mem _ hx)
    simp only [PyData.depthAll]
    omega
theorem weiA_of {n : Nat} : ∀ ds : List PyData, (∀ d, d ∈ ds → d.weight ≤ n) → PyData.weightAll ds ≤ ds.length * (n + 1)
  | [], _ => Nat.zero_le _
  | d :: ds, h => by
    have := h d List.mem_cons_self
    have := weiA_of ds fun x hx => h x (List.mem_cons_of_mem _ hx)
    simp only [PyData.weightAll, List.length_cons, Nat.add_mul, Nat.one_mul]
    omega
/-- short things: their leaves, depth and weight -/
structure Shs (k n w : Nat) (d : PyData) : Prop where
  l : lvs k d = true
  dp : d.depth ≤ n
  wt : d.weight ≤ w
theorem shs_all {k n w : Nat} {ds : List PyData} (h : ∀ d, d ∈ ds → Shs k n w d) : Shs k (n + 1) (ds.length * (w + 1)) (.list ds) ∧ Shs k (n + 1) (ds.length * (w + 1)) (.tuple ds) := by
  have a := lvsA_of ds fun d hd => (h d hd).l
  have b := depA_of ds fun d hd => (h d hd).dp
  have c := weiA_of ds fun d hd => (h d hd).wt
  refine ⟨⟨by simpa only [lvs] using a, ?_, by simpa only [PyData.weight] using c⟩, ⟨by simpa only [lvs] using a, ?_, by simpa only [PyData.weight] using c⟩⟩
  · simp only [PyData.depth]
    omega
  · simp only [PyData.depth]
    omega
theorem Shs.mono {k n m w v : Nat} {d : PyData} (h : Shs k n w d) (a : n ≤ m) (b : w ≤ v) : Shs k m v d := ⟨h.l, Nat.le_trans h.dp a, Nat.le_trans h.wt b⟩
theorem Shs.sho {k n w : Nat} {d : PyData} (h : Shs k n w d) (k0 : 7 ≤ k) (hk : k ≤ 400) (hn : n ≤ 60) (hw : (k + 3) * w ≤ 16000000) : Sho d := sho_of k0 hk h.l (Nat.le_trans h.dp hn) (Nat.le_trans (Nat.mul_le_mul_left _ h.wt) hw)
theorem shs_int {k : Nat} {i : Int} (h : i.natAbs < 10 ^ k) : Shs k 0 (4 * k + 1) (.int i) := by
  refine ⟨?_, ?_, ?_⟩
  · simp only [lvs]
    exact decide_eq_true h
  · simp only [PyData.depth]
    decide
  · simp only [PyData.weight]
    split
    · exact Nat.zero_le _
    · rename_i z
      have z1 : i.natAbs ≠ 0 := fun e => z (by rw [Int.natAbs_eq_zero.mp e]; rfl)
      have := (Nat.log2_lt (k := 4 * k) z1).mpr (Nat.lt_of_lt_of_le h (by
        rw [Nat.pow_mul]
        exact Nat.pow_le_pow_left (by decide) k))
      omega
theorem sho_ints {ns : List Int} (h : ∀ n, n ∈ ns → n.natAbs < 10 ^ 12) (l : ns.length ≤ 20000) : Sho (.list (ns.map .int)) ∧ Sho (.tuple (ns.map .int)) := by
  obtain ⟨a, b⟩ := shs_all (k := 12) (n := 0) (w := 49) (ds := ns.map .int) (fun d hd => by
    obtain ⟨n, hn, rfl⟩ := List.mem_map.mp hd
    exact shs_int (h n hn))
  rw [List.length_map] at a b
  exact ⟨a.sho (by decide) (by decide) (by decide) (by omega), b.sho (by decide) (by decide) (by decide) (by omega)⟩
theorem shs_str {k : Nat} {x : Str} (h : (x.cps.toList.all fun c => decide (c < 16 ^ 8)) = true) (w : x.cps.size ≤ 12) : Shs k 0 12 (.str x) := ⟨by simpa only [lvs] using h, by simp only [PyData.depth]; decide, by simpa only [PyData.weight] using w⟩
theorem shs_non {k : Nat} : Shs k 0 0 .none := ⟨rfl, by simp only [PyData.depth]; decide, by simp only [PyData.weight]; decide⟩
/-! a promise where no text of a thing is being made -/
structure GOk (P : Program) (w : World) (K : PySem.W.Frag) (mg : Str → Option Value) (base : Heap) (CX : CXT) (k : Nat) (f : Addr) (fd : FuncData) (ps : List Str) (sp : Sp) : Prop where
  len : ∀ vs H Q E, sp vs H Q E → vs.length = ps.length
  run : ∀ (A : Around) (outer : List Env) (s : Shared) (H : Hp) (args : Args) (us : List Value) (vs : List V) (Q : VK) (E : XK), A.guards = some [] → Room k A → Env0 P w K mg base A outer s H → BindsTo s fd args (ps.zip us) → Vals vs us → sp vs H Q E →
    codeAny (model P w) A (.call (.ref f) args) (CR CX outer P w H s Q E) s
theorem gok_of {CX : CXT} {P : Program} {w : World} {K : PySem.W.Frag} {mg : Str → Option Value} {base : Heap} {k : Nat} {x : Str} {st : Stmt} {f : Addr} {fd : FuncData} {N ps : List Str} {sp : Sp} (F : FnP K x st f fd) (S : FnScope N ps (defScope st)) (len : ∀ vs H Q E, sp vs H Q E → vs.length = ps.length)
    (hb : ∀ (cdv : Value) (A : Around) (outer : List Env) (s : Shared) (H : Hp) (vs : List V) (Q : VK) (E : XK), A.guards = some [] → Room k (A.deeper (envOfC x (defScope st) s.heap.objs.size f cdv)) → sp vs H Q E →
      ∃ t, PSs (cxOf CX P w K mg base N x (defScope st) f cdv A outer s H E) (defBody st) t ∧ t { nx := fun _ H' => Q .non H', rt := Q } (L2.start N vs) H) : GOk P w K mg base CX (k + 1) f fd ps sp := by
  obtain ⟨oc, od, dV, kV, doc, pm, an, cdv, ct, osl, rfl, lk, hcd, _, _⟩ := F.ex
  refine ⟨len, fun A outer s H args us vs Q E hg hr e0 bd rv hsp => ?_⟩
  have kept : ∀ b o, base.get? b = some o → s.heap.get? b = some o := fun b o e => (e0.bs b o e).1
  have KX : K.In s.heap := e0.mod.kin.keeps kept
  have kinds : ∀ y ∈ ps.zip us, (defScope st).names.lookup y.1 = some .local ∨ ((defScope st).names.lookup y.1 = some .cell ∧ ((cellsFrom (s.heap.objs.size + 1) (defScope st).names []).lookup y.1).isSome = true) := fun y hy =>
    (S.par y.1 (List.of_mem_zip (show (y.1, y.2) ∈ ps.zip us from hy)).1).imp id fun q => ⟨q, PySem.W.cellsFrom_some _ _ _ (.inl q)⟩
  refine codeAny_call_function hr.depth (KX _ _ lk) rfl S.co S.gen rfl (PySem.W.codeRec_of KX hcd) (bd _ _ _ _ (wpAny_newFunctionEnv_cells S.kind kinds fun env he s1 x1 => ?_))
  subst he
  refine ⟨(e0.mod.nolimit.keeps kept).keeps x1.toInCall.keep, codeAny_func ?_⟩
  obtain ⟨t, ht, hq⟩ := hb cdv A outer s H vs Q E hg (hr.deeper _) hsp
  have I := inv_start (CX := CX) (E := E) S hr.hd e0 (len _ _ _ _ hsp) rv x1
  refine wpAny_mono (ht.run [] s1 (L2.start N vs) H _ I hq) (fun fl s' hs => ?_) fun e s' hs => hs
  cases fl with
  | ret u =>
    obtain ⟨v, σ', H', J, r', q⟩ := hs
    exact ⟨v, H', J.os, J.bare, J.base, J.hok, r', q⟩
  | next =>
    obtain ⟨σ', H', J, q⟩ := hs
    exact ⟨V.non, H', J.os, J.bare, J.base, J.hok, rfl, q⟩
  | brk =>
    obtain ⟨_, _, _, q⟩ := hs
    exact q.elim
  | cont =>
    obtain ⟨_, _, _, q⟩ := hs
    exact q.elim
/-- the state ahead of the law's call: the script is tracked, or one of the module's own things -/
theorem env_ahead {P : Program} {w : World} {K : PySem.W.Frag} {mg mb : Str → Option Value} {a : Addr} {s : Shared} {vs : List Value} {ns : List Int} (KX : K.In s.heap) (hns : s.heap.Ns mainGlobals mg) (hb : s.heap.Ns builtinsNs mb)
    (hbb : ∀ x : Str, x ≠ "__name__" → mb x = bootBuiltins x) (hlim : s.heap.NoLimit) (hg : s.gens = #[]) (ha : s.heap.get? a = some { cls := .type "list", data := .seq vs.toArray }) (hi : IntsAre vs ns) (hl : ns.length ≤ sizeLine) :
    ∃ H : Hp, Only H ∧ SqL K H a (ns.map V.int) ∧ HOk P w H s.heap ∧ K.In (hidT s.heap H) ∧ (hidT s.heap H).Ns mainGlobals mg ∧ Env0 P w K mg (hidT s.heap H) callerA [] s H := by
  have rv := vals_ints hi
  have go : ∀ H : Hp, Only H → SqL K H a (ns.map V.int) → HOk P w H s.heap → (∀ b, H b ≠ none → b = a ∧ K.lookup a = none) → ∃ H : Hp, Only H ∧ SqL K H a (ns.map V.int) ∧ HOk P w H s.heap ∧ K.In (hidT s.heap H) ∧ (hidT s.heap H).Ns mainGlobals mg ∧ Env0 P w K mg (hidT s.heap H) callerA [] s H := fun H hO hS hok hA => by
    have free : ∀ {b : Addr}, (b = a → False) → H b = none := fun {b} nb => Classical.byContradiction fun z => nb (hA b z).1
    have Kb : K.In (hidT s.heap H) := fun b o e => hidT_get (KX b o e) (Classical.byContradiction fun z => by
      obtain ⟨rfl, n⟩ := hA b z
      rw [n] at e
      cases e)
    have nsb : ∀ {b : Addr} {m : Str → Option Value}, s.heap.Ns b m → (hidT s.heap H).Ns b m := fun {b m} h => by
      obtain ⟨o, es, ep, e, d, r⟩ := h
      refine ⟨o, es, ep, hidT_get e (free fun z => ?_), d, r⟩
      rw [z, ha] at e
      cases e
      cases d
    refine ⟨H, hO, hS, hok, Kb, nsb hns, rfl, ⟨Kb, nsb hns, ⟨mb, nsb hb, hbb⟩, ?_⟩, fun b o e => of_hidT e, Nat.le_of_eq (hidT_size _ _), trivial, fun b z => (by cases z), hok, .of_eq hg⟩
    obtain ⟨mc, h1, h2⟩ := hlim
    exact ⟨mc, nsb h1, h2⟩
  cases hk : K.lookup a with
  | some o =>
    have e := KX a o hk
    rw [ha] at e
    cases e
    exact go (fun _ => none) (fun _ => .inl rfl) (.inr ⟨_, vs.toArray, _, hk, rfl, rfl, rfl, by rw [List.size_toArray, hi.length]; exact hl, by simpa using rv⟩) (fun b u z => by cases z) (fun b z => absurd rfl z)
  | none =>
    refine go (fun b => if b = a then some (.frz { cls := .type "list", data := .seq vs.toArray } (.lst (ns.map V.int))) else none) (fun b => ?_) (.inl (.inr ⟨_, if_pos rfl⟩)) (fun b u z => ?_) (fun b z => ?_)
    · by_cases e : b = a
      · exact .inr ⟨_, _, if_pos e⟩
      · exact .inl (if_neg e)
    · by_cases e : b = a
      · cases (if_pos e).symm.trans z
        subst e
        exact ⟨ha, by rw [List.length_map]; exact hl, vs, _, rv, ha⟩
      · cases (if_neg e).symm.trans z
    · by_cases e : b = a
      · exact ⟨e, hk⟩
      · exact absurd (if_neg e) z
theorem walk_ofG {l : PySem.W.OpenLaw} {n k : Nat} {q : Program} {loose : List Str} {XP : (Str → Option Value) → Heap → Prop} {YP : World → Heap → Prop} {d : DefRec} {x : Str}
    (hn : l.most = some n) (hn2 : n ≤ sizeLine) (hdf : d.params.defaults = []) (hr : Room k callerA)
    (F : ∀ (w : World) (mg : Str → Option Value) (fa : Addr) (h : Heap), YP w h → h.Ns mainGlobals mg → mg d.name = some (.ref fa) →
      ∃ (K : PySem.W.Frag) (fd : FuncData) (sp : Sp), K.In h ∧ (∀ (s : Shared) (u : Value), BindsTo s fd ⟨[u], []⟩ [(x, u)]) ∧
        (∀ (H : Hp) (a : Addr) (ns : List Int), ns.length ≤ n → Only H → SqL K H a (ns.map V.int) → sp [.ref a] H (fun v _ => v = .bl true) fun _ _ _ => False) ∧
        ∀ base : Heap, K.In base → base.Ns mainGlobals mg → GOk l.prog w K mg base CX0 k fa fd [x] sp) :
    PySem.W.WalkO q loose XP YP l.row.toRowW d [] (fun f vs => PySem.call f vs) := by
  refine Att.attach_call hn hdf fun w s₀ s₁ mg mb fa o pm cd doc a vs ns G Y ho hd hcd hmg hobj hints hlen hg => ?_
  obtain ⟨K, fd, sp, KX, hbd, hsp, hF⟩ := F w mg fa _ Y G.T.g hmg
  obtain ⟨H, hO, hS, hok, Kb, nb, e0⟩ := env_ahead (P := l.prog) (w := w) KX G.T.g G.T.b G.T.builtins G.T.nolimit hg hobj hints (Nat.le_trans hlen hn2)
  refine codeAny_mono ((hF _ Kb nb).run callerA [] s₁ H ⟨[.ref a], []⟩ [.ref a] [.ref a] _ _ rfl hr e0 (hbd s₁ (.ref a)) (.cons rfl .nil) (hsp H a ns hlen hO hS)) fun r s' h => ?_
  match r, h with
  | .ok (.ret u), h =>
    obtain ⟨v, H', os, bare, un, hok', r', q⟩ := h
    have q : v = .bl true := q
    subst q
    obtain rfl : u = Value.bool true := r'
    refine ⟨rfl, OldK.of_keep fun b o e => ?_, os, bare⟩
    rcases hO b with z | ⟨ob, xs, z⟩
    · exact un.keep b o e z (by intro y; cases y) (by simp)
    · obtain ⟨e1, _⟩ := hok b _ z
      obtain ⟨e2, _⟩ := hok' b _ (un.frzs b ob _ z)
      rw [e] at e1
      cases e1
      exact e2
  | .ok .next, h => exact False.elim h
  | .ok .brk, h => exact False.elim h
  | .ok .cont, h => exact False.elim h
  | .error e, h => exact False.elim h
/-- repr(x) of a list or tuple -/
def rRepr (K : PySem.W.Frag) : List V → Hp → VK → Prop := fun xs H Q => ∃ a d, xs = [.ref a] ∧ Dp K H (.ref a) d ∧ Sho d ∧ Q (.str d.shown) H
theorem cr_repr {X : Cx} (hg : X.A.guards = some []) (hu : X.A.units + 65 < cLine) : CallR X (.builtin "repr") (rRepr X.K) := by
  intro pins s σ H vs us Q I r h
  obtain ⟨a, d, rfl, hd, ⟨sh, nd, dd, sz⟩, q⟩ := h
  rw [Vals.ref1 r]
  obtain ⟨as, rd⟩ := Dp.reads I d (.ref a) (.ref a) hd rfl
  refine repr_of_reads' rd sh (fun z => by rw [nd] at z; cases z) hg (by omega) (fun _ _ e => e) (fun h' u tk hk => ?_) sz
  exact ⟨.str d.shown, H, I.kept (t' := tk) hk, ⟨_, rfl⟩, q⟩
theorem u65g {k : Nat} {A : Around} (r : Room k A) : A.units + 65 < cLine := by
  have := r.un
  omega
/-! the state ahead of the law's call, with the tables of code objects -/
def ahT (K : PySem.W.Frag) (a : Addr) (ts : List Addr) (o : Obj) (xs : List V) : Hp := fun b => if b = a then (if (K.lookup a).isSome = true then none else some (.frz o (.lst xs))) else if b ∈ ts then some (.tbl #[]) else none
theorem ahT_tab {K : PySem.W.Frag} {a : Addr} {ts : List Addr} {o : Obj} {xs : List V} (na : ¬ a ∈ ts) {b : Addr} (hb : b ∈ ts) : ahT K a ts o xs b = some (.tbl #[]) := by
  unfold ahT
  rw [if_neg (fun z : b = a => na (z ▸ hb)), if_pos hb]
theorem ahT_any {K : PySem.W.Frag} {a : Addr} {ts : List Addr} {o : Obj} {xs : List V} {b : Addr} {u : HO} (h : ahT K a ts o xs b = some u) : (b = a ∧ K.lookup a = none ∧ u = .frz o (.lst xs)) ∨ (b ∈ ts ∧ u = .tbl #[]) := by
  unfold ahT at h
  by_cases e : b = a
  · rw [if_pos e] at h
    cases k : K.lookup a with
    | none =>
      rw [k, if_neg (fun z => by cases z)] at h
      exact .inl ⟨e, rfl, (Option.some.inj h).symm⟩
    | some y =>
      rw [k] at h
      simp at h
  · rw [if_neg e] at h
    by_cases z : b ∈ ts
    · rw [if_pos z] at h
      exact .inr ⟨z, (Option.some.inj h).symm⟩
    · rw [if_neg z] at h
      cases h
/-- a code object, its table, and where they stand -/
structure TbAt (K : PySem.W.Frag) (h : Heap) (q : Addr × Addr) : Prop where
  ob : h.get? q.2 = some { cls := .none, data := .fields #[] }
  nk : K.lookup q.2 = none
  hd : PySem.W.CodeHd h q.1 q.2
theorem env_aheadT {P : Program} {w : World} {K : PySem.W.Frag} {mg mb : Str → Option Value} {a : Addr} {cs : List (Addr × Addr)} {s : Shared} {vs : List Value} {ns : List Int} (KX : K.In s.heap) (gl : s.heap.Ns mainGlobals mg) (bl : s.heap.Ns builtinsNs mb)
    (bb : ∀ x : Str, x ≠ "__name__" → mb x = bootBuiltins x) (nl : s.heap.NoLimit) (hg : s.gens = #[]) (tb : ∀ q, q ∈ cs → TbAt K s.heap q)
    (bm : ∃ (m : Addr) (om : Obj), mg "__builtins__" = some (.ref m) ∧ m ≠ builtinsNs ∧ s.heap.get? m = some om ∧ om.cls = .type "module" ∧ om.dict = some builtinsNs ∧ om.data = .plain)
    (ha : s.heap.get? a = some { cls := .type "list", data := .seq vs.toArray }) (hi : IntsAre vs ns) (hl : ns.length ≤ sizeLine) :
    ∃ H : Hp, (∀ q, q ∈ cs → H q.2 = some (.tbl #[])) ∧ (∀ b u, H b = some u → (∃ o xs, u = .frz o (.lst xs)) ∨ b ∈ cs.map Prod.snd) ∧ SqL K H a (ns.map V.int) ∧ HOk P w H s.heap ∧ K.In (hidT s.heap H) ∧ (hidT s.heap H).Ns mainGlobals mg ∧ (∀ q, q ∈ cs → GxR.TabB (hidT s.heap H) mg q.1 q.2) ∧ Env0 P w K mg (hidT s.heap H) callerA [] s H := by
  have tin : ∀ b, b ∈ cs.map Prod.snd → ∃ q, q ∈ cs ∧ q.2 = b := fun b h => List.mem_map.mp h
  have tob : ∀ b, b ∈ cs.map Prod.snd → s.heap.get? b = some { cls := .none, data := .fields #[] } := fun b h => by
    obtain ⟨q, hq, rfl⟩ := tin b h
    exact (tb q hq).ob
  have na : ¬ a ∈ cs.map Prod.snd := fun z => by
    have y := (tob a z).symm.trans ha
    cases y
  obtain ⟨H, eH⟩ : ∃ H : Hp, H = ahT K a (cs.map Prod.snd) { cls := .type "list", data := .seq vs.toArray } (ns.map V.int) := ⟨_, rfl⟩
  have any : ∀ {b u}, H b = some u → (b = a ∧ K.lookup a = none ∧ u = .frz { cls := .type "list", data := .seq vs.toArray } (.lst (ns.map V.int))) ∨ (b ∈ cs.map Prod.snd ∧ u = .tbl #[]) := fun {b u} h => ahT_any (by rw [← eH]; exact h)
  have ta : ∀ q, q ∈ cs → H q.2 = some (.tbl #[]) := fun q hq => by
    rw [eH]
    exact ahT_tab na (List.mem_map.mpr ⟨q, hq, rfl⟩)
  have hS : SqL K H a (ns.map V.int) := by
    cases k : K.lookup a with
    | none =>
      refine .inl (.inr ⟨{ cls := .type "list", data := .seq vs.toArray }, ?_⟩)
      rw [eH]
      unfold ahT
      rw [if_pos rfl, k]
      rfl
    | some o =>
      have e := KX a o k
      rw [ha] at e
      cases e
      exact .inr ⟨_, vs.toArray, _, k, rfl, rfl, rfl, by rw [List.size_toArray, hi.length]; exact hl, by simpa using vals_ints hi⟩
  -- what is neither a sequence nor a table stands untouched
  have free : ∀ {b : Addr} {o : Obj}, s.heap.get? b = some o → (∀ ys n, o.data ≠ .seq ys n) → o.data ≠ .fields #[] → H b = none := fun {b o} e n1 n2 => by
    cases k : H b with
    | none => rfl
    | some u =>
      rcases any k with ⟨rfl, _⟩ | ⟨z, _⟩
      · rw [ha] at e
        cases e
        exact absurd rfl (n1 _ _)
      · rw [tob b z] at e
        cases e
        exact absurd rfl n2
  have nsb : ∀ {b : Addr} {m : Str → Option Value}, s.heap.Ns b m → (hidT s.heap H).Ns b m := fun {b m} h => by
    obtain ⟨o, es, ep, e, d, r⟩ := h
    exact ⟨o, es, ep, hidT_get e (free e (fun ys n z => by rw [d] at z; cases z) (fun z => by rw [d] at z; cases z)), d, r⟩
  have Kb : K.In (hidT s.heap H) := fun b o e => hidT_get (KX b o e) (by
    cases k : H b with
    | none => rfl
    | some u =>
      rcases any k with ⟨rfl, n, _⟩ | ⟨z, _⟩
      · rw [n] at e
        cases e
      · obtain ⟨q, hq, rfl⟩ := tin b z
        rw [(tb q hq).nk] at e
        cases e)
  have hok : HOk P w H s.heap := fun b u z => by
    rcases any z with ⟨rfl, _, rfl⟩ | ⟨y, rfl⟩
    · exact ⟨ha, by rw [List.length_map]; exact hl, vs, _, vals_ints hi, ha⟩
    · exact tob b y
  refine ⟨H, ta, fun b u z => ?_, hS, hok, Kb, nsb gl, fun q hq => ⟨?_, ?_, fun z => ?_⟩, rfl, ⟨Kb, nsb gl, ⟨mb, nsb bl, bb⟩, ?_⟩, fun b o e => of_hidT e, Nat.le_of_eq (hidT_size _ _), trivial, fun b z => (by cases z), hok, .of_eq hg⟩
  · rcases any z with ⟨_, _, rfl⟩ | ⟨y, _⟩
    · exact .inl ⟨_, _, rfl⟩
    · exact .inr y
  · obtain ⟨o, us, fl, tf, gs, tg, iF, tx, tt, e1, r1, r2, r3, rest⟩ := (tb q hq).hd
    refine ⟨o, us, fl, tf, gs, tg, iF, tx, tt, hidT_get e1 (free e1 (fun ys n z => by rw [r2] at z; cases z) (fun z => ?_)), r1, r2, r3, rest⟩
    rw [r2] at z
    cases z
    simp at r3
  · obtain ⟨m, om, b1, b2, b3, b4, b5, b6⟩ := bm
    refine ⟨m, om, b1, b2, fun z => ?_, fun z => ?_, hidT_get b3 (free b3 (fun ys n z => by rw [b6] at z; cases z) (fun z => by rw [b6] at z; cases z)), b4, b5, b6⟩
    · obtain ⟨o, es, ep, e, d, _⟩ := gl
      rw [z, e] at b3
      cases b3
      rw [d] at b6
      cases b6
    · have y := (tb q hq).ob
      rw [← z, b3] at y
      cases y
      cases b6
  · obtain ⟨o, es, ep, e, d, _⟩ := gl
    rw [z, (tb q hq).ob] at e
    cases e
    cases d
  · obtain ⟨mc, h1, h2⟩ := nl
    exact ⟨mc, nsb h1, h2⟩
theorem walk_ofGT {l : PySem.W.OpenLaw} {n k : Nat} {q : Program} {loose : List Str} {XP : (Str → Option Value) → Heap → Prop} {YP : World → Heap → Prop} {d : DefRec} {x : Str}
    (hn : l.most = some n) (hn2 : n ≤ sizeLine) (hdf : d.params.defaults = []) (hr : Room k callerA)
    (F : ∀ (w : World) (mg : Str → Option Value) (fa : Addr) (h : Heap), YP w h → h.Ns mainGlobals mg → mg d.name = some (.ref fa) →
      ∃ (K : PySem.W.Frag) (fd : FuncData) (cs : List (Addr × Addr)) (sp : Sp), K.In h ∧ (∀ q, q ∈ cs → TbAt K h q) ∧ (∀ (s : Shared) (u : Value), BindsTo s fd ⟨[u], []⟩ [(x, u)]) ∧
        (∀ (H : Hp) (a : Addr) (ns : List Int), ns.length ≤ n → (∀ q, q ∈ cs → H q.2 = some (.tbl #[])) → SqL K H a (ns.map V.int) → sp [.ref a] H (fun v _ => v = .bl true) fun _ _ _ => False) ∧
        ∀ base : Heap, K.In base → base.Ns mainGlobals mg → (∀ q, q ∈ cs → GxR.TabB base mg q.1 q.2) → GOk l.prog w K mg base CX0 k fa fd [x] sp) :
    PySem.W.WalkO q loose XP YP l.row.toRowW d [] (fun f vs => PySem.call f vs) := by
  refine Att.attach_call hn hdf fun w s₀ s₁ mg mb fa o pm cd doc a vs ns G Y ho hd hcd hmg hobj hints hlen hg => ?_
  obtain ⟨K, fd, cs, sp, KX, tb, hbd, hsp, hF⟩ := F w mg fa _ Y G.T.g hmg
  obtain ⟨H, ta, hO, hS, hok, Kb, nb, TB, e0⟩ := env_aheadT (P := l.prog) (w := w) KX G.T.g G.T.b G.T.builtins G.T.nolimit hg tb G.T.bmain hobj hints (Nat.le_trans hlen hn2)
  refine codeAny_mono ((hF _ Kb nb TB).run callerA [] s₁ H ⟨[.ref a], []⟩ [.ref a] [.ref a] _ _ rfl hr e0 (hbd s₁ (.ref a)) (.cons rfl .nil) (hsp H a ns hlen ta hS)) fun r s' h => ?_
  match r, h with
  | .ok (.ret u), h =>
    obtain ⟨v, H', os, bare, un, hok', r', q⟩ := h
    have q : v = .bl true := q
    subst q
    obtain rfl : u = Value.bool true := r'
    have grow : ∀ t, t ∈ cs → ∃ more : Array Value, s'.heap.get? t.2 = some { cls := .none, data := .fields more } := fun t ht => by
      obtain ⟨more, z⟩ := un.tbls _ _ (ta t ht)
      exact ⟨_, hok' _ _ z⟩
    have stay : ∀ b o, ¬ b ∈ cs.map Prod.snd → s₁.heap.get? b = some o → s'.heap.get? b = some o := fun b o nb e => by
      cases k : H b with
      | none => exact un.keep b o e k (by intro y; cases y) (by simp)
      | some u =>
        rcases hO b u k with ⟨ob, xs, rfl⟩ | z
        · obtain ⟨e1, _⟩ := hok b _ k
          obtain ⟨e2, _⟩ := hok' b _ (un.frzs b ob _ k)
          rw [e] at e1
          cases e1
          exact e2
        · exact absurd z nb
    refine ⟨rfl, ⟨fun b o e => ?_, fun b o e => ?_⟩, os, bare⟩
    · by_cases z : b ∈ cs.map Prod.snd
      · obtain ⟨t, ht, rfl⟩ := List.mem_map.mp z
        obtain ⟨more, gm⟩ := grow t ht
        have y := (tb t ht).ob
        rw [e] at y
        cases y
        exact .inr (.inl ⟨((tb t ht).hd.tab (tb t ht).ob).isCodeTable, rfl, #[], more, rfl, by rw [Array.empty_append]; exact gm⟩)
      · exact .inl (stay b o z e)
    · by_cases z : b ∈ cs.map Prod.snd
      · obtain ⟨t, ht, rfl⟩ := List.mem_map.mp z
        obtain ⟨more, gm⟩ := grow t ht
        exact ⟨_, gm⟩
      · exact ⟨o, stay b o z e⟩
  | .ok .next, h => exact False.elim h
  | .ok .brk, h => exact False.elim h
  | .ok .cont, h => exact False.elim h
  | .error e, h => exact False.elim h
/-! things that are small enough -/
mutual
def gd (k : Nat) : PyData → Bool
  | .none | .bool _ => true
  | .int i => decide (i.natAbs < 10 ^ k)
  | .str x => PyData.strOk x
  | .list xs | .tuple xs => gdA k xs
  | .dict _ => false
def gdA (k : Nat) : List PyData → Bool
  | [] => true
  | x :: xs => gd k x && gdA k xs
end
mutual
theorem gd_lvs {k : Nat} : ∀ d : PyData, gd k d = true → lvs k d = true ∧ d.canLay0 = true
  | .none, _ => ⟨rfl, rfl⟩
  | .bool b, _ => ⟨rfl, rfl⟩
  | .int i, h => ⟨by simpa only [lvs, gd] using h, rfl⟩
  | .str x, h => by
    have h1 : PyData.strOk x = true := by simpa only [gd] using h
    refine ⟨?_, by simpa only [PyData.canLay0] using h1⟩
    simp only [lvs, List.all_eq_true, decide_eq_true_eq]
    intro c hc
    unfold PyData.strOk at h1
    have := Array.all_eq_true_iff_forall_mem.mp h1 c (Array.mem_toList_iff.mp hc)
    have : c < 0x110000 := by simpa using this
    exact Nat.lt_trans this (by decide)
  | .list xs, h => by
    have := gdA_lvs xs (by simpa only [gd] using h)
    simpa only [lvs, PyData.canLay0] using this
  | .tuple xs, h => by
    have := gdA_lvs xs (by simpa only [gd] using h)
    simpa only [lvs, PyData.canLay0] using this
  | .dict _, h => by simp only [gd] at h; exact nomatch h
theorem gdA_lvs {k : Nat} : ∀ xs : List PyData, gdA k xs = true → lvsA k xs = true ∧ PyData.canLayAll0 xs = true
  | [], _ => ⟨rfl, rfl⟩
  | x :: xs, h => by
    have h' : gd k x = true ∧ gdA k xs = true := by simpa only [gdA, Bool.and_eq_true] using h
    have a := gd_lvs x h'.1
    have b := gdA_lvs xs h'.2
    simp only [lvsA, PyData.canLayAll0, a.1, a.2, b.1, b.2]
    exact ⟨rfl, rfl⟩
end
theorem gdA_all {k : Nat} : ∀ {xs : List PyData}, gdA k xs = true ↔ ∀ x, x ∈ xs → gd k x = true
  | [] => ⟨fun _ x hx => (by cases hx), fun _ => rfl⟩
  | x :: xs => by
    simp only [gdA, Bool.and_eq_true, gdA_all (xs := xs)]
    exact ⟨fun h y hy => by
      rcases List.mem_cons.mp hy with rfl | hy
      · exact h.1
      · exact h.2 y hy, fun h => ⟨h x List.mem_cons_self, fun y hy => h y (List.mem_cons_of_mem _ hy)⟩⟩
mutual
theorem gd_mono {k m : Nat} (h : k ≤ m) : ∀ d : PyData, gd k d = true → gd m d = true
  | .none, _ => rfl
  | .bool b, _ => rfl
  | .int i, g => by
    simp only [gd, decide_eq_true_eq] at g ⊢
    exact Nat.lt_of_lt_of_le g (Nat.pow_le_pow_right (by decide) h)
  | .str x, g => by simpa only [gd] using g
  | .list xs, g => by
    have := gdA_mono h xs (by simpa only [gd] using g)
    simpa only [gd] using this
  | .tuple xs, g => by
    have := gdA_mono h xs (by simpa only [gd] using g)
    simpa only [gd] using this
  | .dict _, g => by simp only [gd] at g; exact nomatch g
theorem gdA_mono {k m : Nat} (h : k ≤ m) : ∀ xs : List PyData, gdA k xs = true → gdA m xs = true
  | [], _ => rfl
  | x :: xs, g => by
    have h' : gd k x = true ∧ gdA k xs = true := by simpa only [gdA, Bool.and_eq_true] using g
    simp only [gdA, gd_mono h x h'.1, gdA_mono h xs h'.2]
    rfl
end
structure Bd (k n w : Nat) (d : PyData) : Prop where
  g : gd k d = true
  dp : d.depth ≤ n
  wt : d.weight ≤ w
theorem Bd.mono {k n w m v j : Nat} {d : PyData} (h : Bd k n w d) (c : k ≤ j) (a : n ≤ m) (b : w ≤ v) : Bd j m v d := ⟨gd_mono c d h.g, Nat.le_trans h.dp a, Nat.le_trans h.wt b⟩
theorem Bd.shs {k n w : Nat} {d : PyData} (h : Bd k n w d) : Shs k n w d := ⟨(gd_lvs d h.g).1, h.dp, h.wt⟩
theorem Bd.shaped {k n w : Nat} {d : PyData} (h : Bd k n w d) (hn : n ≤ 64) : SeqAt.shaped d = true := by
  unfold SeqAt.shaped
  rw [(gd_lvs d h.g).2, decide_eq_true (Nat.le_trans h.dp hn)]
  rfl
theorem depA_mem {n : Nat} : ∀ {ds : List PyData} {d : PyData}, d ∈ ds → PyData.depthAll ds ≤ n → d.depth ≤ n
  | x :: xs, d, hd, h => by
    simp only [PyData.depthAll] at h
    rcases List.mem_cons.mp hd with rfl | hd
    · omega
    · exact depA_mem hd (by omega)
theorem weiA_mem : ∀ {ds : List PyData} {d : PyData}, d ∈ ds → d.weight + 1 ≤ PyData.weightAll ds
  | x :: xs, d, hd => by
    simp only [PyData.weightAll]
    rcases List.mem_cons.mp hd with rfl | hd
    · omega
    · have := weiA_mem hd
      omega
/-- the items of a list or tuple that is small enough -/
structure BdA (k n w : Nat) (ds : List PyData) : Prop where
  g : gdA k ds = true
  dp : PyData.depthAll ds ≤ n
  wt : PyData.weightAll ds ≤ w
theorem BdA.get {k n w : Nat} {ds : List PyData} (h : BdA k n w ds) {d : PyData} (hd : d ∈ ds) : Bd k n w d := ⟨gdA_all.mp h.g d hd, depA_mem hd h.dp, by have := weiA_mem hd; have := h.wt; omega⟩
theorem BdA.tup {k n w : Nat} {ds : List PyData} (h : BdA k n w ds) : Bd k (n + 1) w (.tuple ds) := ⟨by simpa only [gd] using h.g, by have := h.dp; simp only [PyData.depth]; omega, by simpa only [PyData.weight] using h.wt⟩
theorem BdA.lst {k n w : Nat} {ds : List PyData} (h : BdA k n w ds) : Bd k (n + 1) w (.list ds) := ⟨by simpa only [gd] using h.g, by have := h.dp; simp only [PyData.depth]; omega, by simpa only [PyData.weight] using h.wt⟩
theorem Bd.itemsT {k n w : Nat} {ds : List PyData} (h : Bd k n w (.tuple ds)) : 1 ≤ n ∧ BdA k (n - 1) w ds := by
  have := h.dp
  simp only [PyData.depth] at this
  exact ⟨by omega, ⟨by simpa only [gd] using h.g, by omega, by simpa only [PyData.weight] using h.wt⟩⟩
theorem Bd.itemsL {k n w : Nat} {ds : List PyData} (h : Bd k n w (.list ds)) : 1 ≤ n ∧ BdA k (n - 1) w ds := by
  have := h.dp
  simp only [PyData.depth] at this
  exact ⟨by omega, ⟨by simpa only [gd] using h.g, by omega, by simpa only [PyData.weight] using h.wt⟩⟩
theorem weiA_app : ∀ (xs ys : List PyData), PyData.weightAll (xs ++ ys) = PyData.weightAll xs + PyData.weightAll ys
  | [], ys => by simp [PyData.weightAll]
  | x :: xs, ys => by
    simp only [List.cons_append, PyData.weightAll, weiA_app xs ys]
    omega
theorem depA_app : ∀ (xs ys : List PyData), PyData.depthAll (xs ++ ys) = max (PyData.depthAll xs) (PyData.depthAll ys)
  | [], ys => by simp [PyData.depthAll]
  | x :: xs, ys => by
    simp only [List.cons_append, PyData.depthAll, depA_app xs ys]
    omega
theorem BdA.app {k n w m v : Nat} {xs ys : List PyData} (h : BdA k n w xs) (g : BdA k m v ys) : BdA k (max n m) (w + v) (xs ++ ys) := by
  refine ⟨gdA_all.mpr fun x hx => ?_, ?_, ?_⟩
  · rcases List.mem_append.mp hx with hx | hx
    · exact gdA_all.mp h.g x hx
    · exact gdA_all.mp g.g x hx
  · have := h.dp
    have := g.dp
    rw [depA_app]
    omega
  · have := h.wt
    have := g.wt
    rw [weiA_app]
    omega
theorem BdA.one {k n w : Nat} {x : PyData} (h : Bd k n w x) : BdA k n (w + 1) [x] := ⟨by simp only [gdA, h.g]; rfl, by have := h.dp; simp only [PyData.depthAll]; omega, by have := h.wt; simp only [PyData.weightAll]; omega⟩
/-- part of the items -/
theorem BdA.part {k n w : Nat} {xs ys zs : List PyData} (h : BdA k n w (xs ++ ys ++ zs)) : BdA k n (PyData.weightAll xs) xs ∧ BdA k n (PyData.weightAll ys) ys ∧ BdA k n (PyData.weightAll zs) zs ∧ PyData.weightAll xs + PyData.weightAll ys + PyData.weightAll zs ≤ w := by
  have a := h.dp
  have b := h.wt
  rw [depA_app, depA_app] at a
  rw [weiA_app, weiA_app] at b
  have c := gdA_all.mp h.g
  exact ⟨⟨gdA_all.mpr fun x hx => c x (List.mem_append_left _ (List.mem_append_left _ hx)), by omega, Nat.le_refl _⟩,
    ⟨gdA_all.mpr fun x hx => c x (List.mem_append_left _ (List.mem_append_right _ hx)), by omega, Nat.le_refl _⟩,
    ⟨gdA_all.mpr fun x hx => c x (List.mem_append_right _ hx), by omega, Nat.le_refl _⟩, b⟩
theorem BdA.mono {k n w m v j : Nat} {d : List PyData} (h : BdA k n w d) (c : k ≤ j) (a : n ≤ m) (b : w ≤ v) : BdA j m v d := ⟨gdA_mono c d h.g, Nat.le_trans h.dp a, Nat.le_trans h.wt b⟩
/-- repr(x) of any thing -/
def rReprX (K : PySem.W.Frag) : List V → Hp → VK → Prop := fun xs H Q => ∃ v d, xs = [v] ∧ Dp K H v d ∧ Sho d ∧ Q (.str d.shown) H
theorem cr_reprX {X : Cx} (hg : X.A.guards = some []) (hu : X.A.units + 65 < cLine) : CallR X (.builtin "repr") (rReprX X.K) := by
  intro pins s σ H vs us Q I r h
  obtain ⟨v, d, rfl, hd, sh, q⟩ := h
  cases hd with
  | non =>
    obtain ⟨u, rfl, r1⟩ := vals1 r
    cases r1
    exact PySem.P.repr_of_none ⟨.str _, H, I.tok _, ⟨_, rfl⟩, q⟩
  | bl b =>
    obtain ⟨u, rfl, r1⟩ := vals1 r
    cases r1
    exact PySem.P.repr_of_bool ⟨.str _, H, I.tok _, ⟨_, rfl⟩, by cases b <;> exact q⟩
  | int i =>
    obtain ⟨u, rfl, t, rfl⟩ := vals1 r
    have hs := sh.s
    simp only [PyData.showable] at hs
    exact PySem.P.repr_of_int (of_decide_eq_true hs) ⟨.str _, H, I.tok _, ⟨_, rfl⟩, q⟩
  | str z =>
    obtain ⟨u, rfl, t, rfl⟩ := vals1 r
    exact PySem.P.repr_of_str ⟨.str _, H, I.tok _, ⟨_, rfl⟩, q⟩ sh.len
  | lst h1 h2 => exact cr_repr hg hu pins s σ H _ us Q I r ⟨_, _, rfl, .lst h1 h2, sh, q⟩
  | tup h1 h2 => exact cr_repr hg hu pins s σ H _ us Q I r ⟨_, _, rfl, .tup h1 h2, sh, q⟩
/-! things, standing away from some lists -/
mutual
inductive Tg (p : Addr → Prop) (H : Hp) : V → PyData → Prop
  | non : Tg p H .non .none
  | bl (b : Bool) : Tg p H (.bl b) (.bool b)
  | int (i : Int) : Tg p H (.int i) (.int i)
  | str (x : Str) : Tg p H (.str x) (.str x)
  | lst {a : Addr} {xs : List V} {ds : List PyData} : ¬ p a → H a = some (.lst xs) → TgA p H xs ds → Tg p H (.ref a) (.list ds)
  | tup {a : Addr} {xs : List V} {ds : List PyData} : ¬ p a → H a = some (.tup xs) → TgA p H xs ds → Tg p H (.ref a) (.tuple ds)
inductive TgA (p : Addr → Prop) (H : Hp) : List V → List PyData → Prop
  | nil : TgA p H [] []
  | cons {v : V} {vs : List V} {d : PyData} {ds : List PyData} : Tg p H v d → TgA p H vs ds → TgA p H (v :: vs) (d :: ds)
end
mutual
theorem Tg.to {p q : Addr → Prop} {H H' : Hp} (s : ∀ a o, ¬ p a → H a = some o → H' a = some o ∧ ¬ q a) : ∀ (d : PyData) (v : V), Tg p H v d → Tg q H' v d
  | .none, _, h => by cases h; exact .non
  | .bool b, _, h => by cases h; exact .bl b
  | .int i, _, h => by cases h; exact .int i
  | .str x, _, h => by cases h; exact .str x
  | .list ds, _, h => by
    cases h with
    | lst n e t => exact .lst (s _ _ n e).2 (s _ _ n e).1 (TgA.to s ds _ t)
  | .tuple ds, _, h => by
    cases h with
    | tup n e t => exact .tup (s _ _ n e).2 (s _ _ n e).1 (TgA.to s ds _ t)
  | .dict _, _, h => by cases h
theorem TgA.to {p q : Addr → Prop} {H H' : Hp} (s : ∀ a o, ¬ p a → H a = some o → H' a = some o ∧ ¬ q a) : ∀ (ds : List PyData) (vs : List V), TgA p H vs ds → TgA q H' vs ds
  | [], _, h => by cases h; exact .nil
  | d :: ds, _, h => by
    cases h with
    | cons a b => exact .cons (Tg.to s d _ a) (TgA.to s ds _ b)
end
theorem Tg.keep {p : Addr → Prop} {H H' : Hp} {v : V} {d : PyData} (h : Tg p H v d) (s : ∀ a o, ¬ p a → H a = some o → H' a = some o) : Tg p H' v d := h.to fun a o n e => ⟨s a o n e, n⟩
theorem TgA.keep {p : Addr → Prop} {H H' : Hp} {v : List V} {d : List PyData} (h : TgA p H v d) (s : ∀ a o, ¬ p a → H a = some o → H' a = some o) : TgA p H' v d := h.to fun a o n e => ⟨s a o n e, n⟩
theorem Tg.but {l : Addr} {H H' : Hp} {v : V} {d : PyData} (h : Tg (· = l) H v d) (s : But l H H') : Tg (· = l) H' v d := h.keep s
theorem Tg.same {p : Addr → Prop} {H H' : Hp} {v : V} {d : PyData} (h : Tg p H v d) (s : Same H H') : Tg p H' v d := h.keep fun a o _ e => s a o e
theorem TgA.same {p : Addr → Prop} {H H' : Hp} {v : List V} {d : List PyData} (h : TgA p H v d) (s : Same H H') : TgA p H' v d := h.keep fun a o _ e => s a o e
theorem TgA.but {l : Addr} {H H' : Hp} {v : List V} {d : List PyData} (h : TgA (· = l) H v d) (s : But l H H') : TgA (· = l) H' v d := h.keep s
/-- away from a list that is new -/
theorem Tg.new {p : Addr → Prop} {l : Addr} {H : Hp} {v : V} {d : PyData} {o : HO} (h : Tg p H v d) (n : H l = none) : Tg (· = l) (upd H l o) v d := h.to fun a x _ e => ⟨same_upd n a x e, ne_of_none e n⟩
mutual
theorem Tg.dp {K : PySem.W.Frag} {p : Addr → Prop} {H : Hp} : ∀ (d : PyData) (v : V), Tg p H v d → Dp K H v d
  | .none, _, h => by cases h; exact .non
  | .bool b, _, h => by cases h; exact .bl b
  | .int i, _, h => by cases h; exact .int i
  | .str x, _, h => by cases h; exact .str x
  | .list ds, _, h => by
    cases h with
    | lst n e t => exact .lst (SqL.mk e) (TgA.dp ds _ t)
  | .tuple ds, _, h => by
    cases h with
    | tup n e t => exact .tup (SqT.mk e) (TgA.dp ds _ t)
  | .dict _, _, h => by cases h
theorem TgA.dp {K : PySem.W.Frag} {p : Addr → Prop} {H : Hp} : ∀ (ds : List PyData) (vs : List V), TgA p H vs ds → DpAll K H vs ds
  | [], _, h => by cases h; exact .nil
  | d :: ds, _, h => by
    cases h with
    | cons a b => exact .cons (Tg.dp d _ a) (TgA.dp ds _ b)
end
theorem TgA.len {p : Addr → Prop} {H : Hp} : ∀ {ds : List PyData} {vs : List V}, TgA p H vs ds → vs.length = ds.length
  | [], _, h => by cases h; rfl
  | d :: ds, _, h => by
    cases h with
    | cons a b => rw [List.length_cons, List.length_cons, TgA.len b]
theorem TgA.get {p : Addr → Prop} {H : Hp} : ∀ {ds : List PyData} {vs : List V}, TgA p H vs ds → ∀ {i : Nat} {v : V}, vs[i]? = some v → ∃ d, ds[i]? = some d ∧ Tg p H v d
  | [], _, h, i, v, e => by cases h; cases e
  | d :: ds, _, h, i, v, e => by
    cases h with
    | cons a b =>
      cases i with
      | zero => cases e; exact ⟨d, rfl, a⟩
      | succ i => exact TgA.get b (by simpa using e)
theorem TgA.app {p : Addr → Prop} {H : Hp} {ds es : List PyData} {vs us : List V} (h : TgA p H vs ds) (g : TgA p H us es) : TgA p H (vs ++ us) (ds ++ es) := by
  induction ds generalizing vs with
  | nil => cases h; exact g
  | cons d ds ih =>
    cases h with
    | cons a b => exact .cons a (ih b)
theorem TgA.split {p : Addr → Prop} {H : Hp} : ∀ {ds : List PyData} {vs : List V}, TgA p H vs ds → ∀ i : Nat, TgA p H (vs.take i) (ds.take i) ∧ TgA p H (vs.drop i) (ds.drop i)
  | [], _, h, i => by cases h; simp only [List.take_nil, List.drop_nil]; exact ⟨.nil, .nil⟩
  | d :: ds, _, h, i => by
    cases h with
    | cons a b =>
      cases i with
      | zero => exact ⟨.nil, .cons a b⟩
      | succ i => exact ⟨.cons a (TgA.split b i).1, (TgA.split b i).2⟩
def isIntD : PyData → Bool
  | .int _ => true
  | _ => false
def isBlD : PyData → Bool
  | .bool _ => true
  | _ => false
def isStrD : PyData → Bool
  | .str _ => true
  | _ => false
def isTupD : PyData → Bool
  | .tuple _ => true
  | _ => false
def isLstD : PyData → Bool
  | .list _ => true
  | _ => false
theorem kit2 {K : PySem.W.Frag} {t : String} {a b : Bool} (h1 : kitB t "tuple" = some a) (h2 : kitB t "list" = some b) : PySem.W.kitAny K (.type t) [.type "tuple", .type "list"] = some (a || b) :=
  kitAny_cons (kit_ty h1) (fun e => by subst e; exact kitAny_cons (r := b) (kit_ty h2) (fun e => by subst e; exact kitAny_nil) (fun e => e)) (fun e => by rw [e]; rfl)
theorem Tg.ty {K : PySem.W.Frag} {p : Addr → Prop} {H : Hp} {v : V} {d : PyData} (h : Tg p H v d) : ∃ t, TyX K H v t ∧ PySem.W.kitOne K t (.type "int") = some (isIntD d || isBlD d) ∧ PySem.W.kitOne K t (.type "bool") = some (isBlD d) ∧ PySem.W.kitOne K t (.type "tuple") = some (isTupD d) ∧
    PySem.W.kitOne K t (.type "str") = some (isStrD d) ∧ PySem.W.kitAny K t [.type "tuple", .type "list"] = some (isTupD d || isLstD d) := by
  cases h with
  | non => exact ⟨_, .base .non, kit_ty (by show _ = some false; decide +kernel), kit_ty (by show _ = some false; decide +kernel), kit_ty (by show _ = some false; decide +kernel), kit_ty (by show _ = some false; decide +kernel), kit2 (a := false) (b := false) (by decide +kernel) (by decide +kernel)⟩
  | bl b => exact ⟨_, .base (.bl b), kit_ty (by show _ = some true; decide +kernel), kit_ty (by show _ = some true; decide +kernel), kit_ty (by show _ = some false; decide +kernel), kit_ty (by show _ = some false; decide +kernel), kit2 (a := false) (b := false) (by decide +kernel) (by decide +kernel)⟩
  | int b => exact ⟨_, .base (.int b), kit_ty (by show _ = some true; decide +kernel), kit_ty (by show _ = some false; decide +kernel), kit_ty (by show _ = some false; decide +kernel), kit_ty (by show _ = some false; decide +kernel), kit2 (a := false) (b := false) (by decide +kernel) (by decide +kernel)⟩
  | str b => exact ⟨_, .base (.str b), kit_ty (by show _ = some false; decide +kernel), kit_ty (by show _ = some false; decide +kernel), kit_ty (by show _ = some false; decide +kernel), kit_ty (by show _ = some true; decide +kernel), kit2 (a := false) (b := false) (by decide +kernel) (by decide +kernel)⟩
  | lst ne h => exact ⟨_, .base (.lst h), kit_ty (by show _ = some false; decide +kernel), kit_ty (by show _ = some false; decide +kernel), kit_ty (by show _ = some false; decide +kernel), kit_ty (by show _ = some false; decide +kernel), kit2 (a := false) (b := true) (by decide +kernel) (by decide +kernel)⟩
  | tup ne h => exact ⟨_, .base (.tup h), kit_ty (by show _ = some false; decide +kernel), kit_ty (by show _ = some false; decide +kernel), kit_ty (by show _ = some true; decide +kernel), kit_ty (by show _ = some false; decide +kernel), kit2 (a := true) (b := false) (by decide +kernel) (by decide +kernel)⟩
/-! a tuple so many times -/
theorem tuple_once (l : Addr) (items : Array Value) (n : Nat) (dd : Option Addr) (sl : Array (Option Value)) (u : Tok) :
    Meets (Builtin.«tuple.__mul__» ⟨[.ref l, .int 1 u], []⟩) (fun _ R s => s.heap.get? l = some { cls := .type "tuple", dict := dd, data := .seq items n, slots := sl } ∧ R (.ok (.ret (Value.ref l))) { s with toks := s.toks }) :=
  .of_wp fun prog w A R s h => by
    obtain ⟨hp, g, d, tk, os⟩ := s
    obtain ⟨hl, h⟩ := h
    have f1 := AutoSeq1.idx_int
    have c1 : (items.isEmpty || (1 : Int) == 1) = true := by simp
    wp_walk using wpAny_loadPart' hl
    repeat (first
      | (refine wpAny_ite_true (decide_eq_true c1) ?_; wp_walk using wpAny_loadPart' hl)
      | (refine wpAny_ite_false (decide_eq_false (by decide)) ?_; wp_walk using wpAny_loadPart' hl))
    exact ⟨_, rfl, h⟩
def rRepA (K : PySem.W.Frag) : R2 := fun x y H Q => ∃ (l : Addr) (k : Nat) (xs : List V), x = .ref l ∧ y = .int (k : Nat) ∧ SqT K H l xs ∧ xs ≠ [] ∧ 1 ≤ k ∧ xs.length * k ≤ 1000000 ∧ (k = 1 → Q (.ref l) H) ∧
  (2 ≤ k → ∀ p, H p = none → Q (.ref p) (upd H p (.tup (List.replicate k xs).flatten)))
theorem op_repA {X : Cx} : OpR X (binaryOp .Mult) (rRepA X.K) := by
  intro pins s σ H x y v u Q I rx ry h
  obtain ⟨l, k, xs, rfl, rfl, hT, hne, h1, hz, q1, q2⟩ := h
  cases rx
  obtain ⟨t, rfl⟩ := ry
  obtain ⟨its, r, ⟨⟨cls, dd, data, sl⟩, ho, hc, n, hd⟩, hs⟩ := I.tuple hT
  simp only at hc hd
  subst hc hd
  have lx : 0 < xs.length := List.length_pos_iff.mpr hne
  have le : its.length = xs.length := r.length.symm
  have ke : k * xs.length ≤ 1000000 := by
    rw [Nat.mul_comm]
    exact hz
  have kl : k ≤ 1000000 := Nat.le_trans (Nat.le_mul_of_pos_right k lx) ke
  have ne : its.toArray.isEmpty = false := by
    cases its with
    | nil =>
      rw [← le] at lx
      cases lx
    | cons a b => rfl
  by_cases k1 : k = 1
  · subst k1
    refine wpAny_binaryOp_repeat_ref (T := "tuple") (U := "int") (by decide) ⟨_, ho, rfl⟩ (fun s' => typeIs_int s' _ t) noFill_tuple_mul F.fills_int_mul F.slot_int_rmul repeat_tuple F.slot_int_index.lookup
      (call_meets F.slot_int_rmul (typeIs_int s _ t) F.entry_int_rmul (F.args_int_rmul_2 _ _) (int_rmul_tuple _ t l its.toArray n dd sl)
        ⟨ho, rfl, ⟨_, ho, rfl⟩, call_meets F.slot_tuple_mul ⟨_, ho, rfl⟩ F.entry_tuple_mul (F.args_tuple_mul_2 _ _) (tuple_once l its.toArray n dd sl t) ⟨ho, ?_⟩⟩)
    exact ⟨.ref l, H, I, rfl, q1 rfl⟩
  · have k2 : 2 ≤ k := by omega
    have sz : its.toArray.size = xs.length := by rw [List.size_toArray, le]
    have pr : ((its.toArray.size : Nat) : Int) * (k : Int) ≤ 1000000 := by
      rw [sz, ← Int.natCast_mul]
      omega
    have fl : (List.replicate k its).flatten.length ≤ sizeLine := by
      rw [PyProof.Rows.lm_len_rep_flat, le, sizeLine_eq]
      omega
    have d0 : (decide ((k : Int) < -(2 ^ 63)) || decide ((k : Int) ≥ 2 ^ 63)) = false := by
      rw [decide_eq_false (show ¬ (k : Int) < -(2 ^ 63) by omega), decide_eq_false (show ¬ (k : Int) ≥ 2 ^ 63 by omega)] <;> rfl
    have d1 : (its.toArray.isEmpty || (k : Int) == 1) = false := by
      rw [ne, Bool.false_or]
      exact beq_eq_false_iff_ne.mpr (by omega)
    have d2 : (decide ((k : Int) ≤ 0) || its.toArray.isEmpty) = false := by
      rw [ne, Bool.or_false]
      exact decide_eq_false (by omega)
    have d4 : Builtin.Tuple.tupleTooMany (((its.toArray.size : Nat) : Int) * (k : Int)) = false := by
      unfold Builtin.Tuple.tupleTooMany
      rw [sizeLine_eq]
      exact decide_eq_false (by omega)
    refine wpAny_binaryOp_repeat_ref (T := "tuple") (U := "int") (by decide) ⟨_, ho, rfl⟩ (fun s' => typeIs_int s' _ t) noFill_tuple_mul F.fills_int_mul F.slot_int_rmul repeat_tuple F.slot_int_index.lookup
      (call_meets F.slot_int_rmul (typeIs_int s _ t) F.entry_int_rmul (F.args_int_rmul_2 _ _) (int_rmul_tuple _ t l its.toArray n dd sl)
        ⟨ho, rfl, ⟨_, ho, rfl⟩, call_meets F.slot_tuple_mul ⟨_, ho, rfl⟩ F.entry_tuple_mul (F.args_tuple_mul_2 _ _) (tuple_mulW l its.toArray n dd sl (k : Int) t d0 d1 d2 (by omega) d4 (by rw [Int.toNat_natCast, size_rep, List.size_toArray]; exact fl)) ⟨ho, ?_⟩⟩)
    rw [Int.toNat_natCast, size_rep]
    refine ⟨.ref s.heap.objs.size, _, I.laid (t' := s.toks) (o := .tup (List.replicate k xs).flatten) (fun b ob q => Heap.get?_push_of_some _ q) (Nat.le_refl _) ⟨?_, _, r.rep k, IsTup.new _ _⟩, rfl, q2 k2 _ (I.hok.fresh (Nat.le_refl _))⟩
    rw [PyProof.Rows.lm_len_rep_flat, sizeLine_eq]
    omega
/-! the law's own rows -/
def Bits (rs : List Int) : Prop := ∀ x, x ∈ rs → x = 0 ∨ x = 1
theorem Bits.snoc {rs : List Int} {x : Int} (h : Bits rs) (hx : x = 0 ∨ x = 1) : Bits (rs ++ [x]) := fun y hy => by
  rcases List.mem_append.mp hy with hy | hy
  · exact h y hy
  · rw [List.mem_singleton] at hy
    rw [hy]
    exact hx
theorem but_newer {p q : Addr} {H H' : Hp} {o : HO} (a : But p H H') (n : H q = none) : But p H (upd H' q o) := fun c x hn e => by
  rw [upd_ne (ne_of_none e n)]
  exact a c x hn e
theorem Bx.other {H : Hp} {p q : Addr} {n : Nat} {o : HO} (h : Bx H p n) (nq : q ≠ p) : Bx (L2.upd H q o) p n := by
  obtain ⟨a, b, c, hp, r⟩ := h
  exact ⟨a, b, c, by rw [upd_ne (Ne.symm nq)]; exact hp, r⟩
def PV (p D : Addr) (HX : Hp) (k i : Nat) (H1 : Hp) : Prop := ∃ rs : List Int, rs.length = i ∧ Bits rs ∧ But p HX H1 ∧ Bx H1 p (k + i) ∧ H1 D = some (.lst (rs.map V.int))
theorem pv_start {p D : Addr} {HX : Hp} {k : Nat} (nD : HX D = none) (B : Bx HX p k) : PV p D HX k 0 (upd HX D (.lst [])) := ⟨[], rfl, fun _ h => (by cases h), (But.refl p HX).new nD, B.new nD, upd_same⟩
theorem pv_step {p D : Addr} {HX H1 H4 : Hp} {k i : Nat} {x : Int} (nD : HX D = none) (Dp : D ≠ p) (h : PV p D HX k i H1) (b : But p H1 H4) (B : Bx H4 p (k + (i + 1))) (hi : i < 100000) (hx : x = 0 ∨ x = 1) :
    ∃ acc, H4 D = some (.lst acc) ∧ acc.length < sizeLine ∧ PV p D HX k (i + 1) (upd H4 D (.lst (acc ++ [.int x]))) := by
  obtain ⟨rs, hl, hb, b1, _, hD⟩ := h
  have hsl : sizeLine = 16777216 := by decide
  refine ⟨_, b _ _ Dp hD, by rw [List.length_map]; omega, rs ++ [x], by rw [List.length_append, hl]; rfl, hb.snoc hx, but_newer (b1.trans b) nD, B.other Dp, ?_⟩
  rw [upd_same, List.map_append]
  rfl
theorem rep_one (m : Nat) (x : Int) : (List.replicate m [V.int x]).flatten = (List.replicate m x).map V.int := by
  rw [List.map_replicate]
  induction m with
  | zero => rfl
  | succ m ih => rw [List.replicate_succ, List.flatten_cons, ih, List.replicate_succ]; rfl
/-! a tuple no times, too -/
theorem tuple_nought (l : Addr) (items : Array Value) (n : Nat) (dd : Option Addr) (sl : Array (Option Value)) (u : Tok) (hi : items.isEmpty = false) :
    Meets (Builtin.«tuple.__mul__» ⟨[.ref l, .int 0 u], []⟩) (fun _ R s => s.heap.get? l = some { cls := .type "tuple", dict := dd, data := .seq items n, slots := sl } ∧ R (.ok (.ret (Value.ref s.heap.objs.size))) { s with heap := s.heap.push { cls := Value.type "tuple", data := Data.seq #[] }, toks := s.toks }) :=
  .of_wp fun prog w A R s h => by
    obtain ⟨hp, g, d, tk, os⟩ := s
    obtain ⟨hl, h⟩ := h
    have f1 := AutoSeq1.idx_int
    have c1 : (items.isEmpty || (0 : Int) == 1) = false := by rw [hi]; rfl
    have c2 : (decide ((0 : Int) ≤ 0) || items.isEmpty) = true := by simp
    wp_walk using wpAny_loadPart' hl
    repeat (first
      | (refine wpAny_ite_false (decide_eq_false (by rw [c1]; exact Bool.false_ne_true)) ?_; wp_walk using wpAny_loadPart' hl)
      | (refine wpAny_ite_true (decide_eq_true c2) ?_; wp_walk using wpAny_loadPart' hl)
      | (refine wpAny_ite_false (decide_eq_false (by decide)) ?_; wp_walk using wpAny_loadPart' hl))
    exact ⟨_, rfl, h⟩
def rRepB (K : PySem.W.Frag) : R2 := fun x y H Q => ∃ (l : Addr) (k : Nat) (xs : List V), x = .ref l ∧ y = .int (k : Nat) ∧ SqT K H l xs ∧ xs ≠ [] ∧ xs.length * k ≤ 1000000 ∧ (k = 1 → Q (.ref l) H) ∧
  (k ≠ 1 → ∀ p, H p = none → Q (.ref p) (upd H p (.tup (List.replicate k xs).flatten)))
theorem op_repB {X : Cx} : OpR X (binaryOp .Mult) (rRepB X.K) := by
  intro pins s σ H x y v u Q I rx ry h
  obtain ⟨l, k, xs, rfl, rfl, hT, hne, hz, q1, q2⟩ := h
  by_cases k0 : k = 0
  · subst k0
    cases rx
    obtain ⟨t, rfl⟩ := ry
    obtain ⟨its, r, ⟨⟨cls, dd, data, sl⟩, ho, hc, n, hd⟩, hs⟩ := I.tuple hT
    simp only at hc hd
    subst hc hd
    have le : its.length = xs.length := r.length.symm
    have ne : its.toArray.isEmpty = false := by
      cases its with
      | nil => exact absurd (List.eq_nil_of_length_eq_zero le.symm) hne
      | cons a b => rfl
    refine wpAny_binaryOp_repeat_ref (T := "tuple") (U := "int") (by decide) ⟨_, ho, rfl⟩ (fun s' => typeIs_int s' _ t) noFill_tuple_mul F.fills_int_mul F.slot_int_rmul repeat_tuple F.slot_int_index.lookup
      (call_meets F.slot_int_rmul (typeIs_int s _ t) F.entry_int_rmul (F.args_int_rmul_2 _ _) (int_rmul_tuple _ t l its.toArray n dd sl)
        ⟨ho, rfl, ⟨_, ho, rfl⟩, call_meets F.slot_tuple_mul ⟨_, ho, rfl⟩ F.entry_tuple_mul (F.args_tuple_mul_2 _ _) (tuple_nought l its.toArray n dd sl t ne) ⟨ho, ?_⟩⟩)
    exact ⟨.ref s.heap.objs.size, _, I.laid (t' := s.toks) (o := .tup []) (fun b ob q => Heap.get?_push_of_some _ q) (Nat.le_refl _) ⟨Nat.zero_le _, [], .nil, IsTup.new _ _⟩, rfl, q2 (by decide) _ (I.hok.fresh (Nat.le_refl _))⟩
  · exact op_repA pins s σ H _ _ v u Q I rx ry ⟨l, k, xs, rfl, rfl, hT, hne, by omega, hz, q1, fun z => q2 (by omega)⟩
/-- (x,) so many times -/
theorem rep_go {K : PySem.W.Frag} {H : Hp} {t : Addr} {x v : Int} {k : Nat} {Q : VK} (hv : v = (k : Nat)) (ht : H t = some (.tup [.int x])) (hk : k ≤ 100000) (q : ∀ H' p, Same H H' → H' p = some (.tup ((List.replicate k x).map V.int)) → Q (.ref p) H') : rRepB K (.ref t) (.int v) H Q := by
  subst hv
  refine ⟨t, k, _, rfl, rfl, SqT.mk ht, by simp, (show 1 * k ≤ 1000000 by omega), fun z => ?_, fun z p np => ?_⟩
  · subst z
    exact q H t (Same.refl H) ht
  · exact q _ p (same_upd np) (by rw [upd_same, rep_one])
theorem cat_go {K : PySem.W.Frag} {H : Hp} {a b : Addr} {rs ss : List Int} {Q : VK} (ha : H a = some (.tup (rs.map V.int))) (hb : H b = some (.tup (ss.map V.int))) (hl : rs.length + ss.length ≤ 100000)
    (q : ∀ H' p, Same H H' → H' p = some (.tup ((rs ++ ss).map V.int)) → Q (.ref p) H') : rCatA K (.ref a) (.ref b) H Q := by
  have hsl : sizeLine = 16777216 := by decide
  refine ⟨a, b, _, _, rfl, rfl, SqT.mk ha, SqT.mk hb, by rw [List.length_map, List.length_map]; omega, fun z => ?_, fun _ z => ?_, fun _ _ p np => ?_⟩
  · rw [List.map_eq_nil_iff.mp z] at q
    exact q H b (Same.refl H) hb
  · rw [List.map_eq_nil_iff.mp z] at q
    exact q H a (Same.refl H) (by rw [List.append_nil]; exact ha)
  · exact q _ p (same_upd np) (by rw [upd_same, List.map_append])
theorem catK {X : Cx} {K : PySem.W.Frag} (h : X.K = K) : OpR X (binaryOp .Add) (rCatA K) := by
  subst h
  exact op_catA
theorem zipAK {X : Cx} {K : PySem.W.Frag} {e e2 : Expr} {ta : TA} {p pos tpos : Pos} {elts : List Expr} {kk : Nat} (h : X.K = K) (hg : Gl X "zip") (hm : X.mg "zip" = none) (ha : PA X [e, e2] ta)
    (hs : starEach [e, e2] X.env = (false, eval e X.env) :: starEach [e2] X.env := by rfl) (hpl : (backTo pos (starEach [e2] X.env)).any (·.1) = false := by rfl) :
    PI X (.Tuple elts kk tpos) (.Call (.Name "zip" p) [e, e2] [] pos) (RZ.iZipA K ta) := by
  subst h
  exact RZ.pi_zipA hg hm ha hs hpl
def sp_is_number (K : PySem.W.Frag) : Sp := fun vs H Q _ => ∃ (p : Addr → Prop) (x : V) (d : PyData), vs = [x] ∧ Tg p H x d ∧ Q (.bl (isIntD d)) H
theorem ok_is_number (T : Defs K mg) (TT : Tabs T base) : FnOk P w K mg base CX0 1 T.f_is_number T.fd_is_number ["thing"] (sp_is_number K) := by
  refine T.F_is_number.ok sc_is_number (fun vs H Q E h => ?_) (fun cdv A outer s H vs Q E hr h => ?_)
  · obtain ⟨p, x, d, rfl, hx, q⟩ := h
    rfl
  · obtain ⟨p, x, d, rfl, hx, q⟩ := h
    refine ⟨_, PSs.nox (pss_one (ps_ret (pe_and (pe_callB call_isi (by rfl) T.m_isinstance bt_isinstance (pa_cons (pv 0) (pa_cons (pe_bltn (v := .ty "int") (by rfl) T.m_int bt_int rfl) pa_nil))) (pe_one (pe_not (pe_callB call_isi (by rfl) T.m_isinstance bt_isinstance (pa_cons (pv 0) (pa_cons (pe_bltn (v := .ty "bool") (by rfl) T.m_bool bt_bool rfl) pa_nil)))))))), ?_⟩
    obtain ⟨t, ty, ki, kb, _⟩ := hx.ty (K := K)
    refine ⟨x, rfl, _, _, _, _, _, rfl, .ty "int", ty, ki, _, rfl, ?_⟩
    refine ite2 (fun e => ?_) (fun e => ?_)
    · refine ⟨x, rfl, _, _, _, _, _, rfl, .ty "bool", ty, kb, _, rfl, ?_⟩
      have ee : (!isBlD d) = isIntD d := by
        cases d <;> first | rfl | cases e
      rw [ee]
      exact q
    · have ee : isIntD d = false := by
        cases d <;> first | rfl | exact absurd rfl e
      rw [ee] at q
      exact q
def withinD (d : PyData) (lo hi : Int) : Bool := match d with
  | .int i => decide (lo ≤ i ∧ i ≤ hi)
  | _ => false
def sp_is_within (K : PySem.W.Frag) : Sp := fun vs H Q _ => ∃ (p : Addr → Prop) (x : V) (d : PyData) (lo hi : Int), vs = [x, .int lo, .int hi] ∧ Tg p H x d ∧ Q (.bl (withinD d lo hi)) H
theorem ok_is_within (T : Defs K mg) (TT : Tabs T base) : FnOk P w K mg base CX0 2 T.f_is_within T.fd_is_within ["thing", "least", "greatest"] (sp_is_within K) := by
  have G_is_number : FnOk P w K mg base CX0 1 T.f_is_number T.fd_is_number ["thing"] (sp_is_number K) := ok_is_number T TT
  refine T.F_is_within.ok sc_is_within (fun vs H Q E h => ?_) (fun cdv A outer s H vs Q E hr h => ?_)
  · obtain ⟨p, x, d, lo, hi, rfl, hx, q⟩ := h
    rfl
  · obtain ⟨p, x, d, lo, hi, rfl, hx, q⟩ := h
    refine ⟨_, PSs.nox (pss_one (ps_ret (pe_and (pe_call G_is_number (hr.mono (by decide)) (by rfl) T.g_is_number T.F_is_number.kp T.b_is_number .nil pass0 (pa_cons (pv 0) pa_nil)) (pe_one (pe_chain op_le op_le (pv 1) (pv 0) (pv 2)))))), ?_⟩
    refine ⟨x, rfl, p, x, d, rfl, hx, _, rfl, ?_⟩
    cases hx with
    | int i =>
      refine iteT ⟨_, rfl, _, rfl, _, _, rfl, rfl, _, rfl, ?_⟩
      by_cases z : lo ≤ i
      · rw [decide_eq_true z]
        refine iteT ⟨_, rfl, _, _, rfl, rfl, ?_⟩
        have e : decide (i ≤ hi) = withinD (.int i) lo hi := decide_eq_decide.mpr ⟨fun y => ⟨z, y⟩, fun y => y.2⟩
        show Q (.bl (decide (i ≤ hi))) H
        rw [e]
        exact q
      · rw [decide_eq_false z]
        refine iteF ?_
        have e : withinD (.int i) lo hi = false := decide_eq_false (fun y => z y.1)
        rw [e] at q
        exact q
    | _ => exact iteF q
/-! tuples joined, cut, repeated: one way on -/
def rCatS (_ : PySem.W.Frag) : R2 := fun x y H Q => ∃ a b xs ys, x = .ref a ∧ y = .ref b ∧ H a = some (.tup xs) ∧ H b = some (.tup ys) ∧ xs.length + ys.length ≤ sizeLine ∧ ∀ G c, Same H G → G c = some (.tup (xs ++ ys)) → Q (.ref c) G
theorem op_catS {X : Cx} : OpR X (binaryOp .Add) (rCatS X.K) := by
  intro pins s σ H x y v u Q I rx ry h
  obtain ⟨a, b, xs, ys, rfl, rfl, ha, hb, hz, q⟩ := h
  refine op_catA pins s σ H _ _ v u Q I rx ry ⟨a, b, xs, ys, rfl, rfl, SqT.mk ha, SqT.mk hb, hz, fun e => ?_, fun _ e => ?_, fun _ _ p np => ?_⟩
  · subst e
    exact q H b (Same.refl H) hb
  · subst e
    exact q H a (Same.refl H) (by rw [List.append_nil]; exact ha)
  · exact q _ p (same_upd np) upd_same
def rSlS (_ : PySem.W.Frag) : V → Option Int → Option Int → Hp → VK → Prop := fun x lo hi H Q => ∃ a xs, x = .ref a ∧ H a = some (.tup xs) ∧ ∀ G c, Same H G → G c = some (.tup (cutV xs lo hi)) → Q (.ref c) G
theorem sl_tupS {X : Cx} : SlR X (rSlS X.K) := by
  intro pins s σ H x v vl vu lo hi sl Q I rx hs pl pu h
  obtain ⟨a, xs, rfl, ha, q⟩ := h
  refine sl_tupA pins s σ H _ v vl vu lo hi sl Q I rx hs pl pu ⟨a, xs, rfl, SqT.mk ha, fun e => ?_, fun _ p np => ?_⟩
  · refine q H a (Same.refl H) ?_
    unfold cutV
    rw [e.1, e.2, List.drop_zero, Nat.sub_zero, List.take_length]
    exact ha
  · exact q _ p (same_upd np) upd_same
def rRepS (_ : PySem.W.Frag) : R2 := fun x y H Q => ∃ (l : Addr) (k : Nat) (v : V), x = .ref l ∧ y = .int (k : Nat) ∧ H l = some (.tup [v]) ∧ k ≤ 1000000 ∧ ∀ G c, Same H G → G c = some (.tup (List.replicate k v)) → Q (.ref c) G
theorem rep_flat {α : Type} (v : α) : ∀ k : Nat, (List.replicate k [v]).flatten = List.replicate k v
  | 0 => rfl
  | k + 1 => by rw [List.replicate_succ, List.flatten_cons, rep_flat v k, List.replicate_succ]; rfl
theorem op_repS {X : Cx} : OpR X (binaryOp .Mult) (rRepS X.K) := by
  intro pins s σ H x y v u Q I rx ry h
  obtain ⟨l, k, z, rfl, rfl, hl, hk, q⟩ := h
  refine op_repB pins s σ H _ _ v u Q I rx ry ⟨l, k, [z], rfl, rfl, SqT.mk hl, by simp, by simpa using hk, fun e => ?_, fun _ p np => ?_⟩
  · refine q H l (Same.refl H) ?_
    rw [e]
    exact hl
  · refine q _ p (same_upd np) ?_
    rw [rep_flat]
    exact upd_same
theorem cut_lo (xs : List V) (m : Nat) (h : m ≤ xs.length) : cutV xs none (some (m : Nat)) = xs.take m := by
  unfold cutV
  show (xs.drop 0).take _ = _
  rw [HT.sIx_nat, List.drop_zero, show HT.sIx xs.length 0 none = 0 from rfl, Nat.sub_zero, Nat.min_eq_left h]
theorem cut_hi (xs : List V) (m : Nat) : cutV xs (some (m : Nat)) none = xs.drop m := by
  unfold cutV
  rw [HT.sIx_nat, show HT.sIx xs.length xs.length none = xs.length from rfl]
  by_cases h : m ≤ xs.length
  · rw [Nat.min_eq_left h]
    exact List.take_of_length_le (by rw [List.length_drop]; exact Nat.le_refl _)
  · rw [Nat.min_eq_right (by omega), List.drop_of_length_le (Nat.le_refl _), List.drop_of_length_le (by omega), List.take_nil]
/-! str(x) of any thing -/
def strD (d : PyData) : Str := match d with
  | .str z => z
  | d => d.shown
def rStrX (K : PySem.W.Frag) : List V → Hp → VK → Prop := fun xs H Q => ∃ v d, xs = [v] ∧ Dp K H v d ∧ ((∃ z, d = .str z) ∨ Sho d) ∧ Q (.str (strD d)) H
theorem u70g {k : Nat} {A : Around} (r : Room k A) : A.units + 70 < cLine := by
  have := r.un
  omega
theorem call_strX {X : Cx} (hg : X.A.guards = some []) (hu : X.A.units + 70 < cLine) : CallR X (.type "str") (rStrX X.K) := by
  intro pins s σ H vs us Q I r h
  obtain ⟨v, d, rfl, hd, sh, q⟩ := h
  cases hd with
  | non =>
    obtain ⟨u, rfl, r1⟩ := vals1 r
    cases r1
    exact PySem.P.str_of_none ⟨.str _, H, I.tok _, ⟨_, rfl⟩, q⟩
  | bl b =>
    obtain ⟨u, rfl, r1⟩ := vals1 r
    cases r1
    exact PySem.P.str_of_bool ⟨.str _, H, I.tok _, ⟨_, rfl⟩, by cases b <;> exact q⟩
  | int i =>
    obtain ⟨u, rfl, t, rfl⟩ := vals1 r
    rcases sh with ⟨z, e⟩ | sh
    · cases e
    have hs := sh.s
    simp only [PyData.showable] at hs
    exact PySem.P.str_of_int (of_decide_eq_true hs) ⟨.str _, H, I.tok _, ⟨_, rfl⟩, q⟩
  | str z =>
    obtain ⟨u, rfl, t, rfl⟩ := vals1 r
    exact PySem.P.str_of_str ⟨.str _, H, I, ⟨_, rfl⟩, q⟩
  | lst h1 h2 =>
    rcases sh with ⟨z, e⟩ | sh
    · cases e
    obtain ⟨shs, nd, dd, sz⟩ := sh
    rw [Vals.ref1 r]
    obtain ⟨as, rd⟩ := Dp.reads I _ (.ref _) (.ref _) (Dp.lst h1 h2) rfl
    refine str_of_reads rd shs (fun z => by rw [nd] at z; cases z) hg (by omega) (fun _ _ e => e) (fun h' u tk hk => ?_) sz
    exact ⟨.str _, H, I.kept (t' := tk) hk, ⟨_, rfl⟩, q⟩
  | tup h1 h2 =>
    rcases sh with ⟨z, e⟩ | sh
    · cases e
    obtain ⟨shs, nd, dd, sz⟩ := sh
    rw [Vals.ref1 r]
    obtain ⟨as, rd⟩ := Dp.reads I _ (.ref _) (.ref _) (Dp.tup h1 h2) rfl
    refine str_of_reads rd shs (fun z => by rw [nd] at z; cases z) hg (by omega) (fun _ _ e => e) (fun h' u tk hk => ?_) sz
    exact ⟨.str _, H, I.kept (t' := tk) hk, ⟨_, rfl⟩, q⟩
/-! things with tables about -/
mutual
theorem Tg.kp {p q : Addr → Prop} {H H' : Hp} (s1 : ∀ a xs, ¬ p a → H a = some (.lst xs) → H' a = some (.lst xs) ∧ ¬ q a) (s2 : ∀ a xs, ¬ p a → H a = some (.tup xs) → H' a = some (.tup xs) ∧ ¬ q a) : ∀ (d : PyData) (v : V), Tg p H v d → Tg q H' v d
  | .none, _, h => by cases h; exact .non
  | .bool b, _, h => by cases h; exact .bl b
  | .int i, _, h => by cases h; exact .int i
  | .str x, _, h => by cases h; exact .str x
  | .list ds, _, h => by
    cases h with
    | lst n e t => exact .lst (s1 _ _ n e).2 (s1 _ _ n e).1 (TgA.kp s1 s2 ds _ t)
  | .tuple ds, _, h => by
    cases h with
    | tup n e t => exact .tup (s2 _ _ n e).2 (s2 _ _ n e).1 (TgA.kp s1 s2 ds _ t)
  | .dict _, _, h => by cases h
theorem TgA.kp {p q : Addr → Prop} {H H' : Hp} (s1 : ∀ a xs, ¬ p a → H a = some (.lst xs) → H' a = some (.lst xs) ∧ ¬ q a) (s2 : ∀ a xs, ¬ p a → H a = some (.tup xs) → H' a = some (.tup xs) ∧ ¬ q a) : ∀ (ds : List PyData) (vs : List V), TgA p H vs ds → TgA q H' vs ds
  | [], _, h => by cases h; exact .nil
  | d :: ds, _, h => by
    cases h with
    | cons a b => exact .cons (Tg.kp s1 s2 d _ a) (TgA.kp s1 s2 ds _ b)
end
theorem Tg.sam {p : Addr → Prop} {H H' : Hp} {v : V} {d : PyData} (h : Tg p H v d) (s : Sam H H') : Tg p H' v d := h.kp (fun a xs n e => ⟨s.lst e, n⟩) (fun a xs n e => ⟨s.tup e, n⟩)
theorem TgA.sam {p : Addr → Prop} {H H' : Hp} {v : List V} {d : List PyData} (h : TgA p H v d) (s : Sam H H') : TgA p H' v d := h.kp (fun a xs n e => ⟨s.lst e, n⟩) (fun a xs n e => ⟨s.tup e, n⟩)
theorem tg_ints {p : Addr → Prop} {H : Hp} : ∀ rs : List Int, TgA p H (rs.map V.int) (rs.map PyData.int)
  | [] => .nil
  | x :: rs => .cons (.int x) (tg_ints rs)
/-! texts and numbers -/
theorem op_addS {X : Cx} : OpR X (binaryOp .Add) (fun x y H Q => ∃ a b, x = .str a ∧ y = .str b ∧ a.length + b.length ≤ sizeLine ∧ Q (.str (a ++ b)) H) := by
  intro pins s σ H x y v u Q I rx ry h
  obtain ⟨a, b, rfl, rfl, hz, q⟩ := h
  obtain ⟨t, rfl⟩ := rx
  obtain ⟨t', rfl⟩ := ry
  exact add_str (fun t' tk => ⟨.str _, H, I.tok _, ⟨_, rfl⟩, q⟩) hz
theorem op_mulS {X : Cx} : OpR X (binaryOp .Mult) (fun x y H Q => ∃ a i, x = .str a ∧ y = .int i ∧ (i = 0 ∨ i = 1) ∧ ∀ b, (b = Str.empty ∨ b = a) → Q (.str b) H) := by
  intro pins s σ H x y v u Q I rx ry h
  obtain ⟨a, i, rfl, rfl, h, q⟩ := h
  obtain ⟨t, rfl⟩ := rx
  obtain ⟨t', rfl⟩ := ry
  rcases h with rfl | rfl
  · exact PySem.P.mul_str_none (by decide) (by decide) ⟨.str _, H, I.tok _, ⟨_, rfl⟩, q _ (.inl rfl)⟩
  · refine PySem.P.mul_str (by decide) (fun _ h => ?_) (fun _ h => ?_) ?_
    · simp at h
    · simp at h
    · rw [if_neg (by decide), if_pos (by rfl)]
      exact ⟨.str _, H, I, ⟨_, rfl⟩, q _ (.inr rfl)⟩
def numV (v : V) (i : Int) : Prop := v = .int i ∨ ∃ b, v = .bl b ∧ i = if b = true then 1 else 0
theorem op_addN1 {X : Cx} : OpR X (binaryOp .Add) (fun x y H Q => ∃ i j, numV x i ∧ y = .int j ∧ Q (.int (i + j)) H) := by
  intro pins s σ H x y v u Q I rx ry h
  obtain ⟨i, j, hx, rfl, q⟩ := h
  obtain ⟨t', rfl⟩ := ry
  rcases hx with rfl | ⟨b, rfl, rfl⟩
  · obtain ⟨t, rfl⟩ := rx
    exact add_int ⟨.int _, H, I.tok _, ⟨_, rfl⟩, q⟩
  · cases rx
    exact PySem.IntBool.add_bool_int ⟨.int _, H, I.tok _, ⟨_, rfl⟩, q⟩
theorem op_subN1 {X : Cx} : OpR X (binaryOp .Sub) (fun x y H Q => ∃ i j, numV x i ∧ y = .int j ∧ Q (.int (i - j)) H) := by
  intro pins s σ H x y v u Q I rx ry h
  obtain ⟨i, j, hx, rfl, q⟩ := h
  obtain ⟨t', rfl⟩ := ry
  rcases hx with rfl | ⟨b, rfl, rfl⟩
  · obtain ⟨t, rfl⟩ := rx
    exact sub_int ⟨.int _, H, I.tok _, ⟨_, rfl⟩, q⟩
  · cases rx
    exact PySem.IntBool.sub_bool_int ⟨.int _, H, I.tok _, ⟨_, rfl⟩, q⟩
theorem op_subN2 {X : Cx} : OpR X (binaryOp .Sub) (fun x y H Q => ∃ i j, x = .int i ∧ numV y j ∧ Q (.int (i - j)) H) := by
  intro pins s σ H x y v u Q I rx ry h
  obtain ⟨i, j, rfl, hy, q⟩ := h
  obtain ⟨t, rfl⟩ := rx
  rcases hy with rfl | ⟨b, rfl, rfl⟩
  · obtain ⟨t', rfl⟩ := ry
    exact sub_int ⟨.int _, H, I.tok _, ⟨_, rfl⟩, q⟩
  · cases ry
    exact PySem.IntBool.sub_int_bool ⟨.int _, H, I.tok _, ⟨_, rfl⟩, q⟩
theorem call_strN {X : Cx} : CallR X (.type "str") (fun xs H Q => ∃ x i, xs = [x] ∧ numV x i ∧ i.natAbs.log2 < 1920 ∧ ∀ z : Str, (z = Str.ofString (toString i) ∨ z = "True" ∨ z = "False") → Q (.str z) H) := by
  intro pins s σ H xs us Q I r h
  obtain ⟨x, i, rfl, hx, hz, q⟩ := h
  rcases hx with rfl | ⟨b, rfl, _⟩
  · obtain ⟨u, rfl, t, rfl⟩ := vals1 r
    exact PySem.P.str_of_int hz ⟨.str _, H, I.tok _, ⟨_, rfl⟩, q _ (.inl rfl)⟩
  · obtain ⟨u, rfl, r1⟩ := vals1 r
    cases r1
    exact PySem.P.str_of_bool ⟨.str _, H, I.tok _, ⟨_, rfl⟩, q _ (by cases b <;> simp)⟩
theorem call_lenX {X : Cx} : CallR X (.builtin "len") (fun xs H Q => (∃ z, xs = [.str z] ∧ z.length ≤ sizeLine ∧ Q (.int z.length) H) ∨ ∃ p ys, xs = [.ref p] ∧ (SqL X.K H p ys ∨ SqT X.K H p ys) ∧ Q (.int ys.length) H) := by
  intro pins s σ H xs us Q I r h
  rcases h with h | h
  · exact call_len_str pins s σ H xs us Q I r h
  · exact call_len_seq pins s σ H xs us Q I r h
/-! texts and things that are small -/
theorem ok_iff {x : Str} : PyData.strOk x = true ↔ ∀ c, c ∈ x.cps.toList → c < 0x110000 := by
  unfold PyData.strOk
  rw [Array.all_eq_true_iff_forall_mem]
  exact ⟨fun h c hc => by simpa using h c (Array.mem_toList_iff.mp hc), fun h c hc => by simpa using h c (Array.mem_toList_iff.mpr hc)⟩
theorem ok_app {a b : Str} (h : PyData.strOk a = true) (g : PyData.strOk b = true) : PyData.strOk (a ++ b) = true := by
  refine ok_iff.mpr fun c hc => ?_
  have hc : c ∈ (a.cps ++ b.cps).toList := hc
  rw [Array.toList_append] at hc
  rcases List.mem_append.mp hc with hc | hc
  · exact ok_iff.mp h c hc
  · exact ok_iff.mp g c hc
theorem ok_cut {a : Str} (lo hi : Option Int) (h : PyData.strOk a = true) : PyData.strOk (cutS a lo hi) = true := by
  refine ok_iff.mpr fun c hc => ?_
  have hc : c ∈ ((a.cps.toList.drop (HT.sIx a.length 0 lo)).take (HT.sIx a.length a.length hi - HT.sIx a.length 0 lo)).toArray.toList := hc
  rw [List.toList_toArray] at hc
  exact ok_iff.mp h c (List.mem_of_mem_drop (List.mem_of_mem_take hc))
theorem ok_of (s : String) : PyData.strOk (Str.ofString s) = true := by
  refine ok_iff.mpr fun c hc => ?_
  rw [Str.ofString_eq_toList] at hc
  simp only [List.toList_toArray, List.mem_map] at hc
  obtain ⟨x, _, rfl⟩ := hc
  have := x.valid
  rcases this with h | ⟨_, h⟩
  · show x.val.toNat < _
    omega
  · exact h
theorem bd_int {k : Nat} {i : Int} (h : i.natAbs < 10 ^ k) : Bd k 0 (4 * k + 1) (.int i) := ⟨by simp only [gd]; exact decide_eq_true h, (shs_int h).dp, (shs_int h).wt⟩
theorem bd_str {k : Nat} {z : Str} (h : PyData.strOk z = true) : Bd k 0 z.length (.str z) := ⟨by simpa only [gd] using h, by simp only [PyData.depth]; decide, by simp only [PyData.weight]; exact Nat.le_refl _⟩
theorem bd_bl {k : Nat} {b : Bool} : Bd k 0 0 (.bool b) := ⟨rfl, by simp only [PyData.depth]; decide, by simp only [PyData.weight]; decide⟩
theorem bd_len {k n w : Nat} {z : Str} (h : Bd k n w (.str z)) : PyData.strOk z = true ∧ z.length ≤ w := ⟨by simpa only [gd] using h.g, by have := h.wt; simp only [PyData.weight] at this; exact this⟩
theorem pow_t {k : Nat} (h : 2 ≤ k) : 100 ≤ 10 ^ k ∧ 10 ^ (k + 1) = 10 * 10 ^ k := ⟨Nat.le_trans (by decide) (Nat.pow_le_pow_right (n := 10) (by decide) h), by rw [Nat.pow_succ]; omega⟩
/-- six numbers and texts near a number -/
theorem num_bd {k : Nat} {i : Int} {b0 : Bool} {z : Str} (hk : 2 ≤ k) (k20 : k ≤ 20) (hi : i.natAbs < 10 ^ k) (hz : z = Str.ofString (toString i) ∨ z = "True" ∨ z = "False") : ∀ d, d ∈ [PyData.int (i + 1), .int (i - 1), .bool b0, .int 6, .str z, .int (5 - i)] → Bd (k + 1) 0 100 d := by
  obtain ⟨t1, t2⟩ := pow_t hk
  have ok : PyData.strOk z = true ∧ z.length ≤ 100 := by
    rcases hz with rfl | rfl | rfl
    · refine ⟨ok_of _, ?_⟩
      rw [PySem.ofString_length]
      have := int_text_length_le10 (k := k) (by omega) hi
      omega
    · exact ⟨ok_of _, by decide +kernel⟩
    · exact ⟨ok_of _, by decide +kernel⟩
  intro d hd
  simp only [List.mem_cons, List.not_mem_nil, or_false] at hd
  rcases hd with rfl | rfl | rfl | rfl | rfl | rfl
  · exact (bd_int (by omega)).mono (Nat.le_refl _) (Nat.le_refl _) (by omega)
  · exact (bd_int (by omega)).mono (Nat.le_refl _) (Nat.le_refl _) (by omega)
  · exact bd_bl.mono (Nat.le_refl _) (Nat.le_refl _) (by omega)
  · exact (bd_int (by omega)).mono (Nat.le_refl _) (Nat.le_refl _) (by omega)
  · exact (bd_str ok.1).mono (Nat.le_refl _) (Nat.le_refl _) ok.2
  · exact (bd_int (by omega)).mono (Nat.le_refl _) (Nat.le_refl _) (by omega)
theorem ix_at {n j : Nat} (h : j < n) : ixN n (j : Int) = some j := by
  unfold ixN
  rw [if_pos (by omega), if_pos (by omega)]
  simp
theorem ix_prev {n j : Nat} (h : j < n) : ∃ m, ixN n ((j : Int) - 1) = some m ∧ m < n := by
  by_cases z : j = 0
  · subst z
    exact ⟨n - 1, by unfold ixN; rw [if_neg (by omega), if_pos (by omega)]; exact congrArg some (by omega), by omega⟩
  · exact ⟨j - 1, by rw [show (j : Int) - 1 = ((j - 1 : Nat) : Int) by omega]; exact ix_at (by omega), by omega⟩
theorem weiA_set : ∀ {ds : List PyData} {i : Nat} {d x : PyData}, ds[i]? = some d → PyData.weightAll (ds.set i x) + d.weight = PyData.weightAll ds + x.weight
  | y :: ds, 0, d, x, h => by
    cases h
    simp only [List.set_cons_zero, PyData.weightAll]
    omega
  | y :: ds, i + 1, d, x, h => by
    have := weiA_set (ds := ds) (i := i) (d := d) (x := x) (by simpa using h)
    simp only [List.set_cons_succ, PyData.weightAll]
    omega
theorem weiA_erase : ∀ (ds : List PyData) (i : Nat), PyData.weightAll (ds.eraseIdx i) ≤ PyData.weightAll ds
  | [], _ => by simp
  | y :: ds, 0 => by
    simp only [List.eraseIdx_cons_zero, PyData.weightAll]
    omega
  | y :: ds, i + 1 => by
    have := weiA_erase ds i
    simp only [List.eraseIdx_cons_succ, PyData.weightAll]
    omega
theorem BdA.of {k n w : Nat} {ds : List PyData} (h : ∀ d, d ∈ ds → gd k d = true ∧ d.depth ≤ n) (l : PyData.weightAll ds ≤ w) : BdA k n w ds := ⟨gdA_all.mpr fun d hd => (h d hd).1, depA_of ds fun d hd => (h d hd).2, l⟩
theorem BdA.each {k n w : Nat} {ds : List PyData} (h : BdA k n w ds) {d : PyData} (hd : d ∈ ds) : gd k d = true ∧ d.depth ≤ n := ⟨gdA_all.mp h.g d hd, depA_mem hd h.dp⟩
theorem BdA.erase {k n w : Nat} {ds : List PyData} (h : BdA k n w ds) (i : Nat) : BdA k n w (ds.eraseIdx i) := .of (fun _ hd => h.each (List.mem_of_mem_eraseIdx hd)) (Nat.le_trans (weiA_erase ds i) h.wt)
theorem BdA.set {k n w v : Nat} {ds : List PyData} (h : BdA k n w ds) {i : Nat} {d x : PyData} (hd : ds[i]? = some d) (g : gd k x = true) (p : x.depth ≤ n) (l : PyData.weightAll ds + x.weight ≤ v + d.weight) : BdA k n v (ds.set i x) := .of (fun y hy => by
  rcases List.mem_or_eq_of_mem_set hy with hy | rfl
  · exact h.each hy
  · exact ⟨g, p⟩) (by have := weiA_set (x := x) hd; omega)
theorem weiA_ins (ds : List PyData) (i : Nat) (x : PyData) : PyData.weightAll (ds.take i ++ [x] ++ ds.drop i) = PyData.weightAll ds + x.weight + 1 := by
  have := weiA_app (ds.take i) (ds.drop i)
  rw [List.take_append_drop] at this
  rw [weiA_app, weiA_app, this]
  simp only [PyData.weightAll]
  omega
theorem BdA.ins {k n w v : Nat} {ds : List PyData} (h : BdA k n w ds) (i : Nat) {x : PyData} (g : gd k x = true) (p : x.depth ≤ n) (l : w + x.weight + 1 ≤ v) : BdA k n v (ds.take i ++ [x] ++ ds.drop i) := .of (fun y hy => by
  rcases List.mem_append.mp hy with hy | hy
  · rcases List.mem_append.mp hy with hy | hy
    · exact h.each (List.mem_of_mem_take hy)
    · rw [List.mem_singleton.mp hy]
      exact ⟨g, p⟩
  · exact h.each (List.mem_of_mem_drop hy)) (by rw [weiA_ins]; have := h.wt; omega)
theorem TgA.set {p : Addr → Prop} {H : Hp} {x : V} {d : PyData} (hx : Tg p H x d) : ∀ {ds : List PyData} {vs : List V}, TgA p H vs ds → ∀ i : Nat, TgA p H (vs.set i x) (ds.set i d)
  | [], _, h, i => by cases h; exact .nil
  | e :: ds, _, h, i => by
    cases h with
    | cons a b =>
      cases i with
      | zero => exact .cons hx b
      | succ i => exact .cons a (TgA.set hx b i)
theorem TgA.erase {p : Addr → Prop} {H : Hp} : ∀ {ds : List PyData} {vs : List V}, TgA p H vs ds → ∀ i : Nat, TgA p H (vs.eraseIdx i) (ds.eraseIdx i)
  | [], _, h, i => by cases h; exact .nil
  | e :: ds, _, h, i => by
    cases h with
    | cons a b =>
      cases i with
      | zero => exact b
      | succ i => exact .cons a (TgA.erase b i)
theorem TgA.ins {p : Addr → Prop} {H : Hp} {ds : List PyData} {vs : List V} (h : TgA p H vs ds) {x : V} {d : PyData} (hx : Tg p H x d) (i : Nat) : TgA p H (vs.take i ++ [x] ++ vs.drop i) (ds.take i ++ [d] ++ ds.drop i) := ((h.split i).1.app (.cons hx .nil)).app (h.split i).2
theorem at_menuV {Pr : V → Prop} {xs : List V} {r : Int} (h0 : 0 ≤ r) (h1 : r < xs.length) (hx : ∀ x, x ∈ xs → Pr x) : ∃ v, atI xs r = some v ∧ Pr v := by
  obtain ⟨j, rfl⟩ := Int.eq_ofNat_of_zero_le h0
  have hj : j < xs.length := by omega
  exact ⟨xs[j], atI_nat (List.getElem?_eq_getElem hj), hx _ (List.getElem_mem hj)⟩
theorem len_wei : ∀ ds : List PyData, ds.length ≤ PyData.weightAll ds
  | [] => Nat.zero_le _
  | x :: ds => by
    have := len_wei ds
    simp only [List.length_cons, PyData.weightAll]
    omega
theorem Bx.upd {H : Hp} {p l : Addr} {n : Nat} {o : HO} (B : Bx H p n) (h : l ≠ p) : Bx (upd H l o) p n := by
  obtain ⟨a, b, c, e, r⟩ := B
  exact ⟨a, b, c, (upd_ne h.symm).trans e, r⟩
/-- lists that stand -/
def Sts (E : Addr → Prop) (H : Hp) : Prop := ∀ q, E q → H q ≠ none
theorem Sts.not {E : Addr → Prop} {H : Hp} {t : Addr} (h : Sts E H) (n : H t = none) : ¬ E t := fun e => h t e n
theorem Sts.same {E : Addr → Prop} {H H' : Hp} (h : Sts E H) (s : Same H H') : Sts E H' := fun q e n => by
  cases z : H q with
  | none => exact h q e z
  | some o =>
    rw [s _ _ z] at n
    cases n
theorem Bx.some {H : Hp} {p : Addr} {n : Nat} (B : Bx H p n) : H p ≠ none := by
  obtain ⟨a, b, c, h, _⟩ := B
  rw [h]
  exact fun z => by cases z
theorem Sts.but {E : Addr → Prop} {H H' : Hp} {p : Addr} {n : Nat} (h : Sts E H) (s : But p H H') (B : Bx H' p n) : Sts E H' := fun q e z => by
  by_cases qp : q = p
  · subst qp
    exact B.some z
  · cases y : H q with
    | none => exact h q e y
    | some o =>
      rw [s _ _ qp y] at z
      cases z
theorem Tg.bt {E : Addr → Prop} {H H' : Hp} {v : V} {d : PyData} {p : Addr} (h : Tg E H v d) (e : E p) (s : But p H H') : Tg E H' v d := h.keep fun a o n q => s a o (fun z => n (z ▸ e)) q
theorem TgA.bt {E : Addr → Prop} {H H' : Hp} {v : List V} {d : List PyData} {p : Addr} (h : TgA E H v d) (e : E p) (s : But p H H') : TgA E H' v d := h.keep fun a o n q => s a o (fun z => n (z ▸ e)) q
/-! slices of lists and tuples alike; numbers times things -/
def rSlU (K : PySem.W.Frag) : V → Option Int → Option Int → Hp → VK → Prop := fun x lo hi H Q => ∃ a xs, x = .ref a ∧ (H a = some (.lst xs) ∨ H a = some (.tup xs)) ∧ ∀ G c, Same H G → (SqL K G c (cutV xs lo hi) ∨ SqT K G c (cutV xs lo hi)) → Q (.ref c) G
theorem sl_any {X : Cx} : SlR X (rSlU X.K) := by
  intro pins s σ H x v vl vu lo hi sl Q I rx hs pl pu h
  obtain ⟨a, xs, rfl, ha, q⟩ := h
  rcases ha with ha | ha
  · exact sl_list pins s σ H _ v vl vu lo hi sl Q I rx hs pl pu ⟨a, xs, rfl, SqL.mk ha, fun p np => q _ p (same_upd np) (.inl (SqL.mk upd_same))⟩
  · exact sl_tupS pins s σ H _ v vl vu lo hi sl Q I rx hs pl pu ⟨a, xs, rfl, ha, fun G c sG hc => q G c sG (.inr (SqT.mk hc))⟩
theorem cut_mid (xs : List V) (j : Nat) (x : V) (h : xs[j]? = some x) : cutV xs (some (j : Nat)) (some ((j : Nat) + 1)) = [x] := by
  have jl := (List.getElem?_eq_some_iff.mp h).1
  unfold cutV
  rw [show ((j : Int) + 1) = ((j + 1 : Nat) : Int) by omega]
  have e1 : HT.sIx xs.length 0 (some ((j : Nat) : Int)) = j := by
    rw [HT.sIx_nat]
    omega
  have e2 : HT.sIx xs.length xs.length (some ((j + 1 : Nat) : Int)) = j + 1 := by
    rw [HT.sIx_nat]
    omega
  rw [e1, e2, show j + 1 - j = 1 by omega, List.drop_eq_getElem_cons jl]
  simp only [List.take_succ_cons, List.take_zero]
  rw [(List.getElem?_eq_some_iff.mp h).2]
theorem split_at {α : Type} (xs : List α) (j : Nat) (x : α) (h : xs[j]? = some x) : xs = xs.take j ++ [x] ++ xs.drop (j + 1) := by
  have jl := (List.getElem?_eq_some_iff.mp h).1
  have e := (List.getElem?_eq_some_iff.mp h).2
  have := List.take_append_drop j xs
  rw [List.drop_eq_getElem_cons jl, e] at this
  rw [List.append_assoc]
  exact this.symm
theorem op_mulN2 {X : Cx} : OpR X (binaryOp .Mult) (fun x y H Q => ∃ i j, x = .int i ∧ numV y j ∧ Builtin.Int.intBits i ≤ 64 ∧ Q (.int (i * j)) H) := by
  intro pins s σ H x y v u Q I rx ry h
  obtain ⟨i, j, rfl, hy, hb, q⟩ := h
  obtain ⟨t, rfl⟩ := rx
  rcases hy with rfl | ⟨b, rfl, rfl⟩
  · obtain ⟨t', rfl⟩ := ry
    exact mul_int ⟨.int _, H, I.tok _, ⟨_, rfl⟩, q⟩ (IntMulOk.of_left hb)
  · cases ry
    exact PySem.IntBool.mul_int_bool ⟨.int _, H, I.tok _, ⟨_, rfl⟩, q⟩
/-! makers as things -/
theorem Tg.tupv {p : Addr → Prop} {H : Hp} {v : V} {ds : List PyData} (h : Tg p H v (.tuple ds)) : ∃ a xs, v = .ref a ∧ ¬ p a ∧ H a = some (.tup xs) ∧ TgA p H xs ds := by
  cases h with
  | tup np ha hx => exact ⟨_, _, rfl, np, ha, hx⟩
theorem Tg.intv {p : Addr → Prop} {H : Hp} {v : V} {i : Int} (h : Tg p H v (.int i)) : v = .int i := by
  cases h
  rfl
theorem Tg.strv {p : Addr → Prop} {H : Hp} {v : V} {z : Str} (h : Tg p H v (.str z)) : v = .str z := by
  cases h
  rfl
theorem TgA.ints {p : Addr → Prop} {H : Hp} : ∀ {ns : List Int} {xs : List V}, TgA p H xs (ns.map PyData.int) → xs = ns.map V.int
  | [], _, h => by cases h; rfl
  | n :: ns, _, h => by
    cases h with
    | cons a b => rw [a.intv, TgA.ints b]; rfl
theorem TgA.of_ints {p : Addr → Prop} {H : Hp} : ∀ (ns : List Int), TgA p H (ns.map V.int) (ns.map PyData.int)
  | [] => .nil
  | n :: ns => .cons (.int n) (TgA.of_ints ns)
theorem TgA.two {p : Addr → Prop} {H : Hp} {xs : List V} {a b : PyData} (h : TgA p H xs [a, b]) : ∃ x y, xs = [x, y] ∧ Tg p H x a ∧ Tg p H y b := by
  cases h with
  | cons h1 h =>
    cases h with
    | cons h2 h => cases h; exact ⟨_, _, rfl, h1, h2⟩
theorem TgA.three {p : Addr → Prop} {H : Hp} {xs : List V} {a b c : PyData} (h : TgA p H xs [a, b, c]) : ∃ x y z, xs = [x, y, z] ∧ Tg p H x a ∧ Tg p H y b ∧ Tg p H z c := by
  cases h with
  | cons h1 h =>
    obtain ⟨x, y, rfl, h2, h3⟩ := h.two
    exact ⟨_, _, _, rfl, h1, h2, h3⟩
theorem TgA.four {p : Addr → Prop} {H : Hp} {xs : List V} {a b c d : PyData} (h : TgA p H xs [a, b, c, d]) : ∃ x y z w, xs = [x, y, z, w] ∧ Tg p H x a ∧ Tg p H y b ∧ Tg p H z c ∧ Tg p H w d := by
  cases h with
  | cons h1 h =>
    obtain ⟨x, y, z, rfl, h2, h3, h4⟩ := h.three
    exact ⟨_, _, _, _, rfl, h1, h2, h3, h4⟩
def mkd : Mk → PyData
  | .counter r s t => .tuple [.str "counter", .int (r : Nat), .int (s : Nat), .int (t : Nat)]
  | .table ns => .tuple [.str "table", .tuple (ns.map PyData.int)]
  | .turned w s => .tuple [.str "turned", .int (w : Nat), .int (s : Nat)]
  | .register w p s => .tuple [.str "register", .int (w : Nat), .int (p : Nat), .int (s : Nat)]
  | .slow n m => .tuple [.str "slow", .int (n : Nat), mkd m]
  | .slip n m => .tuple [.str "slip", .int (n : Nat), mkd m]
  | .late n m => .tuple [.str "late", .int (n : Nat), mkd m]
theorem tg_mk {p : Addr → Prop} {H : Hp} : ∀ {m : Mk} {v : V}, Tg p H v (mkd m) → MkAt H m v
  | .counter r s t, _, h => by
    obtain ⟨a, xs, rfl, _, ha, hx⟩ := Tg.tupv h
    obtain ⟨x, y, z, w, rfl, h1, h2, h3, h4⟩ := hx.four
    exact ⟨a, rfl, by rw [ha, h1.strv, h2.intv, h3.intv, h4.intv]⟩
  | .table ns, _, h => by
    obtain ⟨a, xs, rfl, _, ha, hx⟩ := Tg.tupv h
    obtain ⟨x, y, rfl, h1, h2⟩ := hx.two
    obtain ⟨b, ys, rfl, _, hb, hy⟩ := Tg.tupv h2
    exact ⟨a, b, rfl, by rw [ha, h1.strv], by rw [hb, hy.ints]⟩
  | .turned w s, _, h => by
    obtain ⟨a, xs, rfl, _, ha, hx⟩ := Tg.tupv h
    obtain ⟨x, y, z, rfl, h1, h2, h3⟩ := hx.three
    exact ⟨a, rfl, by rw [ha, h1.strv, h2.intv, h3.intv]⟩
  | .register w q s, _, h => by
    obtain ⟨a, xs, rfl, _, ha, hx⟩ := Tg.tupv h
    obtain ⟨x, y, z, w, rfl, h1, h2, h3, h4⟩ := hx.four
    exact ⟨a, rfl, by rw [ha, h1.strv, h2.intv, h3.intv, h4.intv]⟩
  | .slow n m, _, h => by
    obtain ⟨a, xs, rfl, _, ha, hx⟩ := Tg.tupv h
    obtain ⟨x, y, z, rfl, h1, h2, h3⟩ := hx.three
    exact ⟨a, z, rfl, by rw [ha, h1.strv, h2.intv], tg_mk h3⟩
  | .slip n m, _, h => by
    obtain ⟨a, xs, rfl, _, ha, hx⟩ := Tg.tupv h
    obtain ⟨x, y, z, rfl, h1, h2, h3⟩ := hx.three
    exact ⟨a, z, rfl, by rw [ha, h1.strv, h2.intv], tg_mk h3⟩
  | .late n m, _, h => by
    obtain ⟨a, xs, rfl, _, ha, hx⟩ := Tg.tupv h
    obtain ⟨x, y, z, rfl, h1, h2, h3⟩ := hx.three
    exact ⟨a, z, rfl, by rw [ha, h1.strv, h2.intv], tg_mk h3⟩
theorem mk_tg {p : Addr → Prop} {H : Hp} (np : ∀ a xs, H a = some (.tup xs) → ¬ p a) : ∀ {m : Mk} {v : V}, MkAt H m v → Tg p H v (mkd m)
  | .counter r s t, _, ⟨a, e, h⟩ => by rw [e]; exact .tup (np _ _ h) h (.cons (.str _) (.cons (.int _) (.cons (.int _) (.cons (.int _) .nil))))
  | .table ns, _, ⟨a, b, e, h, k⟩ => by rw [e]; exact .tup (np _ _ h) h (.cons (.str _) (.cons (.tup (np _ _ k) k (TgA.of_ints ns)) .nil))
  | .turned w s, _, ⟨a, e, h⟩ => by rw [e]; exact .tup (np _ _ h) h (.cons (.str _) (.cons (.int _) (.cons (.int _) .nil)))
  | .register w q s, _, ⟨a, e, h⟩ => by rw [e]; exact .tup (np _ _ h) h (.cons (.str _) (.cons (.int _) (.cons (.int _) (.cons (.int _) .nil))))
  | .slow n m, _, ⟨a, x, e, h, k⟩ => by rw [e]; exact .tup (np _ _ h) h (.cons (.str _) (.cons (.int _) (.cons (mk_tg np k) .nil)))
  | .slip n m, _, ⟨a, x, e, h, k⟩ => by rw [e]; exact .tup (np _ _ h) h (.cons (.str _) (.cons (.int _) (.cons (mk_tg np k) .nil)))
  | .late n m, _, ⟨a, x, e, h, k⟩ => by rw [e]; exact .tup (np _ _ h) h (.cons (.str _) (.cons (.int _) (.cons (mk_tg np k) .nil)))
theorem map_int_inj : ∀ {xs ys : List Int}, xs.map PyData.int = ys.map PyData.int → xs = ys
  | [], [], _ => rfl
  | [], _ :: _, h => by cases h
  | _ :: _, [], h => by cases h
  | x :: xs, y :: ys, h => by
    simp only [List.map_cons, List.cons.injEq, PyData.int.injEq] at h
    rw [h.1, map_int_inj h.2]
theorem tup_in {xs ys : List PyData} (h : PyData.tuple xs = .tuple ys) : xs = ys := PyData.tuple.inj h
theorem mkd_inj : ∀ {m k : Mk}, mkd m = mkd k → m = k
  | .counter _ _ _, k, h => by
    cases k <;> simp only [mkd, PyData.tuple.injEq, List.cons.injEq, PyData.str.injEq, PyData.int.injEq, and_true, reduceCtorEq, and_false, false_and] at h
    all_goals first
      | exact absurd h.1 (by decide +kernel)
      | (obtain ⟨_, h1, h2, h3⟩ := h
         rw [Int.ofNat.inj h1, Int.ofNat.inj h2, Int.ofNat.inj h3])
  | .table _, k, h => by
    cases k <;> simp only [mkd, PyData.tuple.injEq, List.cons.injEq, PyData.str.injEq, PyData.int.injEq, and_true, reduceCtorEq, and_false, false_and] at h
    all_goals first
      | exact absurd h.1 (by decide +kernel)
      | (obtain ⟨_, h1⟩ := h
         rw [map_int_inj h1])
  | .turned _ _, k, h => by
    cases k <;> simp only [mkd, PyData.tuple.injEq, List.cons.injEq, PyData.str.injEq, PyData.int.injEq, and_true, reduceCtorEq, and_false, false_and] at h
    all_goals first
      | exact absurd h.1 (by decide +kernel)
      | (obtain ⟨_, h1, h2⟩ := h
         rw [Int.ofNat.inj h1, Int.ofNat.inj h2])
  | .register _ _ _, k, h => by
    cases k <;> simp only [mkd, PyData.tuple.injEq, List.cons.injEq, PyData.str.injEq, PyData.int.injEq, and_true, reduceCtorEq, and_false, false_and] at h
    all_goals first
      | exact absurd h.1 (by decide +kernel)
      | (obtain ⟨_, h1, h2, h3⟩ := h
         rw [Int.ofNat.inj h1, Int.ofNat.inj h2, Int.ofNat.inj h3])
  | .slow _ _, k, h => by
    cases k <;> simp only [mkd, PyData.tuple.injEq, List.cons.injEq, PyData.str.injEq, PyData.int.injEq, and_true, reduceCtorEq, and_false, false_and] at h
    all_goals first
      | exact absurd h.1 (by decide +kernel)
      | (obtain ⟨_, h1, h2⟩ := h
         rw [Int.ofNat.inj h1, mkd_inj h2])
  | .slip _ _, k, h => by
    cases k <;> simp only [mkd, PyData.tuple.injEq, List.cons.injEq, PyData.str.injEq, PyData.int.injEq, and_true, reduceCtorEq, and_false, false_and] at h
    all_goals first
      | exact absurd h.1 (by decide +kernel)
      | (obtain ⟨_, h1, h2⟩ := h
         rw [Int.ofNat.inj h1, mkd_inj h2])
  | .late _ _, k, h => by
    cases k <;> simp only [mkd, PyData.tuple.injEq, List.cons.injEq, PyData.str.injEq, PyData.int.injEq, and_true, reduceCtorEq, and_false, false_and] at h
    all_goals first
      | exact absurd h.1 (by decide +kernel)
      | (obtain ⟨_, h1, h2⟩ := h
         rw [Int.ofNat.inj h1, mkd_inj h2])
/-- makers that the program takes, as to their own steps -/
def Mk.Vd : Mk → Prop
  | .counter r s _ => 1 ≤ s ∧ s ≤ r ∧ Nat.gcd s r = 1
  | _ => True
def plainD (d : PyData) : Prop := ∃ m : Mk, d = mkd m ∧ m.Pl ∧ m.Vd
def isMkD (d : PyData) : Prop := ∃ m : Mk, d = mkd m ∧ m.Ok ∧ m.inn.Vd ∧ m.dep ≤ 3 ∧ m.rnd ≤ 4096
/-- what a plain maker's first part tells of the others -/
theorem pl_cases {ds : List PyData} (h : plainD (.tuple ds)) :
    (∃ r s t : Nat, ds = [.str "counter", .int r, .int s, .int t] ∧ (1 ≤ r ∧ r ≤ 64) ∧ (1 ≤ s ∧ s ≤ r) ∧ Nat.gcd s r = 1 ∧ t < r) ∨
    (∃ w s : Nat, ds = [.str "turned", .int w, .int s] ∧ (1 ≤ w ∧ w ≤ 6) ∧ s < 2 ^ w) ∨
    (∃ w q s : Nat, ds = [.str "register", .int w, .int q, .int s] ∧ RgW w q ∧ 1 ≤ s ∧ s < 2 ^ w) ∨
    (∃ ns : List Int, ds = [.str "table", .tuple (ns.map PyData.int)] ∧ (1 ≤ ns.length ∧ ns.length ≤ 64) ∧ ∀ x, x ∈ ns → 0 ≤ x ∧ x ≤ 63) := by
  obtain ⟨m, e, pl, vd⟩ := h
  cases m with
  | counter r s t => exact .inl ⟨r, s, t, tup_in e, ⟨pl.1, pl.2.1⟩, ⟨vd.1, vd.2.1⟩, vd.2.2, pl.2.2.2⟩
  | turned w s => exact .inr (.inl ⟨w, s, tup_in e, ⟨pl.1, pl.2.1⟩, pl.2.2⟩)
  | register w q s => exact .inr (.inr (.inl ⟨w, q, s, tup_in e, pl.1, pl.2.1, pl.2.2⟩))
  | table ns => exact .inr (.inr (.inr ⟨ns, tup_in e, ⟨pl.1, pl.2.1⟩, pl.2.2⟩))
  | _ => exact pl.elim
theorem isInt_is {d : PyData} (h : isIntD d = true) : ∃ i, d = .int i := by
  cases d <;> first | exact ⟨_, rfl⟩ | cases h
theorem within_is {d : PyData} {lo hi : Int} (h : withinD d lo hi = true) : ∃ i, d = .int i ∧ lo ≤ i ∧ i ≤ hi := by
  cases d <;> first | exact ⟨_, rfl, (of_decide_eq_true h).1, (of_decide_eq_true h).2⟩ | cases h
theorem within_no {i lo hi : Int} (h : withinD (.int i) lo hi = false) : ¬ (lo ≤ i ∧ i ≤ hi) := fun z => by
  have : withinD (.int i) lo hi = true := decide_eq_true z
  rw [this] at h
  cases h
/-- what stands around a thing -/
def arD (d : PyData) : Option PyData := match d with
  | .tuple [.str z, x, e] => if z = "late" then (if withinD x 0 64 then some e else none) else if z = "slow" ∨ z = "slip" then (if withinD x 1 64 then some e else none) else none
  | _ => none
theorem arD_is {d e : PyData} (h : arD d = some e) : ∃ (z : Str) (n : Nat), d = .tuple [.str z, .int (n : Nat), e] ∧ ((z = "late" ∧ n ≤ 64) ∨ (z = "slow" ∧ 1 ≤ n ∧ n ≤ 64) ∨ (z = "slip" ∧ 1 ≤ n ∧ n ≤ 64)) := by
  unfold arD at h
  split at h
  · rename_i z x e'
    split at h
    · rename_i hz
      split at h
      · rename_i hw
        obtain ⟨i, rfl, l, u⟩ := within_is hw
        obtain ⟨n, rfl⟩ := nat_of l
        cases h
        exact ⟨z, n, rfl, .inl ⟨hz, by omega⟩⟩
      · cases h
    · split at h
      · rename_i hz
        split at h
        · rename_i hw
          obtain ⟨i, rfl, l, u⟩ := within_is hw
          obtain ⟨n, rfl⟩ := nat_of (show 0 ≤ i by omega)
          cases h
          rcases hz with hz | hz
          · exact ⟨z, n, rfl, .inr (.inl ⟨hz, by omega, by omega⟩)⟩
          · exact ⟨z, n, rfl, .inr (.inr ⟨hz, by omega, by omega⟩)⟩
        · cases h
      · cases h
  · cases h
theorem arD_slow {n : Nat} {e : PyData} (h : 1 ≤ n ∧ n ≤ 64) : arD (.tuple [.str "slow", .int (n : Nat), e]) = some e := by
  have w : withinD (.int (n : Nat)) 1 64 = true := decide_eq_true (by omega)
  unfold arD
  dsimp only
  rw [if_neg (by decide +kernel), if_pos (.inl rfl), w]
  rfl
theorem arD_slip {n : Nat} {e : PyData} (h : 1 ≤ n ∧ n ≤ 64) : arD (.tuple [.str "slip", .int (n : Nat), e]) = some e := by
  have w : withinD (.int (n : Nat)) 1 64 = true := decide_eq_true (by omega)
  unfold arD
  dsimp only
  rw [if_neg (by decide +kernel), if_pos (.inr rfl), w]
  rfl
theorem arD_late {n : Nat} {e : PyData} (h : n ≤ 64) : arD (.tuple [.str "late", .int (n : Nat), e]) = some e := by
  have w : withinD (.int (n : Nat)) 0 64 = true := decide_eq_true (by omega)
  unfold arD
  dsimp only
  rw [if_pos rfl, w]
  rfl
theorem arD_mk {m : Mk} (ok : m.Ok) : (m.dep = 0 ∧ m.Pl ∧ arD (mkd m) = none) ∨ ∃ m', arD (mkd m) = some (mkd m') ∧ m'.Ok ∧ m.dep = m'.dep + 1 ∧ m.inn = m'.inn := by
  cases m with
  | counter r s t => exact .inl ⟨rfl, ok, rfl⟩
  | table ns => exact .inl ⟨rfl, ok, rfl⟩
  | turned w s =>
    refine .inl ⟨rfl, ok, ?_⟩
    unfold mkd arD
    dsimp only
    rw [if_neg (by decide +kernel), if_neg (by decide +kernel)]
  | register w q s => exact .inl ⟨rfl, ok, rfl⟩
  | slow n m => exact .inr ⟨m, arD_slow ⟨ok.1, ok.2.1⟩, ok.2.2, rfl, rfl⟩
  | slip n m => exact .inr ⟨m, arD_slip ⟨ok.1, ok.2.1⟩, ok.2.2, rfl, rfl⟩
  | late n m => exact .inr ⟨m, arD_late ok.1, ok.2, rfl, rfl⟩
theorem arD_up {d : PyData} {m : Mk} (h : arD d = some (mkd m)) (ok : m.Ok) : ∃ k : Mk, d = mkd k ∧ k.Ok ∧ k.dep = m.dep + 1 ∧ k.inn = m.inn := by
  obtain ⟨z, n, rfl, c⟩ := arD_is h
  rcases c with ⟨rfl, c⟩ | ⟨rfl, c1, c2⟩ | ⟨rfl, c1, c2⟩
  · exact ⟨.late n m, rfl, ⟨c, ok⟩, rfl, rfl⟩
  · exact ⟨.slow n m, rfl, ⟨c1, c2, ok⟩, rfl, rfl⟩
  · exact ⟨.slip n m, rfl, ⟨c1, c2, ok⟩, rfl, rfl⟩
/-- d is e, wrapped so often -/
def Wr : Nat → PyData → PyData → Prop
  | 0, d, e => d = e
  | i + 1, d, e => ∃ f, Wr i d f ∧ arD f = some e
theorem wr_mk : ∀ {i : Nat} {d e : PyData} {m : Mk}, Wr i d e → e = mkd m → m.Ok → ∃ k : Mk, d = mkd k ∧ k.Ok ∧ k.dep = m.dep + i ∧ k.inn = m.inn
  | 0, d, e, m, h, he, ok => ⟨m, by rw [show d = e from h, he], ok, rfl, rfl⟩
  | i + 1, d, e, m, ⟨f, h, hf⟩, he, ok => by
    rw [he] at hf
    obtain ⟨k, e1, ok1, d1, i1⟩ := arD_up hf ok
    obtain ⟨k2, e2, ok2, d2, i2⟩ := wr_mk h e1 ok1
    exact ⟨k2, e2, ok2, by omega, by rw [i2, i1]⟩
theorem mk_wr : ∀ {i : Nat} {d e : PyData} {m : Mk}, Wr i d e → d = mkd m → m.Ok → ∃ k : Mk, e = mkd k ∧ k.Ok ∧ m.dep = k.dep + i ∧ m.inn = k.inn
  | 0, d, e, m, h, he, ok => ⟨m, by rw [← show d = e from h, he], ok, rfl, rfl⟩
  | i + 1, d, e, m, ⟨f, h, hf⟩, he, ok => by
    obtain ⟨k, e1, ok1, d1, i1⟩ := mk_wr h he ok
    rw [e1] at hf
    rcases arD_mk ok1 with ⟨_, _, z⟩ | ⟨k2, z, ok2, d2, i2⟩
    · rw [z] at hf
      cases hf
    · rw [z] at hf
      cases hf
      exact ⟨k2, rfl, ok2, by omega, by rw [i1, i2]⟩
theorem arD_dep {d e : PyData} (h : arD d = some e) : e.depth < d.depth := by
  obtain ⟨z, n, rfl, _⟩ := arD_is h
  simp only [PyData.depth, PyData.depthAll]
  omega
theorem MkAt.sam {H H' : Hp} {m : Mk} {v : V} (h : MkAt H m v) (s : Sam H H') : MkAt H' m v := h.keep fun _ _ e => s.tup e
def isTb (d : PyData) : Bool := match d with
  | .tuple ds => decide (1 ≤ ds.length) && (decide (ds.length ≤ 64) && ds.all fun x => withinD x 0 63)
  | _ => false
theorem all_tk {α : Type} {f : α → Bool} {xs : List α} {i : Nat} {x : α} (h : xs[i]? = some x) : (xs.take (i + 1)).all f = ((xs.take i).all f && f x) := by
  rw [List.take_add_one, h, List.all_append]
  simp
def sp_is_table {K : PySem.W.Frag} {mg : Str → Option Value} (T : Defs K mg) : Sp := fun vs H Q _ => ∃ (p : Addr → Prop) (v : V) (d : PyData), vs = [v] ∧ Tg p H v d ∧ GxR.TabG H T.P_is_table ∧ ∀ H', Sam H H' → Q (.bl (isTb d)) H'
theorem ok_is_table (T : Defs K mg) (TT : Tabs T base) : FnOk P w K mg base CX0 4 T.f_is_table T.fd_is_table ["thing"] (sp_is_table T) := by
  have G_is_within : FnOk P w K mg base CX0 2 T.f_is_within T.fd_is_within ["thing", "least", "greatest"] (sp_is_within K) := ok_is_within T TT
  refine okC T.F_is_table T.k_is_table sc_is_table (fun vs H Q E h => ?_) (fun A outer s H vs Q E hr h => ?_)
  · obtain ⟨p, v, d, rfl, hv, tab, q⟩ := h
    rfl
  · obtain ⟨p, v, d, rfl, hv, tab, q⟩ := h
    refine ⟨_, PSs.nox (pss_cons (ps_if (PW.pt (pw_or (pt_not (pt_val (pe_callB call_isi (by rfl) T.m_isinstance bt_isinstance (pa_cons (pv 0) (pa_cons (pe_bltn (v := .ty "tuple") (by rfl) T.m_tuple bt_tuple rfl) pa_nil))))) (pw_or1 (pt_not (pt_chain op_le op_le pe_int (pe_callB call_len_seq (by rfl) T.m_len bt_len (pa_cons (pv 0) pa_nil)) pe_int))))) (pss_one (ps_ret pe_bl)) pss_nil)
    (pss_one (ps_ret (pe_allE (k := 2) (own := [("number", 1)]) (g := gName 1) (tt := tYes) (hr.mono (by decide)) (by rfl) T.m_all bt_all rfl sc_is_table.nd TT.t_is_table rfl (genOk_by (N := N_is_table) (sc := defScope s_is_table) (own := [("number", 1)]) (by decide +kernel) rfl (by decide +kernel) rfl) (pi_tup (pv 0)) (fun _ _ _ _ _ hr => (pg_name (i := 1) sc_is_table.nd rfl (.inl rfl))) (fun _ _ _ _ _ hr => pts_nil) (fun _ _ _ _ _ hr => (pe_call G_is_within (hr.mono (by decide)) (by rfl) T.g_is_within T.F_is_within.kp T.b_is_within .nil pass0 (pa_cons (pv 1) (pa_cons pe_int (pa_cons pe_int pa_nil))))))))), ?_⟩
    obtain ⟨t, ty, h1, h2, kt, h3⟩ := hv.ty (K := K)
    clear h1 h2 h3
    refine ⟨v, rfl, _, _, _, _, _, rfl, .ty "tuple", ty, kt, _, rfl, ?_⟩
    cases hv with
    | tup np ha hxs =>
      rename_i a xs ds
      have ll := hxs.len
      refine iteF ⟨.ref a, rfl, a, _, rfl, .inr (SqT.mk ha), _, _, rfl, rfl, _, rfl, ?_⟩
      by_cases l1 : 1 ≤ ds.length
      rotate_left
      · rw [decide_eq_false (by omega)]
        refine iteF ⟨_, rfl, iteT ?_⟩
        have e : isTb (.tuple ds) = false := by
          unfold isTb
          dsimp only
          rw [decide_eq_false l1]
          rfl
        have := q H (Sam.refl H)
        rw [e] at this
        exact this
      rw [decide_eq_true (by omega)]
      refine iteT ⟨_, _, rfl, rfl, _, rfl, ?_⟩
      by_cases l2 : ds.length ≤ 64
      rotate_left
      · rw [decide_eq_false (by omega)]
        refine iteT ?_
        have e : isTb (.tuple ds) = false := by
          unfold isTb
          dsimp only
          rw [decide_eq_false l2, Bool.false_and, Bool.and_false]
        have := q H (Sam.refl H)
        rw [e] at this
        exact this
      rw [decide_eq_true (by omega)]
      refine iteF ?_
      have e0 : isTb (.tuple ds) = ds.all fun x => withinD x 0 63 := by
        unfold isTb
        dsimp only
        rw [decide_eq_true l1, decide_eq_true l2]
        rfl
      rw [e0] at q
      refine ⟨.ref a, rfl, a, rfl, ⟨_, SqT.mk ha⟩, tab, fun H2 tb => ?_⟩
      have s2 := Sam.tabbed tab tb
      refine ga_it (walk_tup (xs := xs)) (fun i H3 => Sam H H3 ∧ (ds.take i).all (fun x => withinD x 0 63) = true) ⟨s2, rfl⟩ (fun i H3 _ h => SqT.mk (h.1.tup ha)) ?_ (fun H3 h => ?_)
      · rintro i x H3 H4 hi ⟨s3, al⟩ ⟨rfl, hx⟩
        obtain ⟨e, he, te⟩ := hxs.get hx
        refine ⟨rfl, yes_ite ?_⟩
        refine ⟨x, rfl, p, x, e, 0, 63, rfl, te.sam s3, ⟨withinD e 0 63, rfl, fun w => ?_⟩, fun w => ⟨s3, ?_⟩⟩
        · have : (ds.all fun x => withinD x 0 63) = false := by
            rw [List.all_eq_false]
            exact ⟨e, List.mem_of_getElem? he, by rw [w]; exact Bool.false_ne_true⟩
          rw [this] at q
          exact q _ s3
        · rw [all_tk he, al, show withinD e 0 63 = true from V.bl.inj w]
          rfl
      · obtain ⟨s3, al⟩ := h
        rw [List.take_of_length_le (by omega)] at al
        rw [al] at q
        exact q _ s3
    | _ => exact iteT (q H (Sam.refl H))
theorem pw2 {w : Nat} (h : w ≤ 6) : (1 : Int) * 2 ^ ((w : Int)).toNat = ((2 ^ w : Nat) : Int) := by
  rw [Int.one_mul, Int.toNat_natCast]
  rw [Int.natCast_pow]
  rfl
theorem pw1 {w : Nat} (h : w ≤ 6) (h1 : 1 ≤ w) : (1 : Int) * 2 ^ ((w : Int) - 1).toNat = ((2 ^ (w - 1) : Nat) : Int) := by
  rw [show (w : Int) - 1 = ((w - 1 : Nat) : Int) by omega]
  exact pw2 (by omega)
theorem isTb_is {d : PyData} (h : isTb d = true) : ∃ ns : List Int, d = .tuple (ns.map PyData.int) ∧ (1 ≤ ns.length ∧ ns.length ≤ 64) ∧ ∀ x, x ∈ ns → 0 ≤ x ∧ x ≤ 63 := by
  unfold isTb at h
  split at h
  · rename_i ds
    obtain ⟨h1, h2⟩ := Bool.and_eq_true_iff.mp h
    obtain ⟨h3, h4⟩ := Bool.and_eq_true_iff.mp h2
    have key : ∀ es : List PyData, (es.all fun x => withinD x 0 63) = true → ∃ ns : List Int, es = ns.map PyData.int ∧ ∀ x, x ∈ ns → 0 ≤ x ∧ x ≤ 63 := by
      intro es
      induction es with
      | nil => exact fun _ => ⟨[], rfl, fun _ h => (by cases h)⟩
      | cons e es ih =>
        intro h
        rw [List.all_cons] at h
        obtain ⟨a, b⟩ := Bool.and_eq_true_iff.mp h
        obtain ⟨i, rfl, l, u⟩ := within_is a
        obtain ⟨ns, rfl, hns⟩ := ih b
        refine ⟨i :: ns, rfl, fun x hx => ?_⟩
        rcases List.mem_cons.mp hx with rfl | hx
        · exact ⟨l, u⟩
        · exact hns x hx
    obtain ⟨ns, rfl, hns⟩ := key ds h4
    have h1 := of_decide_eq_true h1
    have h3 := of_decide_eq_true h3
    rw [List.length_map] at h1 h3
    exact ⟨ns, rfl, ⟨h1, h3⟩, hns⟩
  · cases h
theorem isTb_of {ns : List Int} (l : 1 ≤ ns.length ∧ ns.length ≤ 64) (h : ∀ x, x ∈ ns → 0 ≤ x ∧ x ≤ 63) : isTb (.tuple (ns.map PyData.int)) = true := by
  unfold isTb
  dsimp only
  rw [List.length_map, decide_eq_true l.1, decide_eq_true l.2, Bool.true_and, Bool.true_and, List.all_map, List.all_eq_true]
  exact fun x hx => decide_eq_true (h x hx)
theorem gcd1i {s r : Nat} (hr : 1 ≤ r) : decide (V.int (if (1 : Int) > (Int.gcd (s : Int) (r : Int) : Int) then 1 else (Int.gcd (s : Int) (r : Int) : Int)) = V.int 1) = decide (Nat.gcd s r = 1) := by
  have g : Int.gcd (s : Int) (r : Int) = Nat.gcd s r := rfl
  have h2 : 0 < Nat.gcd s r := Nat.gcd_pos_of_pos_right s hr
  rw [g, if_neg (show ¬ (1 : Int) > (Nat.gcd s r : Int) by omega)]
  refine decide_eq_decide.mpr ⟨fun e => ?_, fun e => ?_⟩
  · have := V.int.inj e
    omega
  · rw [e]
    rfl
theorem Tg.sh {p : Addr → Prop} {H : Hp} {v : V} {d : PyData} {k n w : Nat} (_ : Tg p H v d) (b : Bd k n w d) (hn : n ≤ 64) : SeqAt.shaped d = true := b.shaped hn
def sp_is_plain {K : PySem.W.Frag} {mg : Str → Option Value} (T : Defs K mg) : Sp := fun vs H Q _ => ∃ (p : Addr → Prop) (v : V) (d : PyData) (kb nb wb : Nat), vs = [v] ∧ Tg p H v d ∧ Bd kb nb wb d ∧ nb ≤ 60 ∧ GxR.TabG H T.P_is_table ∧ ∀ H' r, Sam H H' → (r = true ↔ plainD d) → Q (.bl r) H'
theorem str_neD {a b : Str} (h : a ≠ b) : PyData.str a ≠ .str b := fun e => h (PyData.str.inj e)
theorem ok_is_plain (T : Defs K mg) (TT : Tabs T base) : FnOk P w K mg base CX0 5 T.f_is_plain T.fd_is_plain ["thing"] (sp_is_plain T) := by
  have G_is_within : FnOk P w K mg base CX0 2 T.f_is_within T.fd_is_within ["thing", "least", "greatest"] (sp_is_within K) := ok_is_within T TT
  have G_is_table : FnOk P w K mg base CX0 4 T.f_is_table T.fd_is_table ["thing"] (sp_is_table T) := ok_is_table T TT
  have G_common_divisor : FnOk P w K mg base CX0 1 T.f_common_divisor T.fd_common_divisor ["one", "other"] (sp_common_divisor K) := ok_common_divisor T TT
  refine T.F_is_plain.ok sc_is_plain (fun vs H Q E h => ?_) (fun cdv A outer s H vs Q E hr h => ?_)
  · obtain ⟨p, v, d, kb, nb, wb, rfl, hv, bd, nb60, tab, q⟩ := h
    rfl
  · obtain ⟨p, v, d, kb, nb, wb, rfl, hv, bd, nb60, tab, q⟩ := h
    refine ⟨_, PSs.nox (pss_cons (ps_if (pt_not (pt_val (pe_callB call_isi (by rfl) T.m_isinstance bt_isinstance (pa_cons (pv 0) (pa_cons (pe_bltn (v := .ty "tuple") (by rfl) T.m_tuple bt_tuple rfl) pa_nil))))) (pss_one (ps_ret pe_bl)) pss_nil)
    (pss_one (ps_match (pv 0) (pcs_seqX hr.units rfl sc_is_plain.nd pe_str (pcap_cons (i := 1) rfl (.inl rfl) (pcap_cons (i := 2) rfl (.inl rfl) (pcap_cons (i := 3) rfl (.inl rfl) pcap_nil))) (pss_cons (ps_if (PW.pt (pw_or (pt_not (pt_val (pe_call G_is_within (hr.mono (by decide)) (by rfl) T.g_is_within T.F_is_within.kp T.b_is_within .nil pass0 (pa_cons (pv 1) (pa_cons pe_int (pa_cons pe_int pa_nil)))))) (pw_or1 (pt_not (pt_val (pe_call G_is_within (hr.mono (by decide)) (by rfl) T.g_is_within T.F_is_within.kp T.b_is_within .nil pass0 (pa_cons (pv 2) (pa_cons pe_int (pa_cons (pv 1) pa_nil))))))))) (pss_one (ps_ret pe_bl)) pss_nil)
    (pss_one (ps_ret (pe_and (pe_cmpR op_eq (pe_call G_common_divisor (hr.mono (by decide)) (by rfl) T.g_common_divisor T.F_common_divisor.kp T.b_common_divisor .nil pass0 (pa_cons (pv 2) (pa_cons (pv 1) pa_nil))) pe_int (nomark _)) (pe_one (pe_call G_is_within (hr.mono (by decide)) (by rfl) T.g_is_within T.F_is_within.kp T.b_is_within .nil pass0 (pa_cons (pv 3) (pa_cons pe_int (pa_cons (pe_op op_sub (pv 1) pe_int) pa_nil)))))))))
    (pcs_seqX hr.units rfl sc_is_plain.nd pe_str (pcap_cons (i := 4) rfl (.inl rfl) (pcap_cons (i := 3) rfl (.inl rfl) pcap_nil)) (pss_one (ps_ret (pe_and (pe_call G_is_within (hr.mono (by decide)) (by rfl) T.g_is_within T.F_is_within.kp T.b_is_within .nil pass0 (pa_cons (pv 4) (pa_cons pe_int (pa_cons pe_int pa_nil)))) (pe_one (pe_call G_is_within (hr.mono (by decide)) (by rfl) T.g_is_within T.F_is_within.kp T.b_is_within .nil pass0 (pa_cons (pv 3) (pa_cons pe_int (pa_cons (pe_op op_sub (pe_op op_shl pe_int (pv 4)) pe_int) pa_nil))))))))
    (pcs_seqX hr.units rfl sc_is_plain.nd pe_str (pcap_cons (i := 4) rfl (.inl rfl) (pcap_cons (i := 5) rfl (.inl rfl) (pcap_cons (i := 3) rfl (.inl rfl) pcap_nil))) (pss_cons (ps_if (PW.pt (pw_or (pt_not (pt_val (pe_call G_is_within (hr.mono (by decide)) (by rfl) T.g_is_within T.F_is_within.kp T.b_is_within .nil pass0 (pa_cons (pv 4) (pa_cons pe_int (pa_cons pe_int pa_nil)))))) (pw_or1 (pt_not (pt_val (pe_call G_is_within (hr.mono (by decide)) (by rfl) T.g_is_within T.F_is_within.kp T.b_is_within .nil pass0 (pa_cons (pv 5) (pa_cons (pe_op op_shl pe_int (pe_op op_sub (pv 4) pe_int)) (pa_cons (pe_op op_sub (pe_op op_shl pe_int (pv 4)) pe_int) pa_nil))))))))) (pss_one (ps_ret pe_bl)) pss_nil)
    (pss_one (ps_ret (pe_call G_is_within (hr.mono (by decide)) (by rfl) T.g_is_within T.F_is_within.kp T.b_is_within .nil pass0 (pa_cons (pv 3) (pa_cons pe_int (pa_cons (pe_op op_sub (pe_op op_shl pe_int (pv 4)) pe_int) pa_nil)))))))
    (pcs_seqX hr.units rfl sc_is_plain.nd pe_str (pcap_cons (i := 6) rfl (.inl rfl) pcap_nil) (pss_one (ps_ret (pe_call G_is_table (hr.mono (by decide)) (by rfl) T.g_is_table T.F_is_table.kp T.b_is_table .nil pass0 (pa_cons (pv 6) pa_nil))))
    (pcs_any (pss_one (ps_ret pe_bl)))))))))), ?_⟩
    have no : ¬ plainD d → ∀ H', Sam H H' → Q (.bl false) H' := fun z H' s => q H' false s ⟨fun e => (by cases e), fun e => absurd e z⟩
    obtain ⟨t, ty, h1, h2, kt, h3⟩ := hv.ty (K := K)
    clear h1 h2 h3
    refine ⟨v, rfl, _, _, _, _, _, rfl, .ty "tuple", ty, kt, _, rfl, ?_⟩
    cases hv with
    | tup np ha hxs =>
      rename_i a xs ds
      have ll := hxs.len
      refine iteF ⟨.ref a, rfl, a, xs, rfl, SqT.mk ha, ?_⟩
      have bdi := bd.itemsT.2
      match xs, ds, hxs, ha, ll, no, q, bdi with
      | [], [], hxs, ha, _, no, q, _ =>
        refine .inl ⟨by simp, .inl ⟨by simp, .inl ⟨by simp, .inl ⟨by simp, ?_⟩⟩⟩⟩
        refine no ?_ H (Sam.refl H)
        intro z
        rcases pl_cases z with ⟨_, _, _, e, _⟩ | ⟨_, _, e, _⟩ | ⟨_, _, _, e, _⟩ | ⟨_, e, _⟩ <;> cases e
      | [x0], [d0], hxs, ha, _, no, q, _ =>
        refine .inl ⟨by simp, .inl ⟨by simp, .inl ⟨by simp, .inl ⟨by simp, ?_⟩⟩⟩⟩
        refine no ?_ H (Sam.refl H)
        intro z
        rcases pl_cases z with ⟨_, _, _, e, _⟩ | ⟨_, _, e, _⟩ | ⟨_, _, _, e, _⟩ | ⟨_, e, _⟩ <;> cases e
      | [x0, x1], [d0, d1], hxs, ha, _, no, q, bdi =>
        obtain ⟨_, _, ee, t0, t1⟩ := hxs.two
        cases ee
        have sh0 := (bdi.get (d := d0) List.mem_cons_self).shaped (by omega)
        refine .inl ⟨by simp, .inl ⟨by simp, .inl ⟨by simp, .inr ⟨x0, [x1], d0, rfl, rfl, t0.dp, sh0, ?_⟩⟩⟩⟩
        by_cases hw : d0 = .str "table"
        · refine .inl ⟨hw, x1, rfl, p, x1, d1, rfl, t1, tab, fun H1 s1 => q H1 _ s1 ⟨fun e => ?_, fun z => ?_⟩⟩
          · obtain ⟨ns, rfl, l, hns⟩ := isTb_is e
            rw [hw]
            exact ⟨.table ns, rfl, ⟨l.1, l.2, hns⟩, trivial⟩
          · rcases pl_cases z with ⟨_, _, _, e, _⟩ | ⟨_, _, e, _⟩ | ⟨_, _, _, e, _⟩ | ⟨ns, e, l, hns⟩
            · cases e
            · cases e
            · cases e
            · cases e
              exact isTb_of l hns
        · refine .inr ⟨hw, no ?_ H (Sam.refl H)⟩
          intro z
          rcases pl_cases z with ⟨_, _, _, e, _⟩ | ⟨_, _, e, _⟩ | ⟨_, _, _, e, _⟩ | ⟨ns, e, l, hns⟩
          · cases e
          · cases e
          · cases e
          · cases e
            exact hw rfl
      | [x0, x1, x2], [d0, d1, d2], hxs, ha, _, no, q, bdi =>
        obtain ⟨_, _, _, ee, t0, t1, t2⟩ := hxs.three
        cases ee
        have sh0 := (bdi.get (d := d0) List.mem_cons_self).shaped (by omega)
        refine .inl ⟨by simp, .inr ⟨x0, [x1, x2], d0, rfl, rfl, t0.dp, sh0, ?_⟩⟩
        by_cases hw : d0 = .str "turned"
        · subst hw
          refine .inl ⟨rfl, x1, rfl, p, x1, d1, 1, 6, rfl, t1, _, rfl, ?_⟩
          cases h1 : withinD d1 1 6 with
          | false =>
            refine iteF (no ?_ H (Sam.refl H))
            intro z
            rcases pl_cases z with ⟨_, _, _, e, _⟩ | ⟨w', s', e, hw', hs'⟩ | ⟨_, _, _, e, _⟩ | ⟨ns, e, _⟩
            · cases e
            · cases e
              exact within_no h1 (by omega)
            · cases e
            · cases e
          | true =>
            obtain ⟨i, rfl, l, u⟩ := within_is h1
            obtain ⟨w', rfl⟩ := nat_of (show 0 ≤ i by omega)
            obtain rfl := t1.intv
            refine iteT ⟨x2, rfl, _, rfl, _, _, rfl, rfl, ⟨by omega, by omega, by decide⟩, _, _, rfl, rfl, p, x2, d2, 0, _, rfl, t2, ?_⟩
            refine q H _ (Sam.refl H) ?_
            rw [pw2 (by omega)]
            constructor
            · intro e
              obtain ⟨j, rfl, l2, u2⟩ := within_is e
              obtain ⟨s', rfl⟩ := nat_of l2
              exact ⟨.turned w' s', rfl, ⟨by omega, by omega, by omega⟩, trivial⟩
            · intro z
              rcases pl_cases z with ⟨_, _, _, e, _⟩ | ⟨w2, s', e, hw', hs'⟩ | ⟨_, _, _, e, _⟩ | ⟨ns, e, _⟩
              · cases e
              · simp only [List.cons.injEq, PyData.int.injEq, and_true] at e
                obtain ⟨_, e1, rfl⟩ := e
                have e1 : w2 = w' := by omega
                subst e1
                exact decide_eq_true (by omega)
              · cases e
              · cases e
        · refine .inr ⟨hw, .inl ⟨by simp, .inl ⟨by simp, ?_⟩⟩⟩
          refine no ?_ H (Sam.refl H)
          intro z
          rcases pl_cases z with ⟨_, _, _, e, _⟩ | ⟨_, _, e, _⟩ | ⟨_, _, _, e, _⟩ | ⟨ns, e, _⟩
          · cases e
          · cases e
            exact hw rfl
          · cases e
          · cases e
      | [x0, x1, x2, x3], [d0, d1, d2, d3], hxs, ha, _, no, q, bdi =>
        obtain ⟨_, _, _, _, ee, t0, t1, t2, t3⟩ := hxs.four
        cases ee
        have sh0 := (bdi.get (d := d0) List.mem_cons_self).shaped (by omega)
        refine .inr ⟨x0, [x1, x2, x3], d0, rfl, rfl, t0.dp, sh0, ?_⟩
        by_cases hw : d0 = .str "counter"
        · subst hw
          have cn : plainD (.tuple [.str "counter", d1, d2, d3]) → ∃ r s t : Nat, d1 = .int r ∧ d2 = .int s ∧ d3 = .int t ∧ (1 ≤ r ∧ r ≤ 64) ∧ (1 ≤ s ∧ s ≤ r) ∧ Nat.gcd s r = 1 ∧ t < r := by
            intro z
            rcases pl_cases z with ⟨r, s, t, e, h1, h2, h3, h4⟩ | ⟨_, _, e, _⟩ | ⟨_, _, _, e, _⟩ | ⟨ns, e, _⟩
            · cases e
              exact ⟨r, s, t, rfl, rfl, rfl, h1, h2, h3, h4⟩
            · cases e
            · simp only [List.cons.injEq, PyData.str.injEq] at e
              exact absurd e.1 (by decide +kernel)
            · cases e
          refine .inl ⟨rfl, x1, rfl, p, x1, d1, 1, 64, rfl, t1, _, rfl, ?_⟩
          cases h1 : withinD d1 1 64 with
          | false =>
            refine iteT (no ?_ H (Sam.refl H))
            intro z
            obtain ⟨r, s, t, rfl, _, _, b1, _⟩ := cn z
            exact within_no h1 (by omega)
          | true =>
          obtain ⟨i, rfl, l, u⟩ := within_is h1
          obtain ⟨r, rfl⟩ := nat_of (show 0 ≤ i by omega)
          obtain rfl := t1.intv
          refine iteF ⟨x2, rfl, _, rfl, p, x2, d2, 1, (r : Int), rfl, t2, _, rfl, ?_⟩
          cases h2 : withinD d2 1 (r : Int) with
          | false =>
            refine iteT (no ?_ H (Sam.refl H))
            intro z
            obtain ⟨r', s, t, e1, rfl, _, b1, b2, _⟩ := cn z
            have e1 : r = r' := by have := PyData.int.inj e1; omega
            subst e1
            exact within_no h2 (by omega)
          | true =>
          obtain ⟨i2, rfl, l2, u2⟩ := within_is h2
          obtain ⟨s', rfl⟩ := nat_of (show 0 ≤ i2 by omega)
          obtain rfl := t2.intv
          refine iteF ⟨_, rfl, _, rfl, (s' : Int), (r : Int), rfl, rfl, _, rfl, ?_⟩
          rw [gcd1i (by omega)]
          by_cases hg : Nat.gcd s' r = 1
          rotate_left
          · rw [decide_eq_false hg]
            refine iteF (no ?_ H (Sam.refl H))
            intro z
            obtain ⟨r', s2, t, e1, e2, _, b1, b2, b3, _⟩ := cn z
            have e1 : r = r' := by have := PyData.int.inj e1; omega
            have e2 : s' = s2 := by have := PyData.int.inj e2; omega
            subst e1 e2
            exact hg b3
          rw [decide_eq_true hg]
          refine iteT ⟨x3, rfl, _, rfl, _, _, rfl, rfl, p, x3, d3, 0, _, rfl, t3, q H _ (Sam.refl H) ⟨fun e => ?_, fun z => ?_⟩⟩
          · obtain ⟨i3, rfl, l3, u3⟩ := within_is e
            obtain ⟨t', rfl⟩ := nat_of l3
            exact ⟨.counter r s' t', rfl, ⟨by omega, by omega, by omega, by omega⟩, ⟨by omega, by omega, hg⟩⟩
          · obtain ⟨r', s2, t', e1, e2, rfl, b1, b2, b3, b4⟩ := cn z
            have e1 : r = r' := by have := PyData.int.inj e1; omega
            subst e1
            exact decide_eq_true (by omega)
        · refine .inr ⟨hw, .inl ⟨by simp, .inr ⟨x0, [x1, x2, x3], d0, rfl, rfl, t0.dp, sh0, ?_⟩⟩⟩
          by_cases hw2 : d0 = .str "register"
          rotate_left
          · refine .inr ⟨hw2, .inl ⟨by simp, ?_⟩⟩
            refine no ?_ H (Sam.refl H)
            intro z
            rcases pl_cases z with ⟨_, _, _, e, _⟩ | ⟨_, _, e, _⟩ | ⟨_, _, _, e, _⟩ | ⟨ns, e, _⟩
            · cases e
              exact hw rfl
            · cases e
            · cases e
              exact hw2 rfl
            · cases e
          subst hw2
          have cn : plainD (.tuple [.str "register", d1, d2, d3]) → ∃ w q s : Nat, d1 = .int w ∧ d2 = .int q ∧ d3 = .int s ∧ RgW w q ∧ 1 ≤ s ∧ s < 2 ^ w := by
            intro z
            rcases pl_cases z with ⟨r, s, t, e, h1, h2, h3, h4⟩ | ⟨_, _, e, _⟩ | ⟨w', q', s', e, h1, h2, h3⟩ | ⟨ns, e, _⟩
            · simp only [List.cons.injEq, PyData.str.injEq] at e
              exact absurd e.1 (by decide +kernel)
            · cases e
            · cases e
              exact ⟨w', q', s', rfl, rfl, rfl, h1, h2, h3⟩
            · cases e
          refine .inl ⟨rfl, x1, rfl, p, x1, d1, 2, 6, rfl, t1, _, rfl, ?_⟩
          cases h1 : withinD d1 2 6 with
          | false =>
            refine iteT (no ?_ H (Sam.refl H))
            intro z
            obtain ⟨w', q', s', rfl, _, _, rg, _⟩ := cn z
            have := rg.lo
            have := rg.hi
            exact within_no h1 (by omega)
          | true =>
          obtain ⟨i, rfl, l, u⟩ := within_is h1
          obtain ⟨w', rfl⟩ := nat_of (show 0 ≤ i by omega)
          obtain rfl := t1.intv
          refine iteF ⟨x2, rfl, _, rfl, _, _, rfl, rfl, _, _, rfl, rfl, ⟨by omega, by omega, by decide⟩, _, rfl, _, _, rfl, rfl, ⟨by omega, by omega, by decide⟩, _, _, rfl, rfl, p, x2, d2, _, _, rfl, t2, _, rfl, ?_⟩
          rw [pw1 (by omega) (by omega), pw2 (by omega)]
          cases h2 : withinD d2 ((2 ^ (w' - 1) : Nat) : Int) (((2 ^ w' : Nat) : Int) - 1) with
          | false =>
            refine iteT (no ?_ H (Sam.refl H))
            intro z
            obtain ⟨w2, q', s', e1, rfl, _, rg, _⟩ := cn z
            have e1 : w' = w2 := by have := PyData.int.inj e1; omega
            subst e1
            have := rg.pl
            have := rg.ph
            exact within_no h2 (by omega)
          | true =>
          obtain ⟨i2, rfl, l2, u2⟩ := within_is h2
          obtain ⟨q', rfl⟩ := nat_of (Int.le_trans (Int.natCast_nonneg _) l2)
          obtain rfl := t2.intv
          refine iteF ⟨x3, rfl, _, rfl, _, _, rfl, rfl, ⟨by omega, by omega, by decide⟩, _, _, rfl, rfl, p, x3, d3, 1, _, rfl, t3, q H _ (Sam.refl H) ?_⟩
          rw [pw2 (by omega)]
          constructor
          · intro e
            obtain ⟨i3, rfl, l3, u3⟩ := within_is e
            obtain ⟨s', rfl⟩ := nat_of (show 0 ≤ i3 by omega)
            exact ⟨.register w' q' s', rfl, ⟨⟨by omega, by omega, by omega, by omega⟩, by omega, by omega⟩, trivial⟩
          · intro z
            obtain ⟨w2, q2, s', e1, e2, rfl, rg, b1, b2⟩ := cn z
            have e1 : w' = w2 := by have := PyData.int.inj e1; omega
            subst e1
            exact decide_eq_true (by omega)
      | x0 :: x1 :: x2 :: x3 :: x4 :: r, d0 :: d1 :: d2 :: d3 :: d4 :: r', hxs, ha, _, no, q, _ =>
        refine .inl ⟨by simp, .inl ⟨by simp, .inl ⟨by simp, .inl ⟨by simp, ?_⟩⟩⟩⟩
        refine no ?_ H (Sam.refl H)
        intro z
        rcases pl_cases z with ⟨_, _, _, e, _⟩ | ⟨_, _, e, _⟩ | ⟨_, _, _, e, _⟩ | ⟨ns, e, _⟩ <;> cases e
    | _ => exact iteT (no (by rintro ⟨m, e, _⟩; cases m <;> cases e) H (Sam.refl H))
def sp_is_around (_ : PySem.W.Frag) : Sp := fun vs H Q _ => ∃ (p : Addr → Prop) (v : V) (d : PyData) (kb nb wb : Nat), vs = [v] ∧ Tg p H v d ∧ Bd kb nb wb d ∧ nb ≤ 60 ∧ Q (.bl (arD d).isSome) H
theorem arD_len {ds : List PyData} (h : ds.length ≠ 3) : arD (.tuple ds) = none := by
  match ds, h with
  | [], _ => rfl
  | [x], _ => cases x <;> rfl
  | [x, _], _ => cases x <;> rfl
  | [_, _, _], h => exact absurd rfl h
  | x :: _ :: _ :: _ :: _, _ => cases x <;> rfl
theorem arD_noz {x y e : PyData} (h : ∀ z, x ≠ .str z) : arD (.tuple [x, y, e]) = none := by
  cases x with
  | str z => exact absurd rfl (h z)
  | _ => rfl
theorem eqv_strF {d : PyData} {z : Str} (h : d ≠ .str z) : PyData.eqv d (.str z) = false := by
  cases hq : PyData.eqv d (.str z) with
  | false => rfl
  | true => exact absurd (eqv_strD.mp hq) h
theorem ok_is_around (T : Defs K mg) (TT : Tabs T base) : FnOk P w K mg base CX0 3 T.f_is_around T.fd_is_around ["thing"] (sp_is_around K) := by
  have G_is_within : FnOk P w K mg base CX0 2 T.f_is_within T.fd_is_within ["thing", "least", "greatest"] (sp_is_within K) := ok_is_within T TT
  refine T.F_is_around.ok sc_is_around (fun vs H Q E h => ?_) (fun cdv A outer s H vs Q E hr h => ?_)
  · obtain ⟨p, v, d, kb, nb, wb, rfl, hv, bd, nb60, q⟩ := h
    rfl
  · obtain ⟨p, v, d, kb, nb, wb, rfl, hv, bd, nb60, q⟩ := h
    refine ⟨_, PSs.nox (pss_cons (ps_if (PW.pt (pw_or (pt_not (pt_val (pe_callB call_isi (by rfl) T.m_isinstance bt_isinstance (pa_cons (pv 0) (pa_cons (pe_bltn (v := .ty "tuple") (by rfl) T.m_tuple bt_tuple rfl) pa_nil))))) (pw_or1 (pt_cmpR op_ne (pe_callB call_len_seq (by rfl) T.m_len bt_len (pa_cons (pv 0) pa_nil)) pe_int (nomark _))))) (pss_one (ps_ret pe_bl)) pss_nil)
    (pss_cons (ps_asg (pv 0) (pg_tup rfl (pgs_cons (pg_name (i := 1) sc_is_around.nd rfl (.inl rfl)) (pgs_cons (pg_name (i := 2) sc_is_around.nd rfl (.inl rfl)) (pgs_cons (pg_name (i := 3) sc_is_around.nd rfl (.inl rfl)) pgs_nil)))))
    (pss_cons (ps_if (pt_cmpR (op_eqD hr.units) (pv 1) pe_str (nomark _)) (pss_one (ps_ret (pe_call G_is_within (hr.mono (by decide)) (by rfl) T.g_is_within T.F_is_within.kp T.b_is_within .nil pass0 (pa_cons (pv 2) (pa_cons pe_int (pa_cons pe_int pa_nil)))))) pss_nil)
    (pss_one (ps_ret (pe_and (pe_or (pe_cmpR (op_eqD hr.units) (pv 1) pe_str (nomark _)) (pe_one (pe_cmpR (op_eqD hr.units) (pv 1) pe_str (nomark _)))) (pe_one (pe_call G_is_within (hr.mono (by decide)) (by rfl) T.g_is_within T.F_is_within.kp T.b_is_within .nil pass0 (pa_cons (pv 2) (pa_cons pe_int (pa_cons pe_int pa_nil))))))))))), ?_⟩
    obtain ⟨t, ty, h1, h2, kt, h3⟩ := hv.ty (K := K)
    clear h1 h2 h3
    refine ⟨v, rfl, _, _, _, _, _, rfl, .ty "tuple", ty, kt, _, rfl, ?_⟩
    cases hv with
    | tup np ha hxs =>
      rename_i a xs ds
      have ll := hxs.len
      refine iteF ⟨.ref a, rfl, a, _, rfl, .inr (SqT.mk ha), rfl, _, rfl, ?_⟩
      by_cases l3 : xs.length = 3
      rotate_left
      · rw [decide_eq_false (show ¬ V.int ((xs.length : Nat) : Int) = V.int 3 from fun e => l3 (by have := V.int.inj e; omega))]
        rw [arD_len (by omega)] at q
        exact iteT q
      rw [decide_eq_true (show V.int ((xs.length : Nat) : Int) = V.int 3 by rw [l3]; rfl)]
      refine iteF ?_
      have bdi := bd.itemsT.2
      match xs, ds, hxs, ha, ll, q, l3, bdi with
      | [x0, x1, x2], [d0, d1, d2], hxs, ha, _, q, _, bdi =>
        obtain ⟨_, _, _, ee, t0, t1, t2⟩ := hxs.three
        cases ee
        have sh0 := (bdi.get (d := d0) List.mem_cons_self).shaped (by omega)
        refine ⟨.ref a, rfl, a, _, rfl, SqT.mk ha, rfl, _, _, rfl, _, _, rfl, _, _, rfl, rfl, ?_⟩
        refine ⟨x0, rfl, d0, .str "late", t0.dp, .str _, sh0, by decide +kernel, _, rfl, ?_⟩
        by_cases hw : d0 = .str "late"
        · rw [eqv_strD.mpr hw]
          subst hw
          refine iteT ⟨x1, rfl, p, x1, d1, 0, 64, rfl, t1, ?_⟩
          have e : withinD d1 0 64 = (arD (.tuple [.str "late", d1, d2])).isSome := by
            unfold arD
            dsimp only
            rw [if_pos rfl]
            cases withinD d1 0 64 <;> rfl
          rw [e]
          exact q
        rw [eqv_strF hw]
        refine iteF ⟨x0, rfl, d0, .str "slow", t0.dp, .str _, sh0, by decide +kernel, _, rfl, ?_⟩
        by_cases hw2 : d0 = .str "slow"
        · rw [eqv_strD.mpr hw2]
          subst hw2
          refine iteT ⟨_, rfl, iteT ⟨x1, rfl, p, x1, d1, 1, 64, rfl, t1, ?_⟩⟩
          have e : withinD d1 1 64 = (arD (.tuple [.str "slow", d1, d2])).isSome := by
            unfold arD
            dsimp only
            rw [if_neg (by decide +kernel), if_pos (.inl rfl)]
            cases withinD d1 1 64 <;> rfl
          rw [e]
          exact q
        rw [eqv_strF hw2]
        refine iteF ⟨x0, rfl, d0, .str "slip", t0.dp, .str _, sh0, by decide +kernel, ?_⟩
        by_cases hw3 : d0 = .str "slip"
        · rw [eqv_strD.mpr hw3]
          subst hw3
          refine ⟨_, rfl, iteT ⟨x1, rfl, p, x1, d1, 1, 64, rfl, t1, ?_⟩⟩
          have e : withinD d1 1 64 = (arD (.tuple [.str "slip", d1, d2])).isSome := by
            unfold arD
            dsimp only
            rw [if_neg (by decide +kernel), if_pos (.inr rfl)]
            cases withinD d1 1 64 <;> rfl
          rw [e]
          exact q
        rw [eqv_strF hw3]
        refine ⟨_, rfl, iteF ?_⟩
        have e : arD (.tuple [d0, d1, d2]) = none := by
          cases d0 with
          | str z =>
            unfold arD
            dsimp only
            rw [if_neg (fun e => hw (congrArg PyData.str e)), if_neg (fun e => e.elim (fun e => hw2 (congrArg PyData.str e)) (fun e => hw3 (congrArg PyData.str e)))]
          | _ => rfl
        rw [e] at q
        exact q
    | _ => exact iteT q
theorem wr_no {i : Nat} {d e : PyData} (w : Wr i d e) (n : arD e = none) (h : isMkD d) : i ≤ 3 ∧ plainD e := by
  obtain ⟨m, he, ok, vd, dp, rn⟩ := h
  obtain ⟨k, rfl, ok2, d2, i2⟩ := mk_wr w he ok
  rcases arD_mk ok2 with ⟨d0, pl, _⟩ | ⟨k2, z, _⟩
  · rw [i2, Mk.inn_self d0] at vd
    exact ⟨by omega, k, rfl, pl, vd⟩
  · rw [n] at z
    cases z
theorem pl_ok {m : Mk} (h : m.Pl) : m.Ok ∧ m.dep = 0 := by
  cases m with
  | slow n m => exact h.elim
  | slip n m => exact h.elim
  | late n m => exact h.elim
  | _ => exact ⟨h, rfl⟩
theorem wr_yes {i : Nat} {d e : PyData} (w : Wr i d e) (h : plainD e) : ∃ m : Mk, d = mkd m ∧ m.Ok ∧ m.inn.Vd ∧ m.dep = i := by
  obtain ⟨m0, he, pl, vd⟩ := h
  obtain ⟨ok0, d0⟩ := pl_ok pl
  obtain ⟨k, e1, ok1, d1, i1⟩ := wr_mk w he ok0
  exact ⟨k, e1, ok1, by rw [i1, Mk.inn_self d0]; exact vd, by omega⟩
def sp_is_maker {K : PySem.W.Frag} {mg : Str → Option Value} (T : Defs K mg) : Sp := fun vs H Q _ => ∃ (p : Addr → Prop) (v : V) (d : PyData) (kb nb wb : Nat), vs = [v] ∧ Tg p H v d ∧ Bd kb nb wb d ∧ nb ≤ 60 ∧ GxR.TabG H T.P_is_table ∧ ∀ H' r, Sam H H' → (r = true ↔ isMkD d) → Q (.bl r) H'
theorem Bd.around {k n w : Nat} {d e : PyData} (h : Bd k n w d) (a : arD d = some e) : Bd k n w e := by
  obtain ⟨z, i, rfl, _⟩ := arD_is a
  have := h.itemsT.2.get (d := e) (by simp)
  exact this.mono (Nat.le_refl _) (by omega) (Nat.le_refl _)
theorem ok_is_maker (T : Defs K mg) (TT : Tabs T base) : FnOk P w K mg base CX0 10 T.f_is_maker T.fd_is_maker ["thing"] (sp_is_maker T) := by
  have G_is_around : FnOk P w K mg base CX0 3 T.f_is_around T.fd_is_around ["thing"] (sp_is_around K) := ok_is_around T TT
  have G_round_of : FnOk P w K mg base CX0 9 T.f_round_of T.fd_round_of ["maker"] (sp_round_of K) := ok_round_of T TT
  have G_is_plain : FnOk P w K mg base CX0 5 T.f_is_plain T.fd_is_plain ["thing"] (sp_is_plain T) := ok_is_plain T TT
  refine T.F_is_maker.ok sc_is_maker (fun vs H Q E h => ?_) (fun cdv A outer s H vs Q E hr h => ?_)
  · obtain ⟨p, v, d, kb, nb, wb, rfl, hv, bd, nb60, tab, q⟩ := h
    rfl
  · obtain ⟨p, v, d, kb, nb, wb, rfl, hv, bd, nb60, tab, q⟩ := h
    refine ⟨_, PSs.nox (pss_cons (ps_set (i := 1) sc_is_maker.nd rfl (.inl rfl) (pv 0))
    (pss_cons (ps_set (i := 2) sc_is_maker.nd rfl (.inl rfl) pe_int)
    (pss_cons (ps_while PassesOwn.never (pt_val (pe_call G_is_around (hr.mono (by decide)) (by rfl) T.g_is_around T.F_is_around.kp T.b_is_around .nil pass0 (pa_cons (pv 1) pa_nil))) (pss_cons (ps_set (i := 1) sc_is_maker.nd rfl (.inl rfl) (pe_ix ix_tup (pv 1) pe_int (fun _ _ => rfl)))
    (pss_one (ps_aug (i := 2) sc_is_maker.nd rfl (.inl rfl) pe_int ip_add))))
    (pss_cons (ps_if (PW.pt (pw_or (pt_cmpR op_gt (pv 2) (pe_globI (by rfl) T.i_MOST_AROUND) (nomark _)) (pw_or1 (pt_not (pt_val (pe_call G_is_plain (hr.mono (by decide)) (by rfl) T.g_is_plain T.F_is_plain.kp T.b_is_plain .nil pass0 (pa_cons (pv 1) pa_nil))))))) (pss_one (ps_ret pe_bl)) pss_nil)
    (pss_one (ps_ret (pe_cmpR op_le (pe_call G_round_of (hr.mono (by decide)) (by rfl) T.g_round_of T.F_round_of.kp T.b_round_of .nil pass0 (pa_cons (pv 0) pa_nil)) (pe_globI (by rfl) T.i_LONGEST) (nomark _)))))))), ?_⟩
    have no : ¬ isMkD d → ∀ H', Sam H H' → Q (.bl false) H' := fun z H' s => q H' false s ⟨fun e => (by cases e), fun e => absurd e z⟩
    refine ⟨v, rfl, fun n σ H1 => ∃ (e : PyData) (u : V) (i : Nat), e.depth = n ∧ σ = [some v, some u, some (.int (i : Nat))] ∧ H1 = H ∧ Tg p H u e ∧ Wr i d e ∧ Bd kb nb wb e, ⟨_, d, v, 0, rfl, rfl, rfl, hv, rfl, bd⟩, ?_⟩
    rintro n σ H1 ⟨e, u, i, rfl, rfl, rfl, tu, wr, be⟩
    refine ⟨u, rfl, p, u, e, kb, nb, wb, rfl, tu, be, nb60, _, rfl, ?_⟩
    cases ha : arD e with
    | some f =>
      refine iteT ⟨_, fun σ' H' h => h, ?_⟩
      have lt := arD_dep ha
      obtain ⟨z, k, rfl, c⟩ := arD_is ha
      obtain ⟨a, xs, rfl, np, hA, hx⟩ := tu.tupv
      obtain ⟨x0, x1, x2, rfl, t0, t1, t2⟩ := hx.three
      refine ⟨.ref a, rfl, a, _, 2, _, rfl, rfl, SqT.mk hA, atI_nat (j := 2) rfl, ?_⟩
      refine ⟨_, rfl, _, _, rfl, rfl, ?_⟩
      exact ⟨f.depth, lt, f, x2, i + 1, rfl, rfl, rfl, t2, ⟨_, wr, ha⟩, be.around ha⟩
    | none =>
      refine iteF ⟨_, rfl, _, _, rfl, rfl, _, rfl, ?_⟩
      by_cases i3 : i ≤ 3
      rotate_left
      · rw [decide_eq_true (by omega)]
        refine iteT (no ?_ H1 (Sam.refl H1))
        intro z
        exact i3 (wr_no wr ha z).1
      rw [decide_eq_false (by omega)]
      refine iteF ⟨u, rfl, p, u, e, kb, nb, wb, rfl, tu, be, nb60, tab, fun H2 r s2 hr => ⟨_, rfl, ?_⟩⟩
      cases r with
      | false =>
        refine iteT (no ?_ H2 s2)
        intro z
        have := hr.mpr (wr_no wr ha z).2
        cases this
      | true =>
        obtain ⟨m, rfl, ok, vd, dp⟩ := wr_yes wr (hr.mp rfl)
        refine iteF ⟨v, rfl, m, v, rfl, (tg_mk hv).sam s2, ok, by omega, fun H3 s3 => ⟨_, _, rfl, rfl, ?_⟩⟩
        have e : decide (((m.rnd : Nat) : Int) ≤ 4096) = decide (m.rnd ≤ 4096) := decide_eq_decide.mpr ⟨fun z => by omega, fun z => by omega⟩
        show Q (.bl (decide (((m.rnd : Nat) : Int) ≤ 4096))) H3
        rw [e]
        refine q _ _ (s2.trans (Sam.of s3)) ⟨fun z => ⟨m, rfl, ok, vd, by omega, of_decide_eq_true z⟩, fun z => ?_⟩
        obtain ⟨m2, e2, _, _, _, rn⟩ := z
        rw [mkd_inj e2]
        exact decide_eq_true rn
/-! how large makers are, as things -/
theorem weiA_ints : ∀ {ns : List Int}, (∀ x, x ∈ ns → x.natAbs < 10 ^ 21) → PyData.weightAll (ns.map PyData.int) ≤ 86 * ns.length ∧ gdA 21 (ns.map PyData.int) = true ∧ PyData.depthAll (ns.map PyData.int) ≤ 0
  | [], _ => ⟨by simp [PyData.weightAll], rfl, by simp [PyData.depthAll]⟩
  | n :: ns, h => by
    obtain ⟨a, b, c⟩ := weiA_ints (ns := ns) fun x hx => h x (List.mem_cons_of_mem _ hx)
    have g := bd_int (k := 21) (h n List.mem_cons_self)
    have g1 := g.wt
    have g2 := g.g
    have g3 := g.dp
    refine ⟨?_, ?_, ?_⟩
    · simp only [List.map_cons, PyData.weightAll, List.length_cons]
      omega
    · simp only [List.map_cons, gdA, g2, b]
      rfl
    · simp only [List.map_cons, PyData.depthAll]
      omega
theorem n21 {n : Nat} (h : n ≤ 100000) : ((n : Nat) : Int).natAbs < 10 ^ 21 := by
  have : (100001 : Nat) ≤ 10 ^ 21 := by decide
  omega
theorem bd_w {z : Str} (h : PyData.strOk z = true) (l : z.length ≤ 10) : Bd 21 0 10 (.str z) := (bd_str h).mono (Nat.le_refl _) (Nat.le_refl _) l
theorem bd_w3 {z : Str} {n : Nat} {e : PyData} {m w : Nat} (hz : PyData.strOk z = true) (l : z.length ≤ 10) (hn : n ≤ 100000) (he : Bd 21 m w e) : Bd 21 (m + 1) (w + 100) (.tuple [.str z, .int (n : Nat), e]) :=
  (((BdA.one (bd_w hz l)).app ((BdA.one (bd_int (n21 hn))).app (BdA.one he))).mono (Nat.le_refl _) (show max 0 (max 0 m) ≤ m by omega) (show 10 + 1 + (4 * 21 + 1 + 1 + (w + 1)) ≤ w + 100 by omega)).tup
theorem bd_w4 {z : Str} {a b c : Nat} (hz : PyData.strOk z = true) (l : z.length ≤ 10) (ha : a ≤ 100000) (hb : b ≤ 100000) (hc : c ≤ 100000) : Bd 21 2 6000 (.tuple [.str z, .int (a : Nat), .int (b : Nat), .int (c : Nat)]) :=
  (((BdA.one (bd_w hz l)).app ((BdA.one (bd_int (n21 ha))).app ((BdA.one (bd_int (n21 hb))).app (BdA.one (bd_int (n21 hc)))))).mono (Nat.le_refl _) (show max 0 (max 0 (max 0 0)) ≤ 1 by omega) (show _ ≤ 6000 by omega)).tup
theorem mkd_bd : ∀ {m : Mk}, m.Ok → Bd 21 (m.dep + 2) (6000 + 100 * m.dep) (mkd m)
  | .counter r s t, ok => by
    obtain ⟨h1, h2, h3, h4⟩ : 1 ≤ r ∧ r ≤ 64 ∧ s ≤ 64 ∧ t < r := ok
    exact bd_w4 (by decide +kernel) (by decide +kernel) (by omega) (by omega) (by omega)
  | .turned w s, ok => by
    obtain ⟨h1, h2, h3⟩ : 1 ≤ w ∧ w ≤ 6 ∧ s < 2 ^ w := ok
    have : 2 ^ w ≤ 2 ^ 6 := Nat.pow_le_pow_right (by decide) h2
    exact (bd_w3 (by decide +kernel) (by decide +kernel) (by omega) (bd_int (n21 (show s ≤ 100000 by omega)))).mono (Nat.le_refl _) (show 0 + 1 ≤ 0 + 2 by omega) (show _ ≤ 6000 + 100 * 0 by omega)
  | .register w q s, ok => by
    obtain ⟨h1, h2, h3⟩ : RgW w q ∧ 1 ≤ s ∧ s < 2 ^ w := ok
    have : 2 ^ w ≤ 2 ^ 6 := Nat.pow_le_pow_right (by decide) h1.hi
    have := h1.ph
    have := h1.hi
    exact bd_w4 (by decide +kernel) (by decide +kernel) (by omega) (by omega) (by omega)
  | .table ns, ok => by
    obtain ⟨h1, h2, h3⟩ : 1 ≤ ns.length ∧ ns.length ≤ 64 ∧ ∀ x, x ∈ ns → 0 ≤ x ∧ x ≤ 63 := ok
    obtain ⟨a, b, c⟩ := weiA_ints (ns := ns) fun x hx => by
      have := h3 x hx
      have : (64 : Nat) ≤ 10 ^ 21 := by decide
      omega
    have t : Bd 21 (0 + 1) 5504 (.tuple (ns.map PyData.int)) := BdA.tup ⟨b, c, by omega⟩
    exact (((BdA.one (bd_w (z := "table") (by decide +kernel) (by decide +kernel))).app (BdA.one t)).mono (Nat.le_refl _) (show max 0 (0 + 1) ≤ 1 by omega) (show _ ≤ 6000 + 100 * 0 by omega)).tup
  | .slow n m, ok => by
    have h := mkd_bd (m := m) ok.2.2
    have := ok.2.1
    exact (bd_w3 (z := "slow") (by decide +kernel) (by decide +kernel) (show n ≤ 100000 by omega) h).mono (Nat.le_refl _) (by simp only [Mk.dep]; omega) (by simp only [Mk.dep]; omega)
  | .slip n m, ok => by
    have h := mkd_bd (m := m) ok.2.2
    have := ok.2.1
    exact (bd_w3 (z := "slip") (by decide +kernel) (by decide +kernel) (show n ≤ 100000 by omega) h).mono (Nat.le_refl _) (by simp only [Mk.dep]; omega) (by simp only [Mk.dep]; omega)
  | .late n m, ok => by
    have h := mkd_bd (m := m) ok.2
    have := ok.1
    exact (bd_w3 (z := "late") (by decide +kernel) (by decide +kernel) (show n ≤ 100000 by omega) h).mono (Nat.le_refl _) (by simp only [Mk.dep]; omega) (by simp only [Mk.dep]; omega)
def PN (p D : Addr) (HX : Hp) (m : Int) (k i : Nat) (H1 : Hp) : Prop := ∃ rs : List Int, rs.length = i ∧ (∀ x, x ∈ rs → 0 ≤ x ∧ x < m) ∧ But p HX H1 ∧ Bx H1 p (k + i) ∧ H1 D = some (.lst (rs.map V.int))
theorem pn_start {p D : Addr} {HX : Hp} {m : Int} {k : Nat} (nD : HX D = none) (B : Bx HX p k) : PN p D HX m k 0 (upd HX D (.lst [])) := ⟨[], rfl, fun _ h => (by cases h), (But.refl p HX).new nD, B.new nD, upd_same⟩
theorem pn_step {p D : Addr} {HX H1 H4 : Hp} {m : Int} {k i : Nat} {x : Int} (nD : HX D = none) (Dp : D ≠ p) (h : PN p D HX m k i H1) (b : But p H1 H4) (B : Bx H4 p (k + (i + 1))) (hi : i < 100000) (hx : 0 ≤ x ∧ x < m) :
    ∃ acc, H4 D = some (.lst acc) ∧ acc.length < sizeLine ∧ PN p D HX m k (i + 1) (upd H4 D (.lst (acc ++ [.int x]))) := by
  obtain ⟨rs, hl, hb, b1, _, hD⟩ := h
  have hsl : sizeLine = 16777216 := by decide
  refine ⟨_, b _ _ Dp hD, by rw [List.length_map]; omega, rs ++ [x], by rw [List.length_append, hl]; rfl, fun y hy => ?_, but_newer (b1.trans b) nD, B.other Dp, ?_⟩
  · rcases List.mem_append.mp hy with hy | hy
    · exact hb y hy
    · rw [List.mem_singleton.mp hy]
      exact hx
  · rw [upd_same, List.map_append]
    rfl
/-! which things are formulas: their parts, how many and how deep -/
def sideN (z : Str) : Option Int := dl_SIDES.lookup z
def okArg : List PyData → Bool
  | [.int i] => decide (0 ≤ i ∧ i ≤ 5)
  | _ => false
def wordOf : PyData → Option Str
  | .str z => some z
  | _ => none
mutual
def well : PyData → Bool
  | .tuple xs => wellT xs
  | _ => false
def wellT : List PyData → Bool
  | [] => false
  | x :: xs => match wordOf x with
    | some z => if z = "in" then okArg xs else (decide (sideN z = some (xs.length : Int)) && wellA xs)
    | none => false
def wellA : List PyData → Bool
  | [] => true
  | x :: xs => well x && wellA xs
end
mutual
def siz : PyData → Nat
  | .tuple xs => sizT xs
  | _ => 1
def sizT : List PyData → Nat
  | [] => 1
  | x :: xs => match wordOf x with
    | some z => if z = "in" then 1 else 1 + sizA xs
    | none => 1
def sizA : List PyData → Nat
  | [] => 0
  | x :: xs => siz x + sizA xs
end
mutual
def dpt : PyData → Nat
  | .tuple xs => dptT xs
  | _ => 1
def dptT : List PyData → Nat
  | [] => 1
  | x :: xs => match wordOf x with
    | some z => if z = "in" then 1 else 1 + dptA xs
    | none => 1
def dptA : List PyData → Nat
  | [] => 0
  | x :: xs => max (dpt x) (dptA xs)
end
def partD : PyData → Bool
  | .tuple (.str z :: xs) => if z = "in" then okArg xs else decide (sideN z = some (xs.length : Int))
  | _ => false
def sdsD : PyData → List PyData
  | .tuple (.str z :: xs) => if z = "in" then [] else xs
  | _ => []
theorem siz_pos (d : PyData) : 1 ≤ siz d := by
  cases d with
  | tuple xs =>
    cases xs with
    | nil => exact Nat.le_refl _
    | cons x xs =>
      simp only [siz, sizT]
      split
      · split <;> omega
      · exact Nat.le_refl _
  | _ => exact Nat.le_refl _
theorem dpt_pos (d : PyData) : 1 ≤ dpt d := by
  cases d with
  | tuple xs =>
    cases xs with
    | nil => exact Nat.le_refl _
    | cons x xs =>
      simp only [dpt, dptT]
      split
      · split <;> omega
      · exact Nat.le_refl _
  | _ => exact Nat.le_refl _
theorem wellA_all : ∀ {xs : List PyData}, wellA xs = true ↔ ∀ x, x ∈ xs → well x = true
  | [] => ⟨fun _ x hx => (by cases hx), fun _ => rfl⟩
  | x :: xs => by
    simp only [wellA, Bool.and_eq_true, wellA_all (xs := xs)]
    exact ⟨fun h y hy => by
      rcases List.mem_cons.mp hy with rfl | hy
      · exact h.1
      · exact h.2 y hy, fun h => ⟨h x List.mem_cons_self, fun y hy => h y (List.mem_cons_of_mem _ hy)⟩⟩
theorem sizA_sum : ∀ {xs : List PyData}, sizA xs = (xs.map siz).sum
  | [] => rfl
  | x :: xs => by
    simp only [sizA, List.map_cons, List.sum_cons, sizA_sum (xs := xs)]
theorem dptA_le {n : Nat} : ∀ {xs : List PyData}, dptA xs ≤ n ↔ ∀ x, x ∈ xs → dpt x ≤ n
  | [] => ⟨fun _ x hx => (by cases hx), fun _ => Nat.zero_le _⟩
  | x :: xs => by
    have ih := dptA_le (n := n) (xs := xs)
    simp only [dptA]
    exact ⟨fun h y hy => by
      rcases List.mem_cons.mp hy with rfl | hy
      · omega
      · exact ih.mp (by omega) y hy, fun h => by
      have := h x List.mem_cons_self
      have := ih.mpr fun y hy => h y (List.mem_cons_of_mem _ hy)
      omega⟩
theorem part_form {d : PyData} (h : partD d = true) : ∃ z xs, d = .tuple (.str z :: xs) := by
  unfold partD at h
  split at h
  · exact ⟨_, _, rfl⟩
  · cases h
theorem well_eq (d : PyData) : well d = true ↔ partD d = true ∧ ∀ x, x ∈ sdsD d → well x = true := by
  cases d with
  | tuple xs =>
    cases xs with
    | nil => exact ⟨fun h => (by simp only [well, wellT] at h; exact nomatch h), fun h => nomatch h.1⟩
    | cons x xs =>
      cases x with
      | str z =>
        simp only [well, wellT, wordOf, partD, sdsD]
        by_cases e : z = "in"
        · simp only [if_pos e]
          exact ⟨fun h => ⟨h, fun x hx => (by cases hx)⟩, fun h => h.1⟩
        · simp only [if_neg e, Bool.and_eq_true, wellA_all]
      | _ => exact ⟨fun h => (by simp only [well, wellT, wordOf] at h; exact nomatch h), fun h => nomatch h.1⟩
  | _ => exact ⟨fun h => (by simp only [well] at h; exact nomatch h), fun h => nomatch h.1⟩
theorem siz_eq {d : PyData} (h : partD d = true) : siz d = 1 + ((sdsD d).map siz).sum := by
  obtain ⟨z, xs, rfl⟩ := part_form h
  simp only [siz, sizT, wordOf, sdsD]
  by_cases e : z = "in"
  · simp only [if_pos e]
    rfl
  · simp only [if_neg e, sizA_sum]
theorem dpt_le {d : PyData} {n : Nat} (h : partD d = true) : dpt d ≤ n + 1 ↔ ∀ x, x ∈ sdsD d → dpt x ≤ n := by
  obtain ⟨z, xs, rfl⟩ := part_form h
  simp only [dpt, dptT, wordOf, sdsD]
  by_cases e : z = "in"
  · simp only [if_pos e]
    exact ⟨fun _ x hx => (by cases hx), fun _ => by omega⟩
  · simp only [if_neg e]
    rw [← dptA_le]
    omega
theorem sides3 {d : PyData} (h : partD d = true) : (sdsD d).length ≤ 3 := by
  obtain ⟨z, xs, rfl⟩ := part_form h
  simp only [partD] at h
  simp only [sdsD]
  by_cases e : z = "in"
  · simp only [if_pos e]
    exact Nat.zero_le _
  · simp only [if_neg e, decide_eq_true_eq] at h ⊢
    unfold sideN dl_SIDES at h
    simp only [List.lookup] at h
    split at h
    · have := Option.some.inj h; omega
    · split at h
      · have := Option.some.inj h; omega
      · split at h
        · have := Option.some.inj h; omega
        · split at h
          · have := Option.some.inj h; omega
          · split at h
            · have := Option.some.inj h; omega
            · cases h
/-- what waits: things, and how deep they stand -/
def OkW (W : List (PyData × Nat)) (c : Nat) : Prop := (∀ e, e ∈ W → well e.1 = true ∧ e.2 + dpt e.1 ≤ 9) ∧ c + (W.map fun e => siz e.1).sum ≤ 24
theorem ok_step {W : List (PyData × Nat)} {d : PyData} {k c : Nat} (hp : partD d = true) (hk : k ≤ 8) : OkW (W ++ [(d, k)]) c ↔ OkW (W ++ (sdsD d).map fun s => (s, k + 1)) (c + 1) := by
  have e1 : ((W ++ [(d, k)]).map fun e => siz e.1).sum = (W.map fun e => siz e.1).sum + siz d := by
    rw [List.map_append, List.sum_append, List.map_cons, List.map_nil, List.sum_cons, List.sum_nil, Nat.add_zero]
  have e2 : ((W ++ (sdsD d).map fun s => (s, k + 1)).map fun e => siz e.1).sum = (W.map fun e => siz e.1).sum + ((sdsD d).map siz).sum := by
    rw [List.map_append, List.sum_append, List.map_map]
    rfl
  unfold OkW
  rw [e1, e2, siz_eq hp]
  refine ⟨fun ⟨a, b⟩ => ⟨fun e he => ?_, by omega⟩, fun ⟨a, b⟩ => ⟨fun e he => ?_, by omega⟩⟩
  · rcases List.mem_append.mp he with he | he
    · exact a e (List.mem_append_left _ he)
    · obtain ⟨s, hs, rfl⟩ := List.mem_map.mp he
      obtain ⟨w, l⟩ := a (d, k) (List.mem_append_right _ List.mem_cons_self)
      have l : k + dpt d ≤ 9 := l
      have := (dpt_le (n := 8 - k) hp).mp (by omega) s hs
      exact ⟨((well_eq d).mp w).2 s hs, by show k + 1 + dpt s ≤ 9; omega⟩
  · rcases List.mem_append.mp he with he | he
    · exact a e (List.mem_append_left _ he)
    · obtain rfl := List.mem_singleton.mp he
      have q : ∀ s, s ∈ sdsD d → well s = true ∧ k + 1 + dpt s ≤ 9 := fun s hs => a (s, k + 1) (List.mem_append_right _ (List.mem_map.mpr ⟨s, hs, rfl⟩))
      refine ⟨(well_eq d).mpr ⟨hp, fun s hs => (q s hs).1⟩, ?_⟩
      have := (dpt_le (n := 8 - k) hp).mpr fun s hs => by
        have := (q s hs).2
        omega
      show k + dpt d ≤ 9
      omega
theorem ok_no {W : List (PyData × Nat)} {d : PyData} {k c : Nat} (h : c + 1 > 24 ∨ k > 8 ∨ partD d = false) : ¬ OkW (W ++ [(d, k)]) c := fun ⟨a, b⟩ => by
  obtain ⟨w, l⟩ := a (d, k) (List.mem_append_right _ List.mem_cons_self)
  have l : k + dpt d ≤ 9 := l
  have := siz_pos d
  have := dpt_pos d
  rw [List.map_append, List.sum_append, List.map_cons, List.map_nil, List.sum_cons, List.sum_nil] at b
  rcases h with h | h | h
  · have b : c + ((W.map fun e => siz e.1).sum + (siz d + 0)) ≤ 24 := b
    omega
  · omega
  · have := ((well_eq d).mp w).1
    rw [h] at this
    cases this
def isF (d : PyData) : Bool := well d && (decide (siz d < 25) && decide (dpt d < 9))
theorem ok_isF {d : PyData} : OkW [(d, 1)] 0 ↔ isF d = true := by
  unfold OkW isF
  simp only [Bool.and_eq_true, decide_eq_true_eq, List.mem_singleton, List.map_cons, List.map_nil, List.sum_cons, List.sum_nil]
  exact ⟨fun ⟨a, b⟩ => by
    obtain ⟨w, l⟩ := a _ rfl
    have l : 1 + dpt d ≤ 9 := l
    exact ⟨w, by omega, by omega⟩, fun ⟨w, l, m⟩ => ⟨fun e he => by subst he; exact ⟨w, by show 1 + dpt d ≤ 9; omega⟩, by omega⟩⟩
/-! things that are small enough -/
/-! the program's dict of sides -/
theorem ent_key {e : DictEntry} {z : Str} {i : Int} (h : entI e = some (z, i)) : ∃ t u, e.key = .str z t ∧ e.val = .int i u := by
  unfold entI at h
  split at h
  · rename_i x t j u h1 h2
    cases h
    exact ⟨t, u, h1, h2⟩
  · cases h
theorem ents_find (z : Str) : ∀ (l : List DictEntry) (kvs : List (Str × Int)), l.map entI = kvs.map some →
    l.any (·.refKey) = false ∧ ((kvs.lookup z = none ∧ l.find? (·.key.isStr z) = none) ∨ ∃ i e t, kvs.lookup z = some i ∧ l.find? (·.key.isStr z) = some e ∧ e.val = .int i t)
  | [], [], _ => ⟨rfl, .inl ⟨rfl, rfl⟩⟩
  | [], _ :: _, h => by cases h
  | _ :: _, [], h => by cases h
  | e :: l, (k, i) :: kvs, h => by
    simp only [List.map_cons, List.cons.injEq] at h
    obtain ⟨t, u, h1, h2⟩ := ent_key h.1
    obtain ⟨r, ih⟩ := ents_find z l kvs h.2
    have rk : e.refKey = false := by
      unfold DictEntry.refKey
      rw [h1]
    refine ⟨by rw [List.any_cons, rk, r]; rfl, ?_⟩
    have ek : e.key.isStr z = (k == z) := by rw [h1]; rfl
    rw [List.find?_cons, ek, List.lookup_cons]
    by_cases c : k = z
    · subst c
      refine .inr ⟨i, e, u, ?_, ?_, h2⟩
      · simp
      · simp
    · have c1 : (k == z) = false := beq_false_of_ne c
      have c2 : (z == k) = false := beq_false_of_ne fun e => c e.symm
      rw [c1, c2]
      exact ih
theorem dic_ns {K : PySem.W.Frag} {a : Addr} {kvs : List (Str × Int)} (h : dicB K a kvs = true) (z : Str) : (kvs.lookup z = none ∧ PySem.W.nsIn K a z = some none) ∨ ∃ i t, kvs.lookup z = some i ∧ PySem.W.nsIn K a z = some (some (.int i t)) := by
  unfold dicB at h
  split at h
  · rename_i c d es n sl e
    obtain ⟨r, q⟩ := ents_find z _ _ (of_decide_eq_true h)
    unfold PySem.W.nsIn
    rw [e]
    dsimp only
    rcases q with ⟨h1, h2⟩ | ⟨i, e', t, h1, h2, h3⟩
    · rw [h2, r]
      exact .inl ⟨h1, rfl⟩
    · rw [h2]
      exact .inr ⟨i, t, h1, by rw [← h3]⟩
  · cases h
theorem op_inS {X : Cx} {K' : PySem.W.Frag} {w' : World} [D : DW K' w'] {C : Addr} (hK : X.K = K') (hw : X.w = w') (hC : C = He.ga K' "SIDES") : OpR X (compareOp .In) (fun x y H Q => ∃ z, x = .str z ∧ y = .ref C ∧ Q (.bl (sideN z).isSome) H) := by
  subst hK hw hC
  obtain ⟨es, n, kd⟩ := D.k_SIDES
  intro pins s σ H x y v u Q I rx ry h
  obtain ⟨z, rfl, rfl, q⟩ := h
  rcases dic_ns D.v_SIDES z with ⟨h1, h2⟩ | ⟨i, t, h1, h2⟩
  · refine op_in_kd kd pins s σ H _ _ v u Q I rx ry ⟨z, _, rfl, rfl, h2, ?_⟩
    have e : sideN z = none := h1
    rw [e] at q
    exact q
  · refine op_in_kd kd pins s σ H _ _ v u Q I rx ry ⟨z, _, rfl, rfl, h2, ?_⟩
    have e : sideN z = some i := h1
    rw [e] at q
    exact q
theorem ix_S {X : Cx} {K' : PySem.W.Frag} {w' : World} [D : DW K' w'] {C : Addr} (hK : X.K = K') (hw : X.w = w') (hC : C = He.ga K' "SIDES") : IxR X (fun x y H Q => ∃ z i, x = .ref C ∧ y = .str z ∧ sideN z = some i ∧ Q (.int i) H) := by
  subst hK hw hC
  obtain ⟨es, n, kd⟩ := D.k_SIDES
  intro value slice pins s σ H x y v u Q I rx ry h hs
  obtain ⟨z, i, rfl, rfl, e, q⟩ := h
  have ru := rx
  cases rx
  refine tail_any (kd_type kd I) PySem.slot_dict_getitem.lookup ?_ hs
  rcases dic_ns D.v_SIDES z with ⟨h1, h2⟩ | ⟨j, t, h1, h2⟩
  · have h1 : sideN z = none := h1
    rw [e] at h1
    cases h1
  · have h1 : sideN z = some j := h1
    rw [e] at h1
    cases h1
    exact op_item_kd kd pins s σ H (V.ref (He.ga X.K "SIDES")) (V.str z) _ u Q I ru ry ⟨z, _, .int i, rfl, rfl, h2, ⟨_, rfl⟩, q⟩
/-! a dict of the program's top, in general -/
theorem op_inK {X : Cx} {K' : PySem.W.Frag} {w' : World} {C : Addr} {x : Str} {kvs : List (Str × Int)} (hK : X.K = K') (hw : X.w = w') (hC : C = He.ga K' x) (kd : ∃ es n, KDict K' w' (He.ga K' x) es n) (v : dicB K' (He.ga K' x) kvs = true) : OpR X (compareOp .In) (fun x y H Q => ∃ z, x = .str z ∧ y = .ref C ∧ Q (.bl (kvs.lookup z).isSome) H) := by
  subst hK hw hC
  obtain ⟨es, n, kd⟩ := kd
  intro pins s σ H x y v u Q I rx ry h
  obtain ⟨z, rfl, rfl, q⟩ := h
  rcases dic_ns (by assumption) z with ⟨h1, h2⟩ | ⟨i, t, h1, h2⟩
  · refine op_in_kd kd pins s σ H _ _ v u Q I rx ry ⟨z, _, rfl, rfl, h2, ?_⟩
    rw [h1] at q
    exact q
  · refine op_in_kd kd pins s σ H _ _ v u Q I rx ry ⟨z, _, rfl, rfl, h2, ?_⟩
    rw [h1] at q
    exact q
theorem ix_K {X : Cx} {K' : PySem.W.Frag} {w' : World} {C : Addr} {x : Str} {kvs : List (Str × Int)} (hK : X.K = K') (hw : X.w = w') (hC : C = He.ga K' x) (kd : ∃ es n, KDict K' w' (He.ga K' x) es n) (v : dicB K' (He.ga K' x) kvs = true) : IxR X (fun x y H Q => ∃ z i, x = .ref C ∧ y = .str z ∧ kvs.lookup z = some i ∧ Q (.int i) H) := by
  subst hK hw hC
  obtain ⟨es, n, kd⟩ := kd
  intro value slice pins s σ H x' y v' u Q I rx ry h hs
  obtain ⟨z, i, rfl, rfl, e, q⟩ := h
  have ru := rx
  cases rx
  refine tail_any (kd_type kd I) PySem.slot_dict_getitem.lookup ?_ hs
  rcases dic_ns v z with ⟨h1, h2⟩ | ⟨j, t, h1, h2⟩
  · rw [e] at h1
    cases h1
  · rw [e] at h1
    cases h1
    exact op_item_kd kd pins s σ H (V.ref (He.ga X.K x)) (V.str z) _ u Q I ru ry ⟨z, _, .int i, rfl, rfl, h2, ⟨_, rfl⟩, q⟩
/-! bits, of any thing -/
def sp_is_bit (K : PySem.W.Frag) : Sp := fun vs H Q _ => ∃ (p : Addr → Prop) (x : V) (d : PyData), vs = [x] ∧ Tg p H x d ∧ Q (.bl (withinD d 0 1)) H
theorem ok_is_bit (T : Defs K mg) (TT : Tabs T base) : FnOk P w K mg base CX0 3 T.f_is_bit T.fd_is_bit ["thing"] (sp_is_bit K) := by
  have G_is_within : FnOk P w K mg base CX0 2 T.f_is_within T.fd_is_within ["thing", "least", "greatest"] (sp_is_within K) := ok_is_within T TT
  refine T.F_is_bit.ok sc_is_bit (fun vs H Q E h => ?_) (fun cdv A outer s H vs Q E hr h => ?_)
  · obtain ⟨p, x, d, rfl, hx, q⟩ := h
    rfl
  · obtain ⟨p, x, d, rfl, hx, q⟩ := h
    refine ⟨_, PSs.nox (pss_one (ps_ret (pe_call G_is_within (hr.mono (by decide)) (by rfl) T.g_is_within T.F_is_within.kp T.b_is_within .nil pass0 (pa_cons (pv 0) (pa_cons pe_int (pa_cons pe_int pa_nil)))))), ?_⟩
    exact ⟨x, rfl, p, x, d, 0, 1, rfl, hx, q⟩
theorem all_take {α : Type} (f : α → Bool) (xs : List α) (i : Nat) (x : α) (h : xs[i]? = some x) (a : ∀ j y, j < i → xs[j]? = some y → f y = true) (b : f x = true) : ∀ j y, j < i + 1 → xs[j]? = some y → f y = true := fun j y hj e => by
  by_cases z : j < i
  · exact a j y z e
  · obtain rfl : j = i := by omega
    rw [h] at e
    cases e
    exact b
theorem all_of_get {α : Type} (f : α → Bool) (xs : List α) (h : ∀ j y, j < xs.length → xs[j]? = some y → f y = true) : xs.all f = true := List.all_eq_true.mpr fun x hx => by
  obtain ⟨i, e⟩ := List.getElem?_of_mem hx
  exact h i x (List.getElem?_eq_some_iff.mp e).1 e
theorem not_all {α : Type} (f : α → Bool) (xs : List α) {i : Nat} {x : α} (h : xs[i]? = some x) (b : f x = false) : xs.all f = false := by
  cases e : xs.all f
  · rfl
  · rw [List.all_eq_true.mp e x (List.mem_of_getElem? h)] at b
    cases b
/-! machines, as things -/
def askN (z : Str) : Option Int := dl_ASKED.lookup z
def isAh (d : PyData) : Bool := match d with
  | .tuple ds => decide (1 ≤ ds.length ∧ ds.length ≤ 16) && ds.all fun x => withinD x 0 1
  | _ => false
/-- what a piece is, whatever stands for the numbers of pieces -/
inductive Shp : Str → List PyData → Prop
  | make {m k : PyData} : isMkD m → withinD k 0 64 = true → Shp "make" [m, k]
  | keep {a b f : PyData} : withinD f 0 1 = true → Shp "keep" [a, b, f]
  | late {a h : PyData} : isAh h = true → Shp "late" [a, h]
  | keeper {a b m at_ : PyData} {n : Int} : isMkD m → 1 ≤ n → n ≤ 64 → withinD at_ 0 n = true → Shp "keeper" [a, b, m, .int n, at_]
  | side {z : Str} {ds : List PyData} : sideN z = some (ds.length : Int) → Shp z ds
theorem side_words {z : Str} {n : Int} (h : sideN z = some n) : z ≠ "make" ∧ z ≠ "keep" ∧ z ≠ "late" ∧ z ≠ "keeper" := by
  have k : ∀ y : Str, sideN y = none → z ≠ y := fun y e x => by
    rw [x, e] at h
    cases h
  exact ⟨k _ (by decide +kernel), k _ (by decide +kernel), k _ (by decide +kernel), k _ (by decide +kernel)⟩
theorem shp_make {ds : List PyData} (h : Shp "make" ds) : ∃ m k, ds = [m, k] ∧ isMkD m ∧ withinD k 0 64 = true := by
  generalize hz : ("make" : Str) = z at h
  cases h with
  | make a b => exact ⟨_, _, rfl, a, b⟩
  | keep a => exact absurd hz (by decide +kernel)
  | late a => exact absurd hz (by decide +kernel)
  | keeper a b c d => exact absurd hz (by decide +kernel)
  | side a => exact absurd hz.symm (side_words a).1
theorem shp_keep {ds : List PyData} (h : Shp "keep" ds) : ∃ a b f, ds = [a, b, f] ∧ withinD f 0 1 = true := by
  generalize hz : ("keep" : Str) = z at h
  cases h with
  | make a b => exact absurd hz (by decide +kernel)
  | keep a => exact ⟨_, _, _, rfl, a⟩
  | late a => exact absurd hz (by decide +kernel)
  | keeper a b c d => exact absurd hz (by decide +kernel)
  | side a => exact absurd hz.symm (side_words a).2.1
theorem shp_late {ds : List PyData} (h : Shp "late" ds) : ∃ a b, ds = [a, b] ∧ isAh b = true := by
  generalize hz : ("late" : Str) = z at h
  cases h with
  | make a b => exact absurd hz (by decide +kernel)
  | keep a => exact absurd hz (by decide +kernel)
  | late a => exact ⟨_, _, rfl, a⟩
  | keeper a b c d => exact absurd hz (by decide +kernel)
  | side a => exact absurd hz.symm (side_words a).2.2.1
theorem shp_keeper {ds : List PyData} (h : Shp "keeper" ds) : ∃ a b m at_ n, ds = [a, b, m, .int n, at_] ∧ isMkD m ∧ 1 ≤ n ∧ n ≤ 64 ∧ withinD at_ 0 n = true := by
  generalize hz : ("keeper" : Str) = z at h
  cases h with
  | make a b => exact absurd hz (by decide +kernel)
  | keep a => exact absurd hz (by decide +kernel)
  | late a => exact absurd hz (by decide +kernel)
  | keeper a b c d => exact ⟨_, _, _, _, _, rfl, a, b, c, d⟩
  | side a => exact absurd hz.symm (side_words a).2.2.2
theorem shp_side {z : Str} {ds : List PyData} (h : Shp z ds) (n1 : z ≠ "make") (n2 : z ≠ "keep") (n3 : z ≠ "late") (n4 : z ≠ "keeper") : sideN z = some (ds.length : Int) := by
  cases h with
  | make a b => exact absurd rfl n1
  | keep a => exact absurd rfl n2
  | late a => exact absurd rfl n3
  | keeper a b c d => exact absurd rfl n4
  | side a => exact a
theorem shp_len {z : Str} {ds : List PyData} (h : Shp z ds) (e : sideN z = none) : (z = "make" ∧ ds.length = 2) ∨ (z = "keep" ∧ ds.length = 3) ∨ (z = "late" ∧ ds.length = 2) ∨ (z = "keeper" ∧ ds.length = 5) := by
  cases h with
  | make a b => exact .inl ⟨rfl, rfl⟩
  | keep a => exact .inr (.inl ⟨rfl, rfl⟩)
  | late a => exact .inr (.inr (.inl ⟨rfl, rfl⟩))
  | keeper a b c d => exact .inr (.inr (.inr ⟨rfl, rfl⟩))
  | side a => rw [e] at a; cases a
/-- a piece of that number in a machine of so many -/
def Pc (number many : Nat) (d : PyData) : Prop := ∃ z ds n, d = .tuple (.str z :: ds) ∧ Shp z ds ∧ askN z = some n ∧ ∀ e, e ∈ ds.take n.toNat → withinD e 0 (if z = "late" ∨ z = "keeper" then (many : Int) - 1 else (number : Int) - 1) = true
def isMc (d : PyData) : Prop := ∃ ds, d = .tuple ds ∧ 1 ≤ ds.length ∧ ds.length ≤ 24 ∧ ∀ i e, ds[i]? = some e → Pc i ds.length e
theorem shp_ask {z : Str} {ds : List PyData} (h : Shp z ds) : ∃ n : Nat, askN z = some (n : Int) ∧ n ≤ 3 := by
  cases h with
  | make a b => exact ⟨0, by decide +kernel, by decide⟩
  | keep a => exact ⟨2, by decide +kernel, by decide⟩
  | late a => exact ⟨1, by decide +kernel, by decide⟩
  | keeper a b c d => exact ⟨2, by decide +kernel, by decide⟩
  | side a =>
    have : z = "less" ∨ z = "both" ∨ z = "either" ∨ z = "oneof" ∨ z = "pick" := by
      unfold sideN dl_SIDES at a
      simp only [List.lookup_cons, List.lookup_nil] at a
      by_cases h1 : z = "less"
      · exact .inl h1
      by_cases h2 : z = "both"
      · exact .inr (.inl h2)
      by_cases h3 : z = "either"
      · exact .inr (.inr (.inl h3))
      by_cases h4 : z = "oneof"
      · exact .inr (.inr (.inr (.inl h4)))
      by_cases h5 : z = "pick"
      · exact .inr (.inr (.inr (.inr h5)))
      rw [beq_false_of_ne h1, beq_false_of_ne h2, beq_false_of_ne h3, beq_false_of_ne h4, beq_false_of_ne h5] at a
      cases a
    rcases this with rfl | rfl | rfl | rfl | rfl
    · exact ⟨1, by decide +kernel, by decide⟩
    · exact ⟨2, by decide +kernel, by decide⟩
    · exact ⟨2, by decide +kernel, by decide⟩
    · exact ⟨2, by decide +kernel, by decide⟩
    · exact ⟨3, by decide +kernel, by decide⟩
def sp_asks_of (_ : PySem.W.Frag) : Sp := fun vs H Q _ => ∃ (a : Addr) (z : Str) (xs : List V) (n : Nat), vs = [.ref a] ∧ H a = some (.tup (.str z :: xs)) ∧ askN z = some (n : Int) ∧ ∀ H' t, Same H H' → H' t = some (.tup (xs.take n)) → Q (.ref t) H'
theorem cut_1n (x : V) (xs : List V) (n : Nat) : cutV (x :: xs) (some 1) (some (1 + (n : Int))) = xs.take n := by
  unfold cutV
  rw [show (1 + (n : Int)) = ((n + 1 : Nat) : Int) by omega, show (1 : Int) = ((1 : Nat) : Int) from rfl, HT.sIx_nat, HT.sIx_nat, List.length_cons, Nat.min_eq_left (show 1 ≤ xs.length + 1 by omega)]
  show (xs.take _) = _
  by_cases h : n ≤ xs.length
  · rw [Nat.min_eq_left (by omega), show n + 1 - 1 = n by omega]
  · rw [Nat.min_eq_right (by omega), show xs.length + 1 - 1 = xs.length by omega, List.take_of_length_le (Nat.le_refl _), List.take_of_length_le (by omega)]
theorem ok_asks_of (T : Defs K mg) (TT : Tabs T base) : FnOk P w K mg base CX0 1 T.f_asks_of T.fd_asks_of ["piece"] (sp_asks_of K) := by
  refine T.F_asks_of.ok sc_asks_of (fun vs H Q E h => ?_) (fun cdv A outer s H vs Q E hr h => ?_)
  · obtain ⟨a, z, xs, n, rfl, ha, hn, q⟩ := h
    rfl
  · obtain ⟨a, z, xs, n, rfl, ha, hn, q⟩ := h
    refine ⟨_, PSs.nox (pss_one (ps_ret (pe_slice sl_tupS (pv 0) (po_some pe_int) (po_some (pe_op op_add pe_int (pe_ix (ix_K (x := "ASKED") (K' := K) (w' := w) rfl rfl T.e_ASKED DW.k_ASKED (DW.v_ASKED w)) (pe_glob (v := .ref T.C_ASKED) (by rfl) T.g_ASKED rfl) (pe_ix ix_tup (pv 0) pe_int (fun _ _ => rfl)) (fun _ _ => rfl))))))), ?_⟩
    refine ⟨.ref a, rfl, 1, rfl, .ref a, rfl, a, _, 0, _, rfl, rfl, SqT.mk ha, atI_nat (j := 0) rfl, z, (n : Int), rfl, rfl, hn, _, _, rfl, rfl, _, rfl, a, _, rfl, ha, fun G t sG ht => ?_⟩
    rw [cut_1n] at ht
    exact q G t sG ht
def sp_is_ahead {K : PySem.W.Frag} {mg : Str → Option Value} (T : Defs K mg) : Sp := fun vs H Q _ => ∃ (p : Addr → Prop) (v : V) (d : PyData), vs = [v] ∧ Tg p H v d ∧ GxR.TabG H T.P_is_ahead ∧ ∀ H', Sam H H' → Q (.bl (isAh d)) H'
theorem ok_is_ahead (T : Defs K mg) (TT : Tabs T base) : FnOk P w K mg base CX0 5 T.f_is_ahead T.fd_is_ahead ["thing"] (sp_is_ahead T) := by
  have G_is_bit : FnOk P w K mg base CX0 3 T.f_is_bit T.fd_is_bit ["thing"] (sp_is_bit K) := ok_is_bit T TT
  refine okC T.F_is_ahead T.k_is_ahead sc_is_ahead (fun vs H Q E h => ?_) (fun A outer s H vs Q E hr h => ?_)
  · obtain ⟨p, v, d, rfl, hv, tab, q⟩ := h
    rfl
  · obtain ⟨p, v, d, rfl, hv, tab, q⟩ := h
    refine ⟨_, PSs.nox (pss_one (ps_ret (pe_and (pe_callB call_isi (by rfl) T.m_isinstance bt_isinstance (pa_cons (pv 0) (pa_cons (pe_bltn (v := .ty "tuple") (by rfl) T.m_tuple bt_tuple rfl) pa_nil))) (pe_and (pe_chain op_le op_le pe_int (pe_callB call_len_seq (by rfl) T.m_len bt_len (pa_cons (pv 0) pa_nil)) (pe_globI (by rfl) T.i_MOST_AHEAD)) (pe_one (pe_allE (k := 3) (own := [("bit", 1)]) (g := gName 1) (tt := tYes) (hr.mono (by decide)) (by rfl) T.m_all bt_all rfl sc_is_ahead.nd TT.t_is_ahead rfl (genOk_by (N := N_is_ahead) (sc := defScope s_is_ahead) (own := [("bit", 1)]) (by decide +kernel) rfl (by decide +kernel) rfl) (pi_tup (pv 0)) (fun _ _ _ _ _ hr => (pg_name (i := 1) sc_is_ahead.nd rfl (.inl rfl))) (fun _ _ _ _ _ hr => pts_nil) (fun _ _ _ _ _ hr => (pe_call G_is_bit (hr.mono (by decide)) (by rfl) T.g_is_bit T.F_is_bit.kp T.b_is_bit .nil pass0 (pa_cons (pv 1) pa_nil))))))))), ?_⟩
    obtain ⟨t, ty, -, -, kt, -, -⟩ := hv.ty (K := K)
    refine ⟨v, rfl, _, _, _, _, _, rfl, .ty "tuple", ty, kt, _, rfl, ?_⟩
    cases hv with
    | tup np ha hxs =>
      rename_i a xs ds
      have ln := hxs.len
      have no : ¬ (1 ≤ ds.length ∧ ds.length ≤ 16) → isAh (.tuple ds) = false := fun z => by
        show (decide (1 ≤ ds.length ∧ ds.length ≤ 16) && _) = false
        rw [decide_eq_false z]
        rfl
      refine iteT ⟨.ref a, rfl, a, _, rfl, .inr (SqT.mk ha), _, _, rfl, rfl, _, rfl, ?_⟩
      by_cases c1 : (1 : Int) ≤ (xs.length : Nat)
      rotate_left
      · rw [decide_eq_false c1]
        rw [no (by omega)] at q
        exact iteF ⟨_, rfl, iteF (q _ (Sam.refl _))⟩
      rw [decide_eq_true c1]
      refine iteT ⟨_, _, rfl, rfl, _, rfl, ?_⟩
      by_cases c2 : ((xs.length : Nat) : Int) ≤ 16
      rotate_left
      · rw [decide_eq_false c2]
        rw [no (by omega)] at q
        exact iteF (q _ (Sam.refl _))
      rw [decide_eq_true c2]
      refine iteT ⟨.ref a, rfl, a, rfl, ⟨_, SqT.mk ha⟩, tab, fun H2 tb => ?_⟩
      have s2 := Sam.tabbed tab tb
      refine ga_it (walk_tup (xs := xs)) (fun i H3 => Sam H H3 ∧ ∀ j y, j < i → ds[j]? = some y → withinD y 0 1 = true) ⟨s2, fun j y hj => absurd hj (Nat.not_lt_zero j)⟩ (fun i H3 _ h => SqT.mk (h.1.tup ha)) ?_ ?_
      · rintro i x H3 H4 hi ⟨s3, hb⟩ ⟨rfl, hx⟩
        obtain ⟨e, he, tx⟩ := hxs.get hx
        refine ⟨rfl, yes_ite ?_⟩
        refine ⟨x, rfl, p, x, e, rfl, tx.sam s3, ⟨withinD e 0 1, rfl, fun z => ?_⟩, fun z => ⟨s3, all_take _ ds i e he hb (by injection z)⟩⟩
        have r : isAh (.tuple ds) = false := by
          show (_ && ds.all fun x => withinD x 0 1) = false
          rw [not_all _ ds he z, Bool.and_false]
        rw [r] at q
        exact q _ s3
      · rintro H3 ⟨s3, hb⟩
        have r : isAh (.tuple ds) = true := by
          show (decide (1 ≤ ds.length ∧ ds.length ≤ 16) && ds.all fun x => withinD x 0 1) = true
          rw [decide_eq_true (by omega), all_of_get _ ds fun j y hj e => hb j y (by omega) e]
          rfl
        rw [r] at q
        exact q _ s3
    | _ => exact iteF (q _ (Sam.refl _))
def sp_is_shaped {K : PySem.W.Frag} {mg : Str → Option Value} (T : Defs K mg) : Sp := fun vs H Q _ => ∃ (p : Addr → Prop) (v : V) (z : Str) (ds : List PyData) (kb nb wb : Nat), vs = [v] ∧ Tg p H v (.tuple (.str z :: ds)) ∧ Bd kb nb wb (.tuple (.str z :: ds)) ∧ nb ≤ 60 ∧ GxR.TabG H T.P_is_table ∧ GxR.TabG H T.P_is_ahead ∧ ∀ H' r, Sam H H' → (r = true ↔ Shp z ds) → Q (.bl r) H'
theorem ok_is_shaped (T : Defs K mg) (TT : Tabs T base) : FnOk P w K mg base CX0 11 T.f_is_shaped T.fd_is_shaped ["piece"] (sp_is_shaped T) := by
  have G_is_bit : FnOk P w K mg base CX0 3 T.f_is_bit T.fd_is_bit ["thing"] (sp_is_bit K) := ok_is_bit T TT
  have G_is_ahead : FnOk P w K mg base CX0 5 T.f_is_ahead T.fd_is_ahead ["thing"] (sp_is_ahead T) := ok_is_ahead T TT
  have G_is_maker : FnOk P w K mg base CX0 10 T.f_is_maker T.fd_is_maker ["thing"] (sp_is_maker T) := ok_is_maker T TT
  have G_is_within : FnOk P w K mg base CX0 2 T.f_is_within T.fd_is_within ["thing", "least", "greatest"] (sp_is_within K) := ok_is_within T TT
  refine T.F_is_shaped.ok sc_is_shaped (fun vs H Q E h => ?_) (fun cdv A outer s H vs Q E hr h => ?_)
  · obtain ⟨p, v, z, ds, kb, nb, wb, rfl, hv, bd, nb60, tab, tah, q⟩ := h
    rfl
  · obtain ⟨p, v, z, ds, kb, nb, wb, rfl, hv, bd, nb60, tab, tah, q⟩ := h
    refine ⟨_, PSs.nox (pss_one (ps_match (pv 0) (pcs_seq rfl sc_is_shaped.nd pe_str (pcap_cons (i := 1) rfl (.inl rfl) (pcap_cons (i := 2) rfl (.inl rfl) pcap_nil)) (pss_one (ps_ret (pe_and (pe_call G_is_maker (hr.mono (by decide)) (by rfl) T.g_is_maker T.F_is_maker.kp T.b_is_maker .nil pass0 (pa_cons (pv 1) pa_nil)) (pe_one (pe_call G_is_within (hr.mono (by decide)) (by rfl) T.g_is_within T.F_is_within.kp T.b_is_within .nil pass0 (pa_cons (pv 2) (pa_cons pe_int (pa_cons (pe_globI (by rfl) T.i_GREATEST_K) pa_nil))))))))
    (pcs_seq rfl sc_is_shaped.nd pe_str (pcap_cons (i := 3) rfl (.inl rfl) (pcap_cons (i := 4) rfl (.inl rfl) (pcap_cons (i := 5) rfl (.inl rfl) pcap_nil))) (pss_one (ps_ret (pe_call G_is_bit (hr.mono (by decide)) (by rfl) T.g_is_bit T.F_is_bit.kp T.b_is_bit .nil pass0 (pa_cons (pv 5) pa_nil))))
    (pcs_seq rfl sc_is_shaped.nd pe_str (pcap_cons (i := 3) rfl (.inl rfl) (pcap_cons (i := 6) rfl (.inl rfl) pcap_nil)) (pss_one (ps_ret (pe_call G_is_ahead (hr.mono (by decide)) (by rfl) T.g_is_ahead T.F_is_ahead.kp T.b_is_ahead .nil pass0 (pa_cons (pv 6) pa_nil))))
    (pcs_seq rfl sc_is_shaped.nd pe_str (pcap_cons (i := 3) rfl (.inl rfl) (pcap_cons (i := 4) rfl (.inl rfl) (pcap_cons (i := 1) rfl (.inl rfl) (pcap_cons (i := 7) rfl (.inl rfl) (pcap_cons (i := 8) rfl (.inl rfl) pcap_nil))))) (pss_one (ps_ret (pe_and (pe_call G_is_maker (hr.mono (by decide)) (by rfl) T.g_is_maker T.F_is_maker.kp T.b_is_maker .nil pass0 (pa_cons (pv 1) pa_nil)) (pe_and (pe_call G_is_within (hr.mono (by decide)) (by rfl) T.g_is_within T.F_is_within.kp T.b_is_within .nil pass0 (pa_cons (pv 7) (pa_cons pe_int (pa_cons (pe_globI (by rfl) T.i_MOST_HELD) pa_nil)))) (pe_one (pe_call G_is_within (hr.mono (by decide)) (by rfl) T.g_is_within T.F_is_within.kp T.b_is_within .nil pass0 (pa_cons (pv 8) (pa_cons pe_int (pa_cons (pv 7) pa_nil)))))))))
    (pcs_any (pss_one (ps_ret (pe_and (pe_cmpR (op_inK (x := "SIDES") (K' := K) (w' := w) rfl rfl T.e_SIDES DW.k_SIDES (DW.v_SIDES w)) (pe_ix ix_tup (pv 0) pe_int (fun _ _ => rfl)) (pe_glob (v := .ref T.C_SIDES) (by rfl) T.g_SIDES rfl) rfl) (pe_one (pe_cmpR op_eq (pe_callB call_len_seq (by rfl) T.m_len bt_len (pa_cons (pv 0) pa_nil)) (pe_op op_add pe_int (pe_ix (ix_K (x := "SIDES") (K' := K) (w' := w) rfl rfl T.e_SIDES DW.k_SIDES (DW.v_SIDES w)) (pe_glob (v := .ref T.C_SIDES) (by rfl) T.g_SIDES rfl) (pe_ix ix_tup (pv 0) pe_int (fun _ _ => rfl)) (fun _ _ => rfl))) (nomark _))))))))))))), ?_⟩
    have no : ¬ Shp z ds → ∀ H', Sam H H' → Q (.bl false) H' := fun z H' s => q H' false s ⟨fun e => (by cases e), fun e => absurd e z⟩
    obtain ⟨a, xs, rfl, np, ha, hx⟩ := hv.tupv
    cases hx with
    | cons t0 tr =>
    rename_i x0 ys
    obtain rfl := t0.strv
    have ll := tr.len
    have bdi := bd.itemsT.2
    have nb1 := bd.itemsT.1
    have each : ∀ e, e ∈ ds → Bd kb nb wb e := fun e he => (bdi.get (d := e) (List.mem_cons_of_mem _ he)).mono (Nat.le_refl _) (by omega) (Nat.le_refl _)
    refine ⟨.ref a, rfl, a, _, rfl, SqT.mk ha, ?_⟩
    have fin : z ≠ "make" ∨ ds.length ≠ 2 → z ≠ "keep" ∨ ds.length ≠ 3 → z ≠ "late" ∨ ds.length ≠ 2 → z ≠ "keeper" ∨ ds.length ≠ 5 → ∀ n, sideN z = n → (n = none → Q (.bl false) H) ∧ (∀ k, n = some k → Q (.bl (decide (V.int ((V.str z :: ys).length : Nat) = V.int (1 + k)))) H) := fun h1 h2 h3 h4 n hn => by
      subst hn
      refine ⟨fun e => no (fun s => ?_) H (Sam.refl H), fun k e => q H _ (Sam.refl H) ⟨fun y => ?_, fun s => ?_⟩⟩
      · rcases shp_len s e with ⟨a, b⟩ | ⟨a, b⟩ | ⟨a, b⟩ | ⟨a, b⟩
        · exact h1.elim (fun w => w a) (fun w => w b)
        · exact h2.elim (fun w => w a) (fun w => w b)
        · exact h3.elim (fun w => w a) (fun w => w b)
        · exact h4.elim (fun w => w a) (fun w => w b)
      · have y := V.int.inj (of_decide_eq_true y)
        rw [List.length_cons] at y
        have ek : k = (ds.length : Int) := by omega
        subst ek
        exact .side e
      · have w := side_words e
        have := shp_side s w.1 w.2.1 w.2.2.1 w.2.2.2
        rw [e] at this
        have := Option.some.inj this
        exact decide_eq_true (congrArg V.int (by rw [List.length_cons]; omega))
    by_cases l2 : ds.length = 2
    · obtain ⟨d1, d2, rfl⟩ : ∃ d1 d2, ds = [d1, d2] := by
        match ds, l2 with
        | [d1, d2], _ => exact ⟨d1, d2, rfl⟩
      obtain ⟨x1, x2, rfl, t1, t2⟩ := tr.two
      refine .inr ⟨z, [x1, x2], rfl, rfl, ?_⟩
      by_cases w1 : z = "make"
      · subst w1
        refine .inl ⟨rfl, x1, rfl, p, x1, d1, kb, nb, wb, rfl, t1, each d1 (by simp), nb60, tab, fun H1 r s1 hr => ⟨_, rfl, ?_⟩⟩
        cases r with
        | false =>
          refine iteF (no ?_ H1 s1)
          intro s
          obtain ⟨m, k, e, h1, h2⟩ := shp_make s
          cases e
          have := hr.mpr h1
          cases this
        | true =>
          refine iteT ⟨x2, rfl, p, x2, d2, 0, 64, rfl, t2.sam s1, q H1 _ s1 ⟨fun e => .make (hr.mp rfl) e, fun s => ?_⟩⟩
          obtain ⟨m, k, e, h1, h2⟩ := shp_make s
          cases e
          exact h2
      refine .inr ⟨w1, .inl ⟨by simp, .inr ⟨z, [x1, x2], rfl, rfl, ?_⟩⟩⟩
      by_cases w2 : z = "late"
      · subst w2
        refine .inl ⟨rfl, x2, rfl, p, x2, d2, rfl, t2, tah, fun H1 s1 => q H1 _ s1 ⟨fun e => .late e, fun s => ?_⟩⟩
        obtain ⟨m, k, e, h1⟩ := shp_late s
        cases e
        exact h1
      refine .inr ⟨w2, .inl ⟨by simp, ?_⟩⟩
      obtain ⟨f1, f2⟩ := fin (.inl w1) (.inr (by simp)) (.inl w2) (.inr (by simp)) _ rfl
      refine ⟨.ref a, rfl, a, _, 0, _, rfl, rfl, SqT.mk ha, atI_nat (j := 0) rfl, z, rfl, rfl, _, rfl, ?_⟩
      cases e : sideN z with
      | none => 
        rw [show dl_SIDES.lookup z = none from e]
        exact iteF (f1 e)
      | some n =>
        rw [show dl_SIDES.lookup z = some n from e]
        exact iteT ⟨.ref a, rfl, a, _, rfl, .inr (SqT.mk ha), .ref a, rfl, a, _, 0, _, rfl, rfl, SqT.mk ha, atI_nat (j := 0) rfl, z, n, rfl, rfl, e, _, _, rfl, rfl, rfl, f2 n e⟩
    by_cases l3 : ds.length = 3
    · obtain ⟨d1, d2, d3, rfl⟩ : ∃ d1 d2 d3, ds = [d1, d2, d3] := by
        match ds, l3 with
        | [d1, d2, d3], _ => exact ⟨d1, d2, d3, rfl⟩
      obtain ⟨x1, x2, x3, rfl, t1, t2, t3⟩ := tr.three
      refine .inl ⟨by simp, .inr ⟨z, [x1, x2, x3], rfl, rfl, ?_⟩⟩
      by_cases w1 : z = "keep"
      · subst w1
        refine .inl ⟨rfl, x3, rfl, p, x3, d3, rfl, t3, q H _ (Sam.refl H) ⟨fun e => .keep e, fun s => ?_⟩⟩
        obtain ⟨_, _, k, e, h1⟩ := shp_keep s
        cases e
        exact h1
      refine .inr ⟨w1, .inl ⟨by simp, .inl ⟨by simp, ?_⟩⟩⟩
      obtain ⟨f1, f2⟩ := fin (.inr (by simp)) (.inl w1) (.inr (by simp)) (.inr (by simp)) _ rfl
      refine ⟨.ref a, rfl, a, _, 0, _, rfl, rfl, SqT.mk ha, atI_nat (j := 0) rfl, z, rfl, rfl, _, rfl, ?_⟩
      cases e : sideN z with
      | none => 
        rw [show dl_SIDES.lookup z = none from e]
        exact iteF (f1 e)
      | some n =>
        rw [show dl_SIDES.lookup z = some n from e]
        exact iteT ⟨.ref a, rfl, a, _, rfl, .inr (SqT.mk ha), .ref a, rfl, a, _, 0, _, rfl, rfl, SqT.mk ha, atI_nat (j := 0) rfl, z, n, rfl, rfl, e, _, _, rfl, rfl, rfl, f2 n e⟩
    by_cases l5 : ds.length = 5
    · obtain ⟨d1, d2, d3, d4, d5, rfl⟩ : ∃ d1 d2 d3 d4 d5, ds = [d1, d2, d3, d4, d5] := by
        match ds, l5 with
        | [d1, d2, d3, d4, d5], _ => exact ⟨d1, d2, d3, d4, d5, rfl⟩
      cases tr with
      | cons t1 tr =>
      obtain ⟨x2, x3, x4, x5, rfl, t2, t3, t4, t5⟩ := tr.four
      rename_i x1
      refine .inl ⟨by simp, .inl ⟨by simp, .inl ⟨by simp, .inr ⟨z, [x1, x2, x3, x4, x5], rfl, rfl, ?_⟩⟩⟩⟩
      by_cases w1 : z = "keeper"
      · subst w1
        refine .inl ⟨rfl, x3, rfl, p, x3, d3, kb, nb, wb, rfl, t3, each d3 (by simp), nb60, tab, fun H1 r s1 hr => ⟨_, rfl, ?_⟩⟩
        cases r with
        | false =>
          refine iteF (no ?_ H1 s1)
          intro s
          obtain ⟨_, _, m, k, n, e, h1, _⟩ := shp_keeper s
          cases e
          have := hr.mpr h1
          cases this
        | true =>
          refine iteT ⟨x4, rfl, p, x4, d4, 1, 64, rfl, t4.sam s1, _, rfl, ?_⟩
          cases h4 : withinD d4 1 64 with
          | false =>
            refine iteF (no ?_ H1 s1)
            intro s
            obtain ⟨_, _, m, k, n, e, h1, b1, b2, _⟩ := shp_keeper s
            cases e
            exact within_no h4 ⟨b1, b2⟩
          | true =>
            obtain ⟨n, rfl, b1, b2⟩ := within_is h4
            obtain rfl := t4.intv
            refine iteT ⟨x5, rfl, _, rfl, p, x5, d5, 0, n, rfl, t5.sam s1, q H1 _ s1 ⟨fun e => .keeper (hr.mp rfl) b1 b2 e, fun s => ?_⟩⟩
            obtain ⟨_, _, m, k, n', e, h1, b1, b2, b3⟩ := shp_keeper s
            cases e
            exact b3
      refine .inr ⟨w1, ?_⟩
      obtain ⟨f1, f2⟩ := fin (.inr (by simp)) (.inr (by simp)) (.inr (by simp)) (.inl w1) _ rfl
      refine ⟨.ref a, rfl, a, _, 0, _, rfl, rfl, SqT.mk ha, atI_nat (j := 0) rfl, z, rfl, rfl, _, rfl, ?_⟩
      cases e : sideN z with
      | none => 
        rw [show dl_SIDES.lookup z = none from e]
        exact iteF (f1 e)
      | some n =>
        rw [show dl_SIDES.lookup z = some n from e]
        exact iteT ⟨.ref a, rfl, a, _, rfl, .inr (SqT.mk ha), .ref a, rfl, a, _, 0, _, rfl, rfl, SqT.mk ha, atI_nat (j := 0) rfl, z, n, rfl, rfl, e, _, _, rfl, rfl, rfl, f2 n e⟩
    have lle : (V.str z :: ys).length = ds.length + 1 := by rw [List.length_cons, ll]
    refine .inl ⟨by rw [lle]; show _ ≠ 2 + 1; omega, .inl ⟨by rw [lle]; show _ ≠ 3 + 1; omega, .inl ⟨by rw [lle]; show _ ≠ 2 + 1; omega, .inl ⟨by rw [lle]; show _ ≠ 5 + 1; omega, ?_⟩⟩⟩⟩
    obtain ⟨f1, f2⟩ := fin (.inr l2) (.inr l3) (.inr l2) (.inr l5) _ rfl
    refine ⟨.ref a, rfl, a, _, 0, _, rfl, rfl, SqT.mk ha, atI_nat (j := 0) rfl, z, rfl, rfl, _, rfl, ?_⟩
    cases e : sideN z with
    | none => 
      rw [show dl_SIDES.lookup z = none from e]
      exact iteF (f1 e)
    | some n =>
      rw [show dl_SIDES.lookup z = some n from e]
      exact iteT ⟨.ref a, rfl, a, _, rfl, .inr (SqT.mk ha), .ref a, rfl, a, _, 0, _, rfl, rfl, SqT.mk ha, atI_nat (j := 0) rfl, z, n, rfl, rfl, e, _, _, rfl, rfl, rfl, f2 n e⟩
/-! enumerate of a tuple -/
abbrev itObj (l : Addr) : Obj := { cls := .type "tuple_iterator", data := .fields #[.ref l, .int 0 0] }
abbrev enObj (a : Addr) : Obj := { cls := .type "enumerate", data := .fields #[.none, .bool false, .ref a, rawInt 0, .none, .none] }
set_option maxHeartbeats 1000000 in
theorem enum_newT (l : Addr) (items : Array Value) : Meets (Builtin.«enumerate.__new__» ⟨[.type "enumerate", .ref l], []⟩)
    (fun _ R s => s.heap.IsTuple l items ∧ R (.ok (.ret (.ref (s.heap.push (itObj l)).objs.size))) { s with heap := (s.heap.push (itObj l)).push (enObj s.heap.objs.size) }) :=
  .of_wp fun prog w A R s h => by
    obtain ⟨hp, g, d, tk, os⟩ := s
    obtain ⟨h1, h⟩ := h
    have hsub := sub_enumerate
    have q1 : ∀ {A' : Around} {E : Value → Shared → Prop} {Q : Value → Shared → Prop}, Q (.ref hp.objs.size) ⟨hp.push (itObj l), g, d, tk, os⟩ → wpAny (model prog w) A' (pyIter (.ref l)) Q E ⟨hp, g, d, tk, os⟩ := fun q => (begins_tuple l items).iter prog w _ _ ⟨hp, g, d, tk, os⟩ _ h1 q
    obtain ⟨⟨c, dct, dt, sl⟩, hl, hc, n, hd⟩ := h1
    replace hc : c = .type "tuple" := hc
    replace hd : dt = .seq items n := hd
    subst hc hd
    wp_walk using AutoSeq1.wpAny_loadPart' hl, q1
    refine wpAny_stack_any fun st => wpAny_pure ?_
    split
    · rename_i c _ _ _ _ _
      cases (c == Value.type "enumerate") <;> (wp_walk using AutoSeq1.wpAny_loadPart' hl, q1; exact ⟨_, rfl, h⟩)
    · wp_walk using AutoSeq1.wpAny_loadPart' hl, q1
      exact ⟨_, rfl, h⟩
theorem enum_callT {prog : Program} {w : World} {A : Around} {E : Value → Shared → Prop} {s : Shared} {l : Addr} {items : Array Value} {Q : Value → Shared → Prop} (hL : s.heap.IsTuple l items)
    (h : ∀ h', IsEnum h' (s.heap.objs.size + 1) s.heap.objs.size 0 .none → h'.IsTupleIter s.heap.objs.size l 0 → (∀ b o, s.heap.get? b = some o → h'.get? b = some o) → Q (.ref (s.heap.objs.size + 1)) { s with heap := h' }) :
    wpAny (model prog w) A (call (.type "enumerate") [.ref l]) Q E s := by
  refine callType_new F.called_enumerate (by decide) (F.typeCall_enumerate_1 _) (F.newCall_enumerate_1 _) (fun obj => F.args_object_init_2 obj _) F.entry_enumerate_new (enum_newT l items) ⟨hL, ?_⟩
  have hz : (s.heap.push (itObj l)).objs.size = s.heap.objs.size + 1 := Heap.size_push ..
  show _ ∧ _
  rw [hz]
  have he : IsEnum ((s.heap.push (itObj l)).push (enObj s.heap.objs.size)) (s.heap.objs.size + 1) s.heap.objs.size 0 .none := by
    have e := Heap.get?_push_size (s.heap.push (itObj l)) (o := enObj s.heap.objs.size) rfl
    rw [hz] at e
    exact e
  exact ⟨⟨_, he, rfl⟩, h _ he ⟨_, Heap.get?_push_of_some _ (Heap.get?_push_size _ rfl), rfl, rfl⟩ fun b o x => Heap.get?_push_of_some _ (Heap.get?_push_of_some _ x)⟩
/-- the tuple at a, each item in a new pair -/
def ItN (K : PySem.W.Frag) (a : Addr) : It :=
  ⟨fun i H => ∃ (xs : List V) (x : V), SqT K H a xs ∧ xs[i]? = some x, fun i H v H' => ∃ T x, v = .ref T ∧ H T = none ∧ H' = upd H T (.tup [.int (i : Nat), x]) ∧ ∀ xs, SqT K H a xs → xs[i]? = some x, fun i H => ∃ xs : List V, SqT K H a xs ∧ xs.length ≤ i⟩
theorem turn_N {P : Program} {w : World} {K : PySem.W.Frag} {elts : List Expr} {kk : Nat} {tpos : Pos} (a e it : Addr) (hae : a ≠ e) (hai : a ≠ it) :
    Turn P w K (.Tuple elts kk tpos) (ItN K a) [e, it] e (fun i h => (∃ old, IsEnum h e it ((i : Nat) : Int) old) ∧ h.IsTupleIter it a i ∧ e ≠ it) where
  mem := List.mem_cons_self
  obj := fun i h st b hb => by
    obtain ⟨⟨old, he⟩, ⟨o, ho, hc, hd⟩, _⟩ := st
    rcases List.mem_cons.mp hb with z | z
    · rw [z]
      exact ⟨_, he, fun v q => nomatch q⟩
    · rw [List.mem_singleton.mp z]
      exact ⟨o, ho, fun v q => by rw [hd] at q; cases q⟩
  keep := fun i h h' st k => let ⟨⟨old, he⟩, hi, hne⟩ := st; ⟨⟨old, k e List.mem_cons_self _ he⟩, hi.at fun o q => k it (List.mem_cons_of_mem _ List.mem_cons_self) o q, hne⟩
  item := by
    intro X hP hw hK hc i pins s σ H E I hf st hg
    subst hP hw hK
    obtain ⟨⟨old, he⟩, hit, hne⟩ := st
    obtain ⟨xs, x, hq, hx⟩ := hg
    obtain ⟨its, rv, p, hz⟩ := I.tuple hq
    obtain ⟨u, hu, ru⟩ := rv.get hx
    have hel : e < s.heap.objs.size := Heap.lt_size he
    have hil : it < s.heap.objs.size := by
      obtain ⟨_, q, _⟩ := hit
      exact Heap.lt_size q
    have hlt : i < its.toArray.size := by
      rw [List.size_toArray]
      exact (List.getElem?_eq_some_iff.mp hu).1
    refine wpAny_pyNext_enum_itemD (Draws.tuple (A := X.A.in1) (I.ok.hd hc) it a hai its.toArray) he ⟨hit, (show s.heap.IsTuple a its.toArray from p)⟩ hlt hne (fun z => ?_) fun x' h' tk hP' ho hst' hT hsz hk => ?_
    · rcases List.mem_cons.mp z with z | z
      · exact hne z
      · exact hae (List.mem_singleton.mp z).symm
    have ex : x' = u := by
      have hP' : its.toArray[i]? = some x' := hP'
      have hu' : its.toArray[i]? = some u := by simpa using hu
      rw [hu'] at hP'
      exact (Option.some.inj hP').symm
    subst ex
    refine ⟨_, rfl, wpAny_letOwnedTupleGo_enum (s := { s with heap := h', toks := tk + 1 }) ho fun h'' he' sb => ?_⟩
    have hT2 : h''.get? s.heap.objs.size = some { cls := .type "tuple", data := .seq #[.int i tk, x'] } := (sb.2 _ (Nat.ne_of_gt hel)).trans hT
    have new : ObjOk X.prog X.w (upd H s.heap.objs.size (.tup [.int (i : Nat), x])) h'' s.heap.objs.size (.tup [.int (i : Nat), x]) := ⟨(show 2 ≤ sizeLine by decide), [.int i tk, x'], .cons ⟨_, rfl⟩ (.cons ru .nil), ⟨_, hT2, rfl, _, rfl⟩⟩
    have I1 : Inv X pins σ (upd H s.heap.objs.size (.tup [.int (i : Nat), x])) { s with heap := h'', toks := tk + 1 } :=
      I.turnedNew (ch := [e, it]) (fun b ob hb q => (sb.2 b (fun z => hb (by rw [z]; exact List.mem_cons_self))).trans (hk b ob (fun z => hb (by rw [z]; exact List.mem_cons_self)) (fun z => hb (by rw [z]; exact List.mem_cons_of_mem _ List.mem_cons_self)) q)) hf (Nat.le_refl _) new
    refine ⟨.ref s.heap.objs.size, _, I1, rfl, ⟨_, x, rfl, I.hok.fresh (Nat.le_refl _), rfl, fun ys hy => by rw [I.tuple_inj hy hq]; exact hx⟩, ⟨⟨x', ?_⟩, hst'.1.at fun o q => (sb.2 it (Ne.symm hne)).trans q, hne⟩, fun b hb => ?_⟩
    · rw [show ((i + 1 : Nat) : Int) = (i : Int) + 1 by omega]
      exact he'
    · have hb' : b < s.heap.objs.size := by
        rcases List.mem_cons.mp hb with z | z
        · rw [z]
          exact hel
        · rw [List.mem_singleton.mp z]
          exact hil
      rw [upd_ne (Nat.ne_of_lt hb')]
      exact (hf b hb).1
  done := by
    intro X hP hw hK hc i pins s σ H E I hf st hg
    subst hP hw hK
    obtain ⟨⟨old, he⟩, hit, hne⟩ := st
    obtain ⟨xs, hq, hx⟩ := hg
    obtain ⟨its, rv, p, hz⟩ := I.tuple hq
    obtain ⟨f0, f1, f2, f3, f4, f5⟩ := hf it (List.mem_cons_of_mem _ List.mem_cons_self)
    have hl := rv.length
    have hT : s.TypeIs (.ref e) "enumerate" := ⟨_, he, rfl⟩
    have hend : its.toArray[i]? = none := by
      rw [List.getElem?_toArray, List.getElem?_eq_none (by omega)]
    unfold pyNext
    refine wpAny_bind (wpAny_attempt (wpAny_callSpecial?_slot (name := Str.ofString "__next__") hT F.slot_enumerate_next (wpAny_call_entry F.slot_enumerate_next hT F.entry_enumerate_next ?_ (F.args_enumerate_next_1 _))))
    show wpAny _ _ (field (.ref e) 2 >>= _) _ _ _
    refine wpAny_bind (wpAny_field he rfl (x := .ref it) rfl ?_)
    refine wpAny_bind (wpAny_nextOf_tuple_end (I.ok.hd hc) hit (show s.heap.IsTuple a its.toArray from p) hend fun h' x eb hx' => ?_)
    obtain ⟨o, ho, hcl⟩ := hx'
    refine wpAny_bind (wpAny_isInstance (T := "StopIteration") (b := true) ⟨o, ho, hcl⟩ isSubtype_stop ?_)
    exact wpAny_pure ⟨rfl, I.turned (t' := s.toks) (fun b o hb q => eb b o hb q) f0 f1 f3 f4 f5⟩
  self := fun A i s Q E st h => let ⟨⟨_, he⟩, _⟩ := st; wpAny_pyIter_enum he h
def iEnumT (K : PySem.W.Frag) (ta : TA) : TI := fun σ H R => ta σ H fun vs H1 => ∃ a xs, vs = [.ref a] ∧ SqT K H1 a xs ∧ R (ItN K a) H1
theorem pi_enumT {X : Cx} {e : Expr} {ta : TA} {p pos tpos : Pos} {elts : List Expr} {kk : Nat} (hg : Gl X "enumerate") (hm : X.mg "enumerate" = none) (ha : PA X [e] ta) (hs : starEach [e] X.env = [(false, eval e X.env)] := by rfl) :
    PI X (.Tuple elts kk tpos) (.Call (.Name "enumerate" p) [e] [] pos) (iEnumT X.K ta) := by
  refine ⟨fun pins s σ H R I h => ?_⟩
  refine Call_ (ld_blt I hg hm boot_enumerate (PyProof.Rows.callWith_type1 (thn (ha.run pos pins s σ H _ I h) fun us s1 ⟨vs, H1, I1, r1, q1⟩ => ?_) hs rfl))
  obtain ⟨a, xs, ex, hq, q⟩ := q1
  subst ex
  rw [Vals.ref1 r1]
  obtain ⟨its, rv, p', hz⟩ := I1.tuple hq
  have lta : a < s1.heap.objs.size := by
    obtain ⟨o, ho, _⟩ := id p'
    exact Heap.lt_size ho
  refine enum_callT (show s1.heap.IsTuple a its.toArray from p') fun h' he hit hk => wpAny_pyIter_enum he ?_
  have I2 : Inv X pins σ H1 { s1 with heap := h' } := I1.kept (t' := s1.toks) hk
  refine ⟨s1.heap.objs.size + 1, [s1.heap.objs.size + 1, s1.heap.objs.size], _, _, H1, rfl, I2, turn_N a (s1.heap.objs.size + 1) s1.heap.objs.size (Nat.ne_of_lt (Nat.lt_succ_of_lt lta)) (Nat.ne_of_lt lta), ⟨⟨.none, he⟩, hit, Nat.succ_ne_self _⟩, fun b hb => ?_, q⟩
  have hle : s1.heap.objs.size ≤ b := by
    rcases List.mem_cons.mp hb with z | z
    · rw [z]
      exact Nat.le_succ _
    · rw [List.mem_singleton.mp z]
      exact Nat.le_refl _
  exact I1.fpOk hle (I1.hok.fresh hle)
theorem walk_enumT {K : PySem.W.Frag} {a : Addr} {xs : List V} : Walk (ItN K a) xs.length (fun H => SqT K H a xs) (YPair (fun i => some (.int (i : Nat))) (fun i => xs[i]?)) := by
  refine ⟨fun i _ hi q => ⟨xs, xs[i], q, List.getElem?_eq_getElem hi⟩, fun _ q => ⟨xs, q, Nat.le_refl _⟩, fun i H v H' _ q y => ?_⟩
  obtain ⟨T, x, h1, h2, h3, h4⟩ := y
  exact ⟨T, .int (i : Nat), x, h1, h2, h3, rfl, h4 xs q⟩
structure MTab {K : PySem.W.Frag} {mg : Str → Option Value} (T : Defs K mg) (H : Hp) : Prop where
  tb : GxR.TabG H T.P_is_table
  ah : GxR.TabG H T.P_is_ahead
  pc : GxR.TabG H T.P_is_piece
theorem MTab.sam {T : Defs K mg} {H H' : Hp} (h : MTab T H) (s : Sam H H') : MTab T H' := ⟨s.tabG h.tb, s.tabG h.ah, s.tabG h.pc⟩
def sp_is_piece {K : PySem.W.Frag} {mg : Str → Option Value} (T : Defs K mg) : Sp := fun vs H Q _ => ∃ (p : Addr → Prop) (v : V) (d : PyData) (number many kb nb wb : Nat), vs = [v, .int (number : Nat), .int (many : Nat)] ∧ Tg p H v d ∧ Bd kb nb wb d ∧ nb ≤ 60 ∧ MTab T H ∧ ∀ H' r, Sam H H' → (r = true ↔ Pc number many d) → Q (.bl r) H'
theorem lk_in (z : Str) : inV (.str z) [.str "late", .str "keeper"] = decide (z = "late" ∨ z = "keeper") := by
  by_cases h1 : z = "late"
  · subst h1
    rw [decide_eq_true (.inl rfl)]
    decide +kernel
  by_cases h2 : z = "keeper"
  · subst h2
    rw [decide_eq_true (.inr rfl)]
    decide +kernel
  rw [decide_eq_false (fun e => e.elim h1 h2)]
  show (eqV (.str "late") (.str z) || (eqV (.str "keeper") (.str z) || false)) = false
  have e1 : eqV (.str "late") (.str z) = false := by
    show (("late" : Str) == z) = false
    exact beq_false_of_ne fun e => h1 e.symm
  have e2 : eqV (.str "keeper") (.str z) = false := by
    show (("keeper" : Str) == z) = false
    exact beq_false_of_ne fun e => h2 e.symm
  rw [e1, e2]
  rfl
theorem ok_is_piece (T : Defs K mg) (TT : Tabs T base) : FnOk P w K mg base CX0 12 T.f_is_piece T.fd_is_piece ["thing", "number", "many"] (sp_is_piece T) := by
  have G_is_shaped : FnOk P w K mg base CX0 11 T.f_is_shaped T.fd_is_shaped ["piece"] (sp_is_shaped T) := ok_is_shaped T TT
  have G_is_within : FnOk P w K mg base CX0 2 T.f_is_within T.fd_is_within ["thing", "least", "greatest"] (sp_is_within K) := ok_is_within T TT
  have G_asks_of : FnOk P w K mg base CX0 1 T.f_asks_of T.fd_asks_of ["piece"] (sp_asks_of K) := ok_asks_of T TT
  refine okC T.F_is_piece T.k_is_piece sc_is_piece (fun vs H Q E h => ?_) (fun A outer s H vs Q E hr h => ?_)
  · obtain ⟨p, v, d, number, many, kb, nb, wb, rfl, hv, bd, nb60, tab, q⟩ := h
    rfl
  · obtain ⟨p, v, d, number, many, kb, nb, wb, rfl, hv, bd, nb60, tab, q⟩ := h
    refine ⟨_, PSs.nox (pss_cons (ps_if (PW.pt (pw_or (pt_not (pt_val (pe_callB call_isi (by rfl) T.m_isinstance bt_isinstance (pa_cons (pv 0) (pa_cons (pe_bltn (v := .ty "tuple") (by rfl) T.m_tuple bt_tuple rfl) pa_nil))))) (pw_or (pt_not (pt_truth (pv 0) (by intro _; rfl))) (pw_or (pt_not (pt_val (pe_callB call_isi (by rfl) T.m_isinstance bt_isinstance (pa_cons (pe_ix ix_tup (pv 0) pe_int (fun _ _ => rfl)) (pa_cons (pe_bltn (v := .ty "str") (by rfl) T.m_str bt_str rfl) pa_nil))))) (pw_or1 (pt_not (pt_val (pe_call G_is_shaped (hr.mono (by decide)) (by rfl) T.g_is_shaped T.F_is_shaped.kp T.b_is_shaped .nil pass0 (pa_cons (pv 0) pa_nil))))))))) (pss_one (ps_ret pe_bl)) pss_nil)
    (pss_cons (ps_set (i := 3) sc_is_piece.nd rfl (.inr rfl) (pe_ifExp (pt_cmpR op_in_seq (pe_ix ix_tup (pv 0) pe_int (fun _ _ => rfl)) (pe_tup (pa_cons pe_str (pa_cons pe_str pa_nil))) rfl) (pe_op op_sub (pv 2) pe_int) (pe_op op_sub (pv 1) pe_int)))
    (pss_one (ps_ret (pe_allE (k := 10) (own := [("asked", 4)]) (g := gName 4) (tt := tYes) (hr.mono (by decide)) (by rfl) T.m_all bt_all rfl sc_is_piece.nd TT.t_is_piece rfl (genOk_by (N := N_is_piece) (sc := defScope s_is_piece) (own := [("asked", 4)]) (by decide +kernel) rfl (by decide +kernel) rfl) (pi_tup (pe_call G_asks_of (hr.mono (by decide)) (by rfl) T.g_asks_of T.F_asks_of.kp T.b_asks_of .nil pass0 (pa_cons (pv 0) pa_nil))) (fun _ _ _ _ _ hr => (pg_name (i := 4) sc_is_piece.nd rfl (.inl rfl))) (fun _ _ _ _ _ hr => pts_nil) (fun _ _ _ _ _ hr => (pe_call G_is_within (hr.mono (by decide)) (by rfl) T.g_is_within T.F_is_within.kp T.b_is_within .nil pass0 (pa_cons (pv 4) (pa_cons pe_int (pa_cons (pv 3) pa_nil)))))))))), ?_⟩
    have no : ¬ Pc number many d → ∀ H', Sam H H' → Q (.bl false) H' := fun z H' s => q H' false s ⟨fun e => (by cases e), fun e => absurd e z⟩
    obtain ⟨t, ty, -, -, kt, -, -⟩ := hv.ty (K := K)
    refine ⟨v, rfl, _, _, _, _, _, rfl, .ty "tuple", ty, kt, _, rfl, ?_⟩
    cases d with
    | tuple ds =>
      obtain ⟨a, xs, rfl, np, ha, hx⟩ := hv.tupv
      refine iteF ⟨.ref a, rfl, !xs.isEmpty, .inr (.inl ⟨xs, SqT.mk ha, rfl⟩), ?_⟩
      cases hx with
      | nil =>
        refine iteT (no ?_ H (Sam.refl H))
        rintro ⟨z, ds, n, e, _⟩
        cases e
      | cons t0 tr =>
      rename_i x0 ys d0 dr
      obtain ⟨ty0, tyx, -, -, -, ks, -⟩ := t0.ty (K := K)
      refine iteF ⟨.ref a, rfl, a, _, 0, _, rfl, rfl, SqT.mk ha, atI_nat (j := 0) rfl, _, _, _, _, _, rfl, .ty "str", tyx, ks, _, rfl, ?_⟩
      cases d0 with
      | str z =>
        obtain rfl := t0.strv
        refine iteF ⟨.ref a, rfl, p, .ref a, z, dr, kb, nb, wb, rfl, hv, bd, nb60, tab.tb, tab.ah, fun H1 r s1 hr => ⟨_, rfl, ?_⟩⟩
        cases r with
        | false =>
          refine iteT (no ?_ H1 s1)
          rintro ⟨z', ds', n, e, hs, _⟩
          cases e
          have := hr.mpr hs
          cases this
        | true =>
        have hs := hr.mp rfl
        obtain ⟨n, hn, n3⟩ := shp_ask hs
        obtain ⟨g, hg⟩ : ∃ g : Int, (if z = "late" ∨ z = "keeper" then (many : Int) - 1 else (number : Int) - 1) = g := ⟨_, rfl⟩
        have pc : Pc number many (.tuple (.str z :: dr)) ↔ ∀ e, e ∈ dr.take n → withinD e 0 g = true := by
          constructor
          · rintro ⟨z', ds', n', e, _, h2, h3⟩
            cases e
            rw [hn] at h2
            cases h2
            rw [hg] at h3
            exact h3
          · intro h
            exact ⟨z, dr, (n : Int), rfl, hs, hn, by rw [hg]; exact h⟩
        have ha1 := s1.tup ha
        refine iteF ?_
        refine nx_via (fun σ X => σ = [some (.ref a), some (.int (number : Nat)), some (.int (many : Nat)), some (.int g), none] ∧ Sam H X) (fun N key => ?_) ?_
        · refine ⟨.ref a, rfl, a, _, 0, _, rfl, rfl, SqT.mk ha1, atI_nat (j := 0) rfl, (show 2 ≤ sizeLine by decide), fun tq ntq => ⟨tq, _, rfl, .inr (SqT.mk upd_same), rfl, rfl, _, rfl, ?_⟩⟩
          have s2 := s1.trans (Sam.of (same_upd ntq (o := .tup [.str "late", .str "keeper"])))
          rw [if_neg Bool.false_ne_true, lk_in]
          by_cases w : z = "late" ∨ z = "keeper"
          · rw [decide_eq_true w]
            rw [if_pos w] at hg
            refine iteT ⟨_, rfl, _, _, rfl, rfl, ?_⟩
            try dsimp only
            rw [hg]
            exact key _ _ ⟨rfl, s2⟩
          · rw [decide_eq_false w]
            rw [if_neg w] at hg
            refine iteF ⟨_, rfl, _, _, rfl, rfl, ?_⟩
            try dsimp only
            rw [hg]
            exact key _ _ ⟨rfl, s2⟩
        rintro σ X ⟨rfl, sX⟩
        have tr2 : ∀ Y, Sam H Y → TgA p Y (ys.take n) (dr.take n) := fun Y s => ((tr.split n).1).sam s
        refine ⟨.ref a, rfl, a, z, ys, n, rfl, sX.tup ha, hn, fun X1 t1 sX1 ht1 => ⟨t1, rfl, ⟨_, SqT.mk ht1⟩, (tab.sam (sX.trans (Sam.of sX1))).pc, fun X2 tb => ?_⟩⟩
        have sX1' := sX.trans (Sam.of sX1)
        have s12 := Sam.tabbed (tab.sam sX1').pc tb
        have ll := tr.len
        refine ga_it (walk_tup (xs := ys.take n)) (fun i H3 => Sam X1 H3 ∧ ∀ j y, j < i → (dr.take n)[j]? = some y → withinD y 0 g = true) ⟨s12, fun j y hj => absurd hj (Nat.not_lt_zero j)⟩ (fun i H3 _ h => SqT.mk (h.1.tup ht1)) ?_ ?_
        · rintro i x H3 H4 hi ⟨s3, hb⟩ ⟨rfl, hx⟩
          obtain ⟨e, he, tx⟩ := (tr2 _ (sX1'.trans s3)).get hx
          refine ⟨rfl, yes_ite ?_⟩
          refine ⟨x, rfl, _, rfl, p, x, e, 0, g, rfl, tx, ⟨withinD e 0 g, rfl, fun zz => ?_⟩, fun zz => ⟨s3, all_take _ _ i e he hb (by injection zz)⟩⟩
          refine no (fun y => ?_) _ (sX1'.trans s3)
          rw [pc.mp y e (List.mem_of_getElem? he)] at zz
          cases zz
        · rintro H3 ⟨s3, hb⟩
          refine q _ true (sX1'.trans s3) ⟨fun _ => pc.mpr fun e he => ?_, fun _ => rfl⟩
          obtain ⟨j, hj⟩ := List.getElem?_of_mem he
          have hj2 := (List.getElem?_eq_some_iff.mp hj).1
          have l1 : (ys.take n).length = (dr.take n).length := by rw [List.length_take, List.length_take, ll]
          exact hb j e (by omega) hj
      | _ => exact iteT (no (by rintro ⟨z, ds, n, e, _⟩; cases e) H (Sam.refl H))
    | _ => exact iteT (no (by rintro ⟨z, ds, n, e, _⟩; cases e) H (Sam.refl H))
def sp_is_machine {K : PySem.W.Frag} {mg : Str → Option Value} (T : Defs K mg) : Sp := fun vs H Q _ => ∃ (p : Addr → Prop) (v : V) (d : PyData) (kb nb wb : Nat), vs = [v] ∧ Tg p H v d ∧ Bd kb nb wb d ∧ nb ≤ 60 ∧ MTab T H ∧ GxR.TabG H T.P_is_machine ∧ ∀ H' r, Sam H H' → (r = true ↔ isMc d) → Q (.bl r) H'
theorem ok_is_machine (T : Defs K mg) (TT : Tabs T base) : FnOk P w K mg base CX0 14 T.f_is_machine T.fd_is_machine ["thing"] (sp_is_machine T) := by
  have G_is_piece : FnOk P w K mg base CX0 12 T.f_is_piece T.fd_is_piece ["thing", "number", "many"] (sp_is_piece T) := ok_is_piece T TT
  refine okC T.F_is_machine T.k_is_machine sc_is_machine (fun vs H Q E h => ?_) (fun A outer s H vs Q E hr h => ?_)
  · obtain ⟨p, v, d, kb, nb, wb, rfl, hv, bd, nb60, mt, tab, q⟩ := h
    rfl
  · obtain ⟨p, v, d, kb, nb, wb, rfl, hv, bd, nb60, mt, tab, q⟩ := h
    refine ⟨_, PSs.nox (pss_cons (ps_if (PW.pt (pw_or (pt_not (pt_val (pe_callB call_isi (by rfl) T.m_isinstance bt_isinstance (pa_cons (pv 0) (pa_cons (pe_bltn (v := .ty "tuple") (by rfl) T.m_tuple bt_tuple rfl) pa_nil))))) (pw_or1 (pt_not (pt_chain op_le op_le pe_int (pe_callB call_len_seq (by rfl) T.m_len bt_len (pa_cons (pv 0) pa_nil)) (pe_globI (by rfl) T.i_MOST_PIECES)))))) (pss_one (ps_ret pe_bl)) pss_nil)
    (pss_one (ps_ret (pe_allE (k := 12) (own := [("number", 1), ("piece", 2)]) (g := gTup K 2 (gCons (gName 1) (gCons (gName 2) gNil))) (tt := tYes) (hr.mono (by decide)) (by rfl) T.m_all bt_all rfl sc_is_machine.nd TT.t_is_machine rfl (genOk_by (N := N_is_machine) (sc := defScope s_is_machine) (own := [("number", 1), ("piece", 2)]) (by decide +kernel) rfl (by decide +kernel) rfl) (pi_enumT (by rfl) T.m_enumerate (pa_cons (pv 0) pa_nil)) (fun _ _ _ _ _ hr => (pg_tupK (K := K) rfl rfl (pgs_cons (pg_name (i := 1) sc_is_machine.nd rfl (.inl rfl)) (pgs_cons (pg_name (i := 2) sc_is_machine.nd rfl (.inl rfl)) pgs_nil)))) (fun _ _ _ _ _ hr => pts_nil) (fun _ _ _ _ _ hr => (pe_call G_is_piece (hr.mono (by decide)) (by rfl) T.g_is_piece T.F_is_piece.kp T.b_is_piece .nil pass0 (pa_cons (pv 2) (pa_cons (pv 1) (pa_cons (pe_callB (lenK (K := K) rfl) (by rfl) T.m_len bt_len (pa_cons (pv 0) pa_nil)) pa_nil))))))))), ?_⟩
    have no : ¬ isMc d → ∀ H', Sam H H' → Q (.bl false) H' := fun z H' s => q H' false s ⟨fun e => (by cases e), fun e => absurd e z⟩
    obtain ⟨t, ty, -, -, kt, -, -⟩ := hv.ty (K := K)
    refine ⟨v, rfl, _, _, _, _, _, rfl, .ty "tuple", ty, kt, _, rfl, ?_⟩
    cases d with
    | tuple ds =>
      obtain ⟨a, xs, rfl, np, ha, hx⟩ := hv.tupv
      have ll := hx.len
      have bdi := bd.itemsT.2
      have nb1 := bd.itemsT.1
      refine iteF ⟨.ref a, rfl, a, _, rfl, .inr (SqT.mk ha), _, _, rfl, rfl, _, rfl, ?_⟩
      by_cases c1 : (1 : Int) ≤ (xs.length : Nat)
      rotate_left
      · rw [decide_eq_false c1]
        refine iteF ⟨_, rfl, iteT (no ?_ H (Sam.refl H))⟩
        rintro ⟨ds', e, l, _⟩
        cases e
        omega
      rw [decide_eq_true c1]
      refine iteT ⟨_, _, rfl, rfl, _, rfl, ?_⟩
      by_cases c2 : ((xs.length : Nat) : Int) ≤ 24
      rotate_left
      · rw [decide_eq_false c2]
        refine iteT (no ?_ H (Sam.refl H))
        rintro ⟨ds', e, _, l, _⟩
        cases e
        omega
      rw [decide_eq_true c2]
      refine iteF ⟨.ref a, rfl, a, _, rfl, SqT.mk ha, tab, fun H2 tb => ?_⟩
      have s2 := Sam.tabbed tab tb
      refine ga_it (walk_enumT (K := K) (a := a) (xs := xs)) (fun i H3 => Sam H H3 ∧ ∀ j e, j < i → ds[j]? = some e → Pc j ds.length e) ⟨s2, fun j y hj => absurd hj (Nat.not_lt_zero j)⟩ (fun i H3 _ h => SqT.mk (h.1.tup ha)) ?_ ?_
      · rintro i x H3 H4 hi ⟨s3, hb⟩ ⟨t5, x1, x2, rfl, nt5, rfl, e1, e2⟩
        have e1 : some (V.int (i : Nat)) = some x1 := e1
        cases e1
        obtain ⟨e, he, tx⟩ := hx.get e2
        have s4 := s3.trans (Sam.of (same_upd nt5 (o := .tup [.int (i : Nat), x2])))
        refine ⟨t5, _, rfl, SqT.mk upd_same, rfl, _, _, rfl, _, _, rfl, rfl, rfl, yes_ite ?_⟩
        refine ⟨x2, rfl, _, rfl, .ref a, rfl, a, _, rfl, .inr (SqT.mk (s4.tup ha)), p, x2, e, i, ds.length, kb, nb, wb, ?_, tx.sam s4, (bdi.get (List.mem_of_getElem? he)).mono (Nat.le_refl _) (by omega) (Nat.le_refl _), nb60, mt.sam s4, fun H5 r s5 hr => ⟨⟨r, rfl, fun zz => ?_⟩, fun zz => ⟨s4.trans s5, fun j y hj ey => ?_⟩⟩⟩
        · rw [ll]
          rfl
        · refine no (fun y => ?_) _ (s4.trans s5)
          obtain ⟨ds', e', _, _, hp⟩ := y
          cases e'
          have := hr.mpr (hp i e he)
          rw [this] at zz
          cases zz
        · by_cases z : j < i
          · exact hb j y z ey
          · obtain rfl : j = i := by omega
            rw [he] at ey
            cases ey
            exact hr.mp (V.bl.inj zz)
      · rintro H3 ⟨s3, hb⟩
        refine q _ true s3 ⟨fun _ => ⟨ds, rfl, by omega, by omega, fun i e he => hb i e ?_ he⟩, fun _ => rfl⟩
        have := (List.getElem?_eq_some_iff.mp he).1
        omega
    | _ => exact iteT (no (by rintro ⟨ds, e, _⟩; cases e) H (Sam.refl H))
/-! the law's makers -/
theorem gcd_stepN (x y : Nat) : Nat.gcd y (x % y) = Nat.gcd x y := by
  rw [Nat.gcd_comm, ← Nat.gcd_rec, Nat.gcd_comm]
def sp__law_alone (_ : PySem.W.Frag) : Sp := fun vs H Q _ => ∃ a b : Nat, vs = [.int (a : Nat), .int (b : Nat)] ∧ Q (.bl (decide (V.int ((Nat.gcd a b : Nat) : Int) = V.int 1))) H
theorem ok__law_alone (T : Defs K mg) (TT : Tabs T base) : FnOk P w K mg base CX0 1 T.f__law_alone T.fd__law_alone ["_law_one", "_law_other"] (sp__law_alone K) := by
  refine T.F__law_alone.ok sc__law_alone (fun vs H Q E h => ?_) (fun cdv A outer s H vs Q E hr h => ?_)
  · obtain ⟨a, b, rfl, q⟩ := h
    rfl
  · obtain ⟨a, b, rfl, q⟩ := h
    refine ⟨_, PSs.nox (pss_cons (ps_while PassesOwn.never (pt_cmpR op_gt (pv 1) pe_int (nomark _)) (pss_one (ps_par (i := 0) (j := 1) (by rfl) sc__law_alone.nd rfl rfl (by decide) rfl rfl (pa_cons (pv 1) (pa_cons (pe_op op_mod (pv 0) (pv 1)) pa_nil)) (by rfl))))
    (pss_one (ps_ret (pe_cmpR op_eq (pv 0) pe_int (nomark _))))), ?_⟩
    refine while_by (fun σ H1 => H1 = H ∧ ∃ x y : Nat, σ = [some (.int (x : Nat)), some (.int (y : Nat))] ∧ Nat.gcd x y = Nat.gcd a b) (fun σ _ => match σ with | [_, some (.int y)] => y.toNat | _ => 0) ⟨rfl, a, b, rfl, rfl⟩ ?_ ?_
    · rintro σ H1 ⟨rfl, x, y, rfl, hg⟩
      refine ⟨.int (y : Nat), rfl, _, _, rfl, rfl, _, rfl, ite2 (fun e => ?_) (fun e => ?_)⟩
      · have hy : (0 : Int) < (y : Int) := of_decide_eq_true e
        refine ⟨.int (y : Nat), rfl, .int (x : Nat), rfl, .int (y : Nat), rfl, _, _, rfl, rfl, hy, _, _, rfl, ⟨rfl, y, x % y, ?_, ?_⟩, ?_⟩
        · rfl
        · rw [gcd_stepN, hg]
        · show ((x : Int) % (y : Int)).toNat < ((y : Int)).toNat
          have := Int.emod_lt_of_pos (x : Int) hy
          have := Int.emod_nonneg (x : Int) (show (y : Int) ≠ 0 by omega)
          omega
      · have hy : ¬ (0 : Int) < (y : Int) := fun z => e (decide_eq_true z)
        have y0 : y = 0 := by omega
        subst y0
        rw [Nat.gcd_zero_right] at hg
        subst hg
        exact ⟨_, rfl, rfl, q⟩
    · rintro σ H1 Q1 Q2 hQ ⟨v, hv, i, j, e1, e2, k, e3, h3⟩
      exact ⟨v, hv, i, j, e1, e2, k, e3, hQ _ _ h3⟩
def SVR (R : Int → Prop) (D : Addr) (HX : Hp) (m i : Nat) (H1 : Hp) : Prop := ∃ ss : List Int, ss.length ≤ i ∧ (i = 0 ∨ 1 ≤ ss.length) ∧ (∀ x, x ∈ ss → 1 ≤ x ∧ x ≤ m ∧ R x) ∧ Same HX H1 ∧ H1 D = some (.lst (ss.map V.int))
theorem i01b {c : Bool} : 0 ≤ (if c = true then (1 : Int) else 0) ∧ (if c = true then (1 : Int) else 0) < ((2 : Nat) : Int) := by
  cases c <;> decide
theorem word_menu {x : V} (hx : x ∈ [V.str "slow", .str "slip", .str "late"]) : ∃ z : Str, x = .str z ∧ (z = "slow" ∨ z = "slip" ∨ z = "late") := by
  rcases List.mem_cons.mp hx with rfl | hx
  · exact ⟨_, rfl, .inl rfl⟩
  rcases List.mem_cons.mp hx with rfl | hx
  · exact ⟨_, rfl, .inr (.inl rfl)⟩
  rcases List.mem_cons.mp hx with rfl | hx
  · exact ⟨_, rfl, .inr (.inr rfl)⟩
  · cases hx
theorem around_ok {H : Hp} {m : Mk} {x : V} {a : Addr} {z : Str} {n : Nat} (ha : H a = some (.tup [.str z, .int (n : Nat), x])) (hx : MkAt H m x) (ok : m.Ok) (hz : z = "slow" ∨ z = "slip" ∨ z = "late") (n2 : n ≤ 64) (n1 : z = "late" ∨ 1 ≤ n) :
    ∃ m', MkAt H m' (.ref a) ∧ m'.Ok ∧ m'.dep = m.dep + 1 ∧ m'.inn = m.inn ∧ m'.rnd ≤ 64 * m.rnd := by
  rcases hz with rfl | rfl | rfl
  · have n1 : 1 ≤ n := n1.resolve_left (by decide +kernel)
    exact ⟨.slow n m, ⟨a, x, rfl, ha, hx⟩, ⟨n1, n2, ok⟩, rfl, rfl, Nat.mul_le_mul_right _ n2⟩
  · have n1 : 1 ≤ n := n1.resolve_left (by decide +kernel)
    exact ⟨.slip n m, ⟨a, x, rfl, ha, hx⟩, ⟨n1, n2, ok⟩, rfl, rfl, Nat.le_trans (Nat.div_le_self _ _) (Nat.mul_le_mul_right _ n2)⟩
  · exact ⟨.late n m, ⟨a, x, rfl, ha, hx⟩, ⟨n2, ok⟩, rfl, rfl, Nat.le_mul_of_pos_left _ (by decide)⟩
def twos : List Int := [1, 2, 4, 8, 16, 32, 64]
theorem twos_at {w : Nat} (h : w ≤ 6) : (twos.map V.int)[w]? = some (.int ((2 ^ w : Nat) : Int)) := by
  have : w = 0 ∨ w = 1 ∨ w = 2 ∨ w = 3 ∨ w = 4 ∨ w = 5 ∨ w = 6 := by omega
  rcases this with rfl | rfl | rfl | rfl | rfl | rfl | rfl <;> rfl
theorem rnd_plainM {m : Mk} (h : m.dep = 0) : m.rnd = m.pl.length := by
  cases m with
  | slow n m => cases h
  | slip n m => cases h
  | late n m => cases h
  | _ => rfl
def spr__law_maker (d : Nat) (_ : PySem.W.Frag) : Sp := fun vs H Q _ => ∃ (p : Addr) (M : Int) (n k : Nat), vs = [.ref p, .int (k : Nat), .int M] ∧ Bx H p n ∧ n + 400 * d < 1000000000 ∧ k < d ∧ d ≤ 3 ∧ 1 ≤ M ∧ M ≤ 64 ∧
  ∀ H' v m, But p H H' → Bx H' p (n + 400 * d) → MkAt H' m v → m.Ok → m.inn.Vd → m.dep ≤ k → m.rnd ≤ 64 ^ (k + 1) → Q v H'
theorem no__law_maker {K : PySem.W.Frag} {vs : List V} {H : Hp} {Q : VK} {E : XK} (h : spr__law_maker 0 K vs H Q E) : False := by
  obtain ⟨p, M, n, k, _, _, _, z, _⟩ := h
  exact Nat.not_lt_zero _ z
theorem okr__law_maker (T : Defs K mg) (TT : Tabs T base) : ∀ d : Nat, FnOk P w K mg base CX0 (1 + d) T.f__law_maker T.fd__law_maker ["_law_box_here", "_law_deep", "_law_most"] (spr__law_maker d K)
  | 0 => ⟨fun _ _ _ _ z => (no__law_maker z).elim, fun _ _ _ _ _ _ _ _ _ _ _ _ _ z => (no__law_maker z).elim⟩
  | d + 1 => by
    have G__law_take : FnOk P w K mg base CX0 1 T.f__law_take T.fd__law_take ["_law_box_here", "_law_many"] (sp__law_take K) := ok__law_take T TT
    have G__law_maker : FnOk P w K mg base CX0 (1 + d) T.f__law_maker T.fd__law_maker ["_law_box_here", "_law_deep", "_law_most"] (spr__law_maker d K) := okr__law_maker T TT d
    have G__law_alone : FnOk P w K mg base CX0 1 T.f__law_alone T.fd__law_alone ["_law_one", "_law_other"] (sp__law_alone K) := ok__law_alone T TT
    show FnOk P w K mg base CX0 ((1 + d) + 1) T.f__law_maker T.fd__law_maker ["_law_box_here", "_law_deep", "_law_most"] (spr__law_maker (d + 1) K)
    refine T.F__law_maker.ok sc__law_maker (fun vs H Q E h => ?_) (fun cdv A outer s H vs Q E hr h => ?_)
    · obtain ⟨p, M, n, k, rfl, hB, hn, hk, hd3, M1, M2, q⟩ := h
      rfl
    · obtain ⟨p, M, n, k, rfl, hB, hn, hk, hd3, M1, M2, q⟩ := h
      refine ⟨_, PSs.nox (pss_cons (ps_asg (pe_tup (pa_cons (pe_call G__law_take (hr.mono (by omega)) (by rfl) T.g__law_take T.F__law_take.kp T.b__law_take .nil pass0 (pa_cons (pv 0) (pa_cons pe_int pa_nil))) (pa_cons (pe_op op_add pe_int (pe_call G__law_take (hr.mono (by omega)) (by rfl) T.g__law_take T.F__law_take.kp T.b__law_take .nil pass0 (pa_cons (pv 0) (pa_cons (pv 2) pa_nil)))) pa_nil))) (pg_tup rfl (pgs_cons (pg_name (i := 3) sc__law_maker.nd rfl (.inl rfl)) (pgs_cons (pg_name (i := 4) sc__law_maker.nd rfl (.inr rfl)) pgs_nil))))
    (pss_cons (ps_if (PW.pt (pw_and (pt_cmpR op_gt (pv 3) pe_int (nomark _)) (pw_and1 (pt_cmpR op_gt (pv 1) pe_int (nomark _))))) (pss_cons (ps_set (i := 5) sc__law_maker.nd rfl (.inl rfl) (pe_ix ix_list (pe_lst (pa_cons pe_str (pa_cons pe_str (pa_cons pe_str pa_nil)))) (pe_op op_sub (pv 3) pe_int) (fun _ _ => rfl)))
    (pss_one (ps_ret (pe_tup (pa_cons (pv 5) (pa_cons (pe_ix ix_list (pe_lst (pa_cons (pe_op op_add pe_int (pe_call G__law_take (hr.mono (by omega)) (by rfl) T.g__law_take T.F__law_take.kp T.b__law_take .nil pass0 (pa_cons (pv 0) (pa_cons pe_int pa_nil)))) (pa_cons (pe_call G__law_take (hr.mono (by omega)) (by rfl) T.g__law_take T.F__law_take.kp T.b__law_take .nil pass0 (pa_cons (pv 0) (pa_cons pe_int pa_nil))) pa_nil))) (pe_callTy call_int1 (by rfl) T.m_int bt_int (pa_cons (pe_cmpR op_eq (pv 5) pe_str (nomark _)) pa_nil)) (fun _ _ => rfl)) (pa_cons (pe_call G__law_maker (hr.mono (by omega)) (by rfl) T.g__law_maker T.F__law_maker.kp T.b__law_maker .nil pass0 (pa_cons (pv 0) (pa_cons (pe_op op_sub (pv 1) pe_int) (pa_cons (pv 2) pa_nil)))) pa_nil))))))) pss_nil)
    (pss_cons (ps_set (i := 6) sc__law_maker.nd rfl (.inr rfl) (pe_lst (pa_cons pe_int (pa_cons pe_int (pa_cons pe_int (pa_cons pe_int (pa_cons pe_int (pa_cons pe_int (pa_cons pe_int pa_nil)))))))))
    (pss_cons (ps_setLc (i := 7) (own := [("_law_wide", 8)]) (g := gName 8) rfl sc__law_maker.nd rfl rfl (sw_true rfl rfl rfl (by decide +kernel)) (pi_range2 (by rfl) T.m_range (pa_cons pe_int (pa_cons pe_int pa_nil))) (blkOk_by (N := N__law_maker) (sc := defScope s__law_maker) (by decide +kernel)) (fun _ _ _ _ _ => (pg_name (i := 8) sc__law_maker.nd rfl (.inl rfl))) (fun _ _ _ _ _ => pts_one (pt_cmpR op_le (pe_ix (ixlK (K := K) rfl) (pv 6) (pv 8) (fun _ _ => rfl)) (pe_callB (call_max2 rfl) (by rfl) T.m_max bt_max (pa_cons (pv 2) (pa_cons pe_int pa_nil))) (nomark _))) (fun _ _ _ _ _ => (pv 8)))
    (pss_cons (ps_set (i := 8) sc__law_maker.nd rfl (.inl rfl) (pe_ix ix_list (pv 7) (pe_call G__law_take (hr.mono (by omega)) (by rfl) T.g__law_take T.F__law_take.kp T.b__law_take .nil pass0 (pa_cons (pv 0) (pa_cons (pe_callB call_len_seq (by rfl) T.m_len bt_len (pa_cons (pv 7) pa_nil)) pa_nil))) (fun _ _ => rfl)))
    (pss_cons (ps_if (pt_cmpR op_eq (pv 3) pe_int (nomark _)) (pss_one (ps_ret (pe_tup (pa_cons pe_str (pa_cons (pv 8) (pa_cons (pe_call G__law_take (hr.mono (by omega)) (by rfl) T.g__law_take T.F__law_take.kp T.b__law_take .nil pass0 (pa_cons (pv 0) (pa_cons (pe_ix ix_list (pv 6) (pv 8) (fun _ _ => rfl)) pa_nil))) pa_nil)))))) pss_nil)
    (pss_cons (ps_if (PW.pt (pw_and (pt_cmpR op_eq (pv 3) pe_int (nomark _)) (pw_and1 (pt_cmpR op_gt (pv 8) pe_int (nomark _))))) (pss_cons (ps_set (i := 9) sc__law_maker.nd rfl (.inl rfl) (pe_op op_add (pe_ix ix_list (pv 6) (pe_op op_sub (pv 8) pe_int) (fun _ _ => rfl)) (pe_call G__law_take (hr.mono (by omega)) (by rfl) T.g__law_take T.F__law_take.kp T.b__law_take .nil pass0 (pa_cons (pv 0) (pa_cons (pe_ix ix_list (pv 6) (pe_op op_sub (pv 8) pe_int) (fun _ _ => rfl)) pa_nil)))))
    (pss_one (ps_ret (pe_tup (pa_cons pe_str (pa_cons (pv 8) (pa_cons (pv 9) (pa_cons (pe_op op_add pe_int (pe_call G__law_take (hr.mono (by omega)) (by rfl) T.g__law_take T.F__law_take.kp T.b__law_take .nil pass0 (pa_cons (pv 0) (pa_cons (pe_op op_sub (pe_ix ix_list (pv 6) (pv 8) (fun _ _ => rfl)) pe_int) pa_nil)))) pa_nil)))))))) pss_nil)
    (pss_cons (ps_if (pt_cmpR op_eq (pv 3) pe_int (nomark _)) (pss_one (ps_ret (pe_tup (pa_cons pe_str (pa_cons (pe_callTy call_tuple_of (by rfl) T.m_tuple bt_tuple (pa_cons (pe_lc (own := [("_law_k", 11)]) (g := gName 11) (tt := tYes) rfl sc__law_maker.nd (pi_range1 (by rfl) T.m_range (pa_cons (pv 4) pa_nil)) (blkOk_by (N := N__law_maker) (sc := defScope s__law_maker) (by decide +kernel)) (fun _ _ _ _ _ => (pg_name (i := 11) sc__law_maker.nd rfl (.inl rfl))) (fun _ _ _ _ _ => pts_nil) (fun _ _ _ _ _ => (pe_call G__law_take (hr.mono (by omega)) (by rfl) T.g__law_take T.F__law_take.kp T.b__law_take .nil pass0 (pa_cons (pv 0) (pa_cons (pe_ix (ixlK (K := K) rfl) (pe_lst (pa_cons pe_int (pa_cons pe_int pa_nil))) (pe_call G__law_take (hr.mono (by omega)) (by rfl) T.g__law_take T.F__law_take.kp T.b__law_take .nil pass0 (pa_cons (pv 0) (pa_cons pe_int pa_nil))) (fun _ _ => rfl)) pa_nil))))) pa_nil)) pa_nil))))) pss_nil)
    (pss_cons (ps_setLc (i := 10) (own := [("_law_step", 12)]) (g := gName 12) rfl sc__law_maker.nd rfl rfl (sw_true rfl rfl rfl (by decide +kernel)) (pi_range2 (by rfl) T.m_range (pa_cons pe_int (pa_cons (pe_op op_add (pv 4) pe_int) pa_nil))) (blkOk_by (N := N__law_maker) (sc := defScope s__law_maker) (by decide +kernel)) (fun _ _ _ _ _ => (pg_name (i := 12) sc__law_maker.nd rfl (.inl rfl))) (fun _ _ _ _ _ => pts_one (pt_val (pe_call G__law_alone (hr.mono (by omega)) (by rfl) T.g__law_alone T.F__law_alone.kp T.b__law_alone .nil pass0 (pa_cons (pv 12) (pa_cons (pv 4) pa_nil))))) (fun _ _ _ _ _ => (pv 12)))
    (pss_one (ps_ret (pe_tup (pa_cons pe_str (pa_cons (pv 4) (pa_cons (pe_ix ix_list (pv 10) (pe_call G__law_take (hr.mono (by omega)) (by rfl) T.g__law_take T.F__law_take.kp T.b__law_take .nil pass0 (pa_cons (pv 0) (pa_cons (pe_callB call_len_seq (by rfl) T.m_len bt_len (pa_cons (pv 10) pa_nil)) pa_nil))) (fun _ _ => rfl)) (pa_cons (pe_call G__law_take (hr.mono (by omega)) (by rfl) T.g__law_take T.F__law_take.kp T.b__law_take .nil pass0 (pa_cons (pv 0) (pa_cons (pv 4) pa_nil))) pa_nil)))))))))))))))), ?_⟩
      have hsl : sizeLine = 16777216 := by decide
      have pl_q : ∀ H' v m, But p H H' → Bx H' p (n + 350) → MkAt H' m v → m.dep = 0 → m.Pl → m.Vd → Q v H' := fun H' v m b B hm d0 pl vd => by
        refine q H' v m b (B.mono (by omega)) hm ?_ ?_ (by omega) ?_
        · cases m with
          | slow n k => cases d0
          | slip n k => cases d0
          | late n k => cases d0
          | _ => exact pl
        · cases m with
          | slow n k => cases d0
          | slip n k => cases d0
          | late n k => cases d0
          | _ => exact vd
        · rw [rnd_plainM d0]
          have := pl.len
          have : 64 ^ 1 ≤ 64 ^ (k + 1) := Nat.pow_le_pow_right (by decide) (by omega)
          omega
      refine ⟨.ref p, rfl, p, 9, n, rfl, hB, by decide, by decide, by omega, fun H1 way c1 B1 l1 u1 => ?_⟩
      refine ⟨.ref p, rfl, .int M, rfl, p, M, n + 1, rfl, B1, by omega, by omega, by omega, fun H2 r2 c2 B2 l2 u2 => ⟨_, _, rfl, rfl, (show 2 ≤ sizeLine by decide), fun t nt => ⟨t, _, rfl, SqT.mk upd_same, rfl, _, _, rfl, _, _, rfl, rfl, ?_⟩⟩⟩
      obtain ⟨mn, hmn⟩ := nat_of (show 0 ≤ 1 + r2 by omega)
      try dsimp only
      rw [hmn]
      have b2 : But p H (upd H2 t (.tup [.int way, .int (mn : Nat)])) := (c1.trans c2).new nt
      have B3 := B2.new (o := .tup [.int way, .int (mn : Nat)]) nt
      generalize upd H2 t (.tup [.int way, .int (mn : Nat)]) = G0 at b2 B3 ⊢
      have m1 : 1 ≤ mn := by omega
      have m2 : mn ≤ 64 := by omega
      clear c1 c2 B1 B2 nt l2 u2 hmn
      refine seq_via (fun σ G => σ = [some (.ref p), some (.int (k : Nat)), some (.int M), some (.int way), some (.int (mn : Nat)), none, none, none, none, none, none, none, none] ∧ G = G0) (fun N key => ?_) ?_
      · refine ⟨.int way, rfl, _, _, rfl, rfl, _, rfl, ite2 (fun e => ?_) (fun e => iteF (key _ _ ⟨rfl, rfl⟩))⟩
        have hw : (5 : Int) < way := of_decide_eq_true e
        refine ⟨.int (k : Nat), rfl, _, _, rfl, rfl, _, rfl, ite2 (fun e => ?_) (fun e => key _ _ ⟨rfl, rfl⟩)⟩
        have hk0 : (0 : Int) < (k : Int) := of_decide_eq_true e
        refine ⟨(show 3 ≤ sizeLine by decide), fun l nl => ⟨.int way, rfl, _, _, rfl, rfl, ?_⟩⟩
        obtain ⟨wd, ew, z, rfl, hz⟩ := at_menuV (Pr := fun x => ∃ z : Str, x = .str z ∧ (z = "slow" ∨ z = "slip" ∨ z = "late")) (xs := [.str "slow", .str "slip", .str "late"]) (r := way - 6) (by omega) (show way - 6 < 3 by omega) (fun x hx => word_menu hx)
        refine ⟨l, _, _, _, rfl, rfl, SqL.mk upd_same, ew, ?_⟩
        have b4 := b2.new (o := .lst [.str "slow", .str "slip", .str "late"]) nl
        have B4 := B3.new (o := .lst [.str "slow", .str "slip", .str "late"]) nl
        generalize upd G0 l (.lst [.str "slow", .str "slip", .str "late"]) = G1 at b4 B4 ⊢
        refine ⟨.str z, rfl, .ref p, rfl, p, 4, _, rfl, B4, by decide, by decide, by omega, fun F1 r3 c3 B5 l3 u3 => ⟨_, _, rfl, rfl, ?_⟩⟩
        refine ⟨.ref p, rfl, p, 65, _, rfl, B5, by decide, by decide, by omega, fun F2 r4 c4 B6 l4 u4 => ⟨(show 2 ≤ sizeLine by decide), fun l2 nl2 => ?_⟩⟩
        obtain ⟨v, ev, hv⟩ : ∃ v, atI ([1 + r3, r4].map V.int) (if decide (V.str z = V.str "late") = true then (1 : Int) else 0) = some (.int v) ∧ (z = "late" ∨ 1 ≤ v) ∧ 0 ≤ v ∧ v ≤ 64 := by
          by_cases c : V.str z = V.str "late"
          · rw [decide_eq_true c, if_pos rfl]
            exact ⟨r4, atI_nat (j := 1) rfl, .inl (V.str.inj c), l4, by omega⟩
          · rw [decide_eq_false c, if_neg Bool.false_ne_true]
            exact ⟨1 + r3, atI_nat (j := 0) rfl, .inr (by omega), by omega, by omega⟩
        obtain ⟨N', rfl⟩ := nat_of hv.2.1
        refine ⟨.str z, rfl, rfl, .inr ⟨_, rfl, l2, _, _, _, rfl, rfl, SqL.mk upd_same, ev, ?_⟩⟩
        have b6 := (b4.trans (c3.trans c4)).new (o := .lst [.int (1 + r3), .int r4]) nl2
        have B7 := B6.new (o := .lst [.int (1 + r3), .int r4]) nl2
        generalize upd F2 l2 (.lst [.int (1 + r3), .int r4]) = G2 at b6 B7 ⊢
        obtain ⟨k', rfl⟩ : ∃ k', k = k' + 1 := ⟨k - 1, by omega⟩
        refine ⟨.ref p, rfl, .int ((k' + 1 : Nat) : Int), rfl, _, _, rfl, rfl, .int M, rfl, p, M, _, k', ?_, B7, by omega, by omega, by omega, M1, M2, fun G3 x m c5 B8 hm ok vd dp rm => ⟨(show 3 ≤ sizeLine by decide), fun tg ntg => ?_⟩⟩
        · have e : ((k' + 1 : Nat) : Int) - 1 = (k' : Int) := by omega
          show [V.ref p, V.int (((k' + 1 : Nat) : Int) - 1), V.int M] ++ [] = _
          rw [e]
          rfl
        obtain ⟨m', hm', ok', dp', in', rd'⟩ := around_ok (H := upd G3 tg (.tup [.str z, .int (N' : Nat), x])) upd_same (hm.same (same_upd ntg)) ok hz (by omega) (hv.1.imp id (by omega))
        refine q _ (.ref tg) m' ((b6.trans c5).new ntg) ((B8.new ntg).mono (by omega)) hm' ok' (by rw [in']; exact vd) (by omega) ?_
        rw [show 64 ^ (k' + 1 + 1) = 64 * 64 ^ (k' + 1) by rw [Nat.pow_succ 64 (k' + 1), Nat.mul_comm]]
        exact Nat.le_trans rd' (Nat.mul_le_mul_left _ rm)
      rintro σ G ⟨rfl, rfl⟩
      -- a plain one
      refine ⟨(show 7 ≤ sizeLine by decide), fun tw ntw => ?_⟩
      have htw : (upd G tw (.lst [.int 1, .int 2, .int 4, .int 8, .int 16, .int 32, .int 64])) tw = some (.lst (twos.map V.int)) := upd_same
      have b4 := b2.new (o := .lst [.int 1, .int 2, .int 4, .int 8, .int 16, .int 32, .int 64]) ntw
      have B4 := B3.new (o := .lst [.int 1, .int 2, .int 4, .int 8, .int 16, .int 32, .int 64]) ntw
      have twp : tw ≠ p := ne_new B3 ntw
      generalize upd G tw (.lst [.int 1, .int 2, .int 4, .int 8, .int 16, .int 32, .int 64]) = G1 at htw b4 B4 ⊢
      refine ⟨1, 7, rfl, ⟨by decide, by decide, by decide, by decide⟩, fun D nD => ?_⟩
      refine lc_range (lo := 1) (n := 6) (SVR (fun _ => True) D G1 6) ⟨[], Nat.le_refl 0, .inl rfl, fun _ h => (by cases h), same_upd nD, upd_same⟩ (fun i F hi h => ?_) (fun F h => ?_)
      · obtain ⟨ss, e1, e2, e3, sF, hD⟩ := h
        refine ⟨rfl, .ref tw, rfl, _, rfl, tw, _, _, .int ((2 ^ (1 + i) : Nat) : Int), rfl, rfl, SqL.mk (sF _ _ htw), ?_, .int M, rfl, _, _, rfl, _, _, rfl, rfl, _, rfl, ?_⟩
        · rw [show (1 : Int) + (i : Int) = ((1 + i : Nat) : Int) by omega]
          exact atI_nat (twos_at (by omega))
        refine ite2 (fun e => ?_) (fun e => ?_)
        · refine ⟨_, rfl, _, hD, by rw [List.length_map]; omega, ss ++ [1 + (i : Int)], by rw [List.length_append]; exact Nat.add_le_add_right e1 1, .inr (by rw [List.length_append]; exact Nat.le_add_left _ _), fun x hx => ?_, same_newer sF nD, by rw [upd_same, List.map_append]; rfl⟩
          rcases List.mem_append.mp hx with hx | hx
          · exact e3 x hx
          · rw [List.mem_singleton.mp hx]
            exact ⟨by omega, by omega, trivial⟩
        · refine ⟨ss, by omega, .inr ?_, e3, sF, hD⟩
          rcases e2 with rfl | e2
          · exfalso
            refine e (decide_eq_true ?_)
            show (2 : Int) ≤ if (4 : Int) > M then 4 else M
            split <;> omega
          · exact e2
      obtain ⟨ss, e1, e2, e3, sF, hD⟩ := h
      have e2 : 1 ≤ ss.length := by omega
      have e1 : ss.length ≤ 6 := by omega
      have bF := b4.trans (same_but (p := p) sF)
      have BF := B4.same sF
      have Db : D ≠ p := ne_new B4 nD
      refine ⟨.ref D, rfl, .ref p, rfl, .ref D, rfl, D, _, rfl, .inl (SqL.mk hD), p, ss.length, _, by rw [List.length_map]; rfl, BF, by omega, by omega, by omega, fun F3 r5 c5 B6 l5 u5 => ?_⟩
      obtain ⟨wd, ev2, hv2⟩ := at_menu (Pr := fun v => 1 ≤ v ∧ v ≤ 6) (xs := ss) l5 u5 (fun x hx => ⟨(e3 x hx).1, (e3 x hx).2.1⟩)
      refine ⟨D, _, _, _, rfl, rfl, SqL.mk (c5 _ _ Db hD), ev2, ?_⟩
      obtain ⟨w', rfl⟩ := nat_of (show 0 ≤ wd by omega)
      have w1 : 1 ≤ w' := by omega
      have w2 : w' ≤ 6 := by omega
      have htw3 := c5 _ _ twp (sF _ _ htw)
      have b5 := bF.trans c5
      have tp := two_pow6 w2
      clear ev2 hD BF bF sF e3 e1 e2 htw B4 b4 b2 B3 c5 l5 u5
      refine ⟨.int way, rfl, rfl, _, rfl, ite2 (fun _ => ?_) (fun _ => ?_)⟩
      · refine ⟨.int (w' : Nat), rfl, .ref p, rfl, .ref tw, rfl, .int (w' : Nat), rfl, tw, _, _, _, rfl, rfl, SqL.mk htw3, atI_nat (twos_at w2), p, _, _, rfl, B6, by omega, by omega, by omega, fun F4 r6 c6 B7 l6 u6 => ⟨(show 3 ≤ sizeLine by decide), fun mk nmk => ?_⟩⟩
        obtain ⟨s', rfl⟩ := nat_of l6
        exact pl_q _ (.ref mk) (.turned w' s') ((b5.trans c6).new nmk) ((B7.new nmk).mono (by omega)) ⟨mk, rfl, upd_same⟩ rfl ⟨w1, w2, by omega⟩ trivial
      refine nx_via (fun σ G => σ = [some (.ref p), some (.int (k : Nat)), some (.int M), some (.int way), some (.int (mn : Nat)), none, some (.ref tw), some (.ref D), some (.int (w' : Nat)), none, none, none, none] ∧ G = F3) (fun N key => ?_) ?_
      · refine ⟨.int way, rfl, rfl, _, rfl, ite2 (fun e => ?_) (fun e => iteF (key _ _ ⟨rfl, rfl⟩))⟩
        refine ⟨.int (w' : Nat), rfl, _, _, rfl, rfl, _, rfl, ite2 (fun e => ?_) (fun e => key _ _ ⟨rfl, rfl⟩)⟩
        have w3 : 2 ≤ w' := by
          have : (1 : Int) < (w' : Int) := of_decide_eq_true e
          omega
        have ew1 : (w' : Int) - 1 = ((w' - 1 : Nat) : Int) := by omega
        have at1 : atI (twos.map V.int) ((w' : Int) - 1) = some (.int ((2 ^ (w' - 1) : Nat) : Int)) := by
          rw [ew1]
          exact atI_nat (twos_at (by omega))
        have tq := two_pow6 (show w' - 1 ≤ 6 by omega)
        have en : 2 ^ w' = 2 * 2 ^ (w' - 1) := by
          rw [show 2 * 2 ^ (w' - 1) = 2 ^ (w' - 1 + 1) by rw [Nat.pow_succ, Nat.mul_comm], show w' - 1 + 1 = w' by omega]
        obtain ⟨h2, hh2⟩ : ∃ h2, 2 ^ (w' - 1) = h2 := ⟨_, rfl⟩
        obtain ⟨nn, hn2⟩ : ∃ nn, 2 ^ w' = nn := ⟨_, rfl⟩
        rw [hh2] at at1 tq en
        rw [hn2] at tp en
        refine ⟨.ref tw, rfl, .int (w' : Nat), rfl, _, _, rfl, rfl, tw, _, _, _, rfl, rfl, SqL.mk htw3, at1, .ref p, rfl, .ref tw, rfl, .int (w' : Nat), rfl, _, _, rfl, rfl, tw, _, _, _, rfl, rfl, SqL.mk htw3, at1, p, _, _, rfl, B6, by omega, by omega, by omega, fun F4 r6 c6 B7 l6 u6 => ⟨_, _, rfl, rfl, ?_⟩⟩
        obtain ⟨p', hp'⟩ : ∃ p' : Nat, (h2 : Int) + r6 = p' := ⟨((h2 : Int) + r6).toNat, by omega⟩
        refine ⟨.int (w' : Nat), rfl, _, rfl, .ref p, rfl, .ref tw, rfl, .int (w' : Nat), rfl, tw, _, _, .int (nn : Nat), rfl, rfl, SqL.mk (c6 _ _ twp htw3), ?_, _, _, rfl, rfl, p, _, _, rfl, B7, by omega, by omega, by omega, fun F5 r7 c7 B8 l7 u7 => ⟨_, _, rfl, rfl, (show 4 ≤ sizeLine by decide), fun mk nmk => ?_⟩⟩
        · rw [← hn2]
          exact atI_nat (twos_at w2)
        obtain ⟨t, ht⟩ : ∃ t : Nat, 1 + r7 = t := ⟨(1 + r7).toNat, by omega⟩
        refine pl_q _ (.ref mk) (.register w' p' t) ((b5.trans (c6.trans c7)).new nmk) ((B8.new nmk).mono (by omega)) ⟨mk, rfl, ?_⟩ rfl ⟨⟨w3, w2, by rw [hh2]; omega, by rw [hn2]; omega⟩, by omega, by rw [hn2]; omega⟩ trivial
        rw [upd_same]
        try dsimp only
        rw [hp', ht]
      rintro σ G ⟨rfl, rfl⟩
      refine ⟨.int way, rfl, rfl, _, rfl, ite2 (fun _ => ?_) (fun _ => ?_)⟩
      · -- a table
        refine ⟨.int (mn : Nat), rfl, _, rfl, by omega, by omega, fun E nE => ?_⟩
        refine lc_range (fun i F => ∃ rs : List Int, rs.length = i ∧ (∀ x, x ∈ rs → 0 ≤ x ∧ x < 64) ∧ But p G F ∧ Bx F p (n + 20 + 2 * i) ∧ F E = some (.lst (rs.map V.int))) ⟨[], rfl, fun _ h => (by cases h), (But.refl p G).new nE, (B6.new nE).mono (by omega), upd_same⟩ (fun i F hi h => ?_) (fun F h => ?_)
        · obtain ⟨rs, hl, hb, bF, BF, hE⟩ := h
          refine ⟨rfl, yes_ite ?_⟩
          refine ⟨.ref p, rfl, (show 2 ≤ sizeLine by decide), fun l nl => ⟨.ref p, rfl, p, 2, _, rfl, BF.new nl, by decide, by decide, by omega, fun F1 r1 c1 B1 l1 u1 => ?_⟩⟩
          obtain ⟨ms, ev, hv⟩ := at_menu (Pr := fun v => 4 ≤ v ∧ v ≤ 64) (xs := [4, 64]) l1 u1 (fun x hx => by
            simp only [List.mem_cons, List.not_mem_nil, or_false] at hx
            omega)
          refine ⟨l, _, _, _, rfl, rfl, SqL.mk (c1 _ _ (ne_new BF nl) upd_same), ev, p, ms, _, rfl, B1, by omega, by omega, by omega, fun F2 r2 c2 B2 l2 u2 => ?_⟩
          have Ep : E ≠ p := ne_new B6 nE
          have hE2 := c2 _ _ Ep (c1 _ _ Ep ((same_upd nl) _ _ hE))
          refine ⟨_, hE2, by rw [List.length_map]; omega, rs ++ [r2], by rw [List.length_append, hl]; rfl, fun x hx => ?_, but_newer (((bF.new nl).trans c1).trans c2) nE, (B2.other Ep).mono (by omega), by rw [upd_same, List.map_append]; rfl⟩
          rcases List.mem_append.mp hx with hx | hx
          · exact hb x hx
          · rw [List.mem_singleton.mp hx]
            omega
        obtain ⟨rs, hl, hb, bF, BF, hE⟩ := h
        rw [Int.toNat_natCast] at hl BF
        refine ⟨E, _, rfl, .inl ⟨SqL.mk hE, fun tb ntb => ⟨(show 2 ≤ sizeLine by decide), fun mk nmk => ?_⟩⟩⟩
        exact pl_q _ (.ref mk) (.table rs) (b5.trans ((bF.new ntb).new nmk)) (((BF.new ntb).new nmk).mono (by omega)) ⟨mk, tb, rfl, upd_same, (same_upd nmk) _ _ upd_same⟩ rfl ⟨by omega, by omega, fun x hx => by have := hb x hx; omega⟩ trivial
      -- a counter
      refine ⟨.int (mn : Nat), rfl, _, _, rfl, rfl, 1, _, rfl, ⟨by decide, by decide, by omega, by omega⟩, fun E nE => ?_⟩
      have en : ((mn : Int) + 1 - 1).toNat = mn := by omega
      rw [en]
      refine lc_range (lo := 1) (n := mn) (SVR (fun x => Nat.gcd x.toNat mn = 1) E G mn) ⟨[], Nat.le_refl 0, .inl rfl, fun _ h => (by cases h), same_upd nE, upd_same⟩ (fun i F hi h => ?_) (fun F h => ?_)
      · obtain ⟨ss, e1, e2, e3, sF, hE⟩ := h
        refine ⟨rfl, _, rfl, .int (mn : Nat), rfl, 1 + i, mn, ?_, _, rfl, ?_⟩
        · rw [show (1 : Int) + (i : Int) = ((1 + i : Nat) : Int) by omega]
          rfl
        refine ite2 (fun e => ?_) (fun e => ?_)
        · refine ⟨_, rfl, _, hE, by rw [List.length_map]; omega, ss ++ [1 + (i : Int)], by rw [List.length_append]; exact Nat.add_le_add_right e1 1, .inr (by rw [List.length_append]; exact Nat.le_add_left _ _), fun x hx => ?_, same_newer sF nE, by rw [upd_same, List.map_append]; rfl⟩
          rcases List.mem_append.mp hx with hx | hx
          · exact e3 x hx
          · rw [List.mem_singleton.mp hx]
            refine ⟨by omega, by omega, ?_⟩
            have eg := V.int.inj (of_decide_eq_true e)
            show Nat.gcd (1 + (i : Int)).toNat mn = 1
            rw [show (1 + (i : Int)).toNat = 1 + i by omega]
            omega
        · refine ⟨ss, by omega, .inr ?_, e3, sF, hE⟩
          rcases e2 with rfl | e2
          · exfalso
            refine e (decide_eq_true ?_)
            rw [show Nat.gcd (1 + 0) mn = 1 from Nat.gcd_one_left mn]
            rfl
          · exact e2
      obtain ⟨ss, e1, e2, e3, sF, hE⟩ := h
      have e2 : 1 ≤ ss.length := by omega
      have e1 : ss.length ≤ 64 := by omega
      have bF := b5.trans (same_but (p := p) sF)
      have BF := B6.same sF
      have Eb : E ≠ p := ne_new B6 nE
      refine ⟨.int (mn : Nat), rfl, .ref E, rfl, .ref p, rfl, .ref E, rfl, E, _, rfl, .inl (SqL.mk hE), p, ss.length, _, by rw [List.length_map]; rfl, BF, by omega, by omega, by omega, fun F5 r7 c7 B7 l7 u7 => ?_⟩
      obtain ⟨sp, ev3, hv3⟩ := at_menu (Pr := fun v => 1 ≤ v ∧ v ≤ (mn : Int) ∧ Nat.gcd v.toNat mn = 1) (xs := ss) l7 u7 e3
      refine ⟨E, _, _, _, rfl, rfl, SqL.mk (c7 _ _ Eb hE), ev3, .ref p, rfl, .int (mn : Nat), rfl, p, mn, _, rfl, B7, by omega, by omega, by omega, fun F6 r8 c8 B8 l8 u8 => ⟨(show 4 ≤ sizeLine by decide), fun mk nmk => ?_⟩⟩
      obtain ⟨sp, rfl⟩ := nat_of (show 0 ≤ sp by omega)
      have gs : Nat.gcd sp mn = 1 := hv3.2.2
      obtain ⟨t, rfl⟩ := nat_of l8
      exact pl_q _ (.ref mk) (.counter mn sp t) ((bF.trans (c7.trans c8)).new nmk) ((B8.new nmk).mono (by omega)) ⟨mk, rfl, upd_same⟩ rfl ⟨by omega, by omega, by omega, by omega⟩ ⟨by omega, by omega, gs⟩
def sp__law_maker (K : PySem.W.Frag) : Sp := spr__law_maker 3 K
theorem ok__law_maker (T : Defs K mg) (TT : Tabs T base) : FnOk P w K mg base CX0 4 T.f__law_maker T.fd__law_maker ["_law_box_here", "_law_deep", "_law_most"] (sp__law_maker K) := okr__law_maker T TT 3
/-! pieces of machines -/
inductive Pie
  | make (m : Mk) (k : Nat)
  | less (a : Nat)
  | both (a b : Nat)
  | either (a b : Nat)
  | oneof (a b : Nat)
  | pick (a b c : Nat)
  | keep (a b f : Nat)
  | late (a : Nat) (h : List Int)
  | keeper (a b : Nat) (m : Mk) (mo at_ : Nat)
def PieAt (H : Hp) : Pie → V → Prop
  | .make m k, v => ∃ t x, v = .ref t ∧ H t = some (.tup [.str "make", x, .int (k : Nat)]) ∧ MkAt H m x
  | .less a, v => ∃ t, v = .ref t ∧ H t = some (.tup [.str "less", .int (a : Nat)])
  | .both a b, v => ∃ t, v = .ref t ∧ H t = some (.tup [.str "both", .int (a : Nat), .int (b : Nat)])
  | .either a b, v => ∃ t, v = .ref t ∧ H t = some (.tup [.str "either", .int (a : Nat), .int (b : Nat)])
  | .oneof a b, v => ∃ t, v = .ref t ∧ H t = some (.tup [.str "oneof", .int (a : Nat), .int (b : Nat)])
  | .pick a b c, v => ∃ t, v = .ref t ∧ H t = some (.tup [.str "pick", .int (a : Nat), .int (b : Nat), .int (c : Nat)])
  | .keep a b f, v => ∃ t, v = .ref t ∧ H t = some (.tup [.str "keep", .int (a : Nat), .int (b : Nat), .int (f : Nat)])
  | .late a h, v => ∃ t s, v = .ref t ∧ H t = some (.tup [.str "late", .int (a : Nat), .ref s]) ∧ H s = some (.tup (h.map V.int))
  | .keeper a b m mo at_, v => ∃ t x, v = .ref t ∧ H t = some (.tup [.str "keeper", .int (a : Nat), .int (b : Nat), x, .int (mo : Nat), .int (at_ : Nat)]) ∧ MkAt H m x
theorem PieAt.keep {H H' : Hp} (s : ∀ a xs, H a = some (.tup xs) → H' a = some (.tup xs)) : ∀ {P : Pie} {v : V}, PieAt H P v → PieAt H' P v
  | .make _ _, _, ⟨t, x, e, h, k⟩ => ⟨t, x, e, s _ _ h, k.keep s⟩
  | .less _, _, ⟨t, e, h⟩ => ⟨t, e, s _ _ h⟩
  | .both _ _, _, ⟨t, e, h⟩ => ⟨t, e, s _ _ h⟩
  | .either _ _, _, ⟨t, e, h⟩ => ⟨t, e, s _ _ h⟩
  | .oneof _ _, _, ⟨t, e, h⟩ => ⟨t, e, s _ _ h⟩
  | .pick _ _ _, _, ⟨t, e, h⟩ => ⟨t, e, s _ _ h⟩
  | .keep _ _ _, _, ⟨t, e, h⟩ => ⟨t, e, s _ _ h⟩
  | .late _ _, _, ⟨t, b, e, h, k⟩ => ⟨t, b, e, s _ _ h, s _ _ k⟩
  | .keeper _ _ _ _ _, _, ⟨t, x, e, h, k⟩ => ⟨t, x, e, s _ _ h, k.keep s⟩
theorem PieAt.same {H H' : Hp} {P : Pie} {v : V} (h : PieAt H P v) (s : Same H H') : PieAt H' P v := h.keep fun _ _ e => s _ _ e
theorem PieAt.but {H H' : Hp} {P : Pie} {v : V} {p : Addr} {n : Nat} (h : PieAt H P v) (B : Bx H p n) (s : But p H H') : PieAt H' P v := h.keep fun _ _ e => s _ _ (B.ne_tup e) e
def Mk.Wl (m : Mk) : Prop := m.Ok ∧ m.inn.Vd ∧ m.dep ≤ 3 ∧ m.rnd ≤ 4096
theorem Mk.Wl.is {m : Mk} (h : m.Wl) : isMkD (mkd m) := ⟨m, rfl, h⟩
def Pie.Ok (i n : Nat) : Pie → Prop
  | .make m k => m.Wl ∧ k ≤ 64
  | .less a => a < i
  | .both a b => a < i ∧ b < i
  | .either a b => a < i ∧ b < i
  | .oneof a b => a < i ∧ b < i
  | .pick a b c => a < i ∧ b < i ∧ c < i
  | .keep a b f => a < i ∧ b < i ∧ f < 2
  | .late a h => a < n ∧ (1 ≤ h.length ∧ h.length ≤ 16) ∧ ∀ x, x ∈ h → 0 ≤ x ∧ x < 2
  | .keeper a b m mo at_ => a < n ∧ b < n ∧ m.Wl ∧ 1 ≤ mo ∧ mo ≤ 64 ∧ at_ ≤ mo
def Pie.data : Pie → PyData
  | .make m k => .tuple [.str "make", mkd m, .int (k : Nat)]
  | .less a => .tuple [.str "less", .int (a : Nat)]
  | .both a b => .tuple [.str "both", .int (a : Nat), .int (b : Nat)]
  | .either a b => .tuple [.str "either", .int (a : Nat), .int (b : Nat)]
  | .oneof a b => .tuple [.str "oneof", .int (a : Nat), .int (b : Nat)]
  | .pick a b c => .tuple [.str "pick", .int (a : Nat), .int (b : Nat), .int (c : Nat)]
  | .keep a b f => .tuple [.str "keep", .int (a : Nat), .int (b : Nat), .int (f : Nat)]
  | .late a h => .tuple [.str "late", .int (a : Nat), .tuple (h.map PyData.int)]
  | .keeper a b m mo at_ => .tuple [.str "keeper", .int (a : Nat), .int (b : Nat), mkd m, .int (mo : Nat), .int (at_ : Nat)]
theorem pie_tg {p : Addr → Prop} {H : Hp} (np : ∀ a xs, H a = some (.tup xs) → ¬ p a) : ∀ {P : Pie} {v : V}, PieAt H P v → Tg p H v P.data
  | .make _ _, _, ⟨t, x, e, h, k⟩ => by rw [e]; exact .tup (np _ _ h) h (.cons (.str _) (.cons (mk_tg np k) (.cons (.int _) .nil)))
  | .less _, _, ⟨t, e, h⟩ => by rw [e]; exact .tup (np _ _ h) h (.cons (.str _) (.cons (.int _) .nil))
  | .both _ _, _, ⟨t, e, h⟩ => by rw [e]; exact .tup (np _ _ h) h (.cons (.str _) (.cons (.int _) (.cons (.int _) .nil)))
  | .either _ _, _, ⟨t, e, h⟩ => by rw [e]; exact .tup (np _ _ h) h (.cons (.str _) (.cons (.int _) (.cons (.int _) .nil)))
  | .oneof _ _, _, ⟨t, e, h⟩ => by rw [e]; exact .tup (np _ _ h) h (.cons (.str _) (.cons (.int _) (.cons (.int _) .nil)))
  | .pick _ _ _, _, ⟨t, e, h⟩ => by rw [e]; exact .tup (np _ _ h) h (.cons (.str _) (.cons (.int _) (.cons (.int _) (.cons (.int _) .nil))))
  | .keep _ _ _, _, ⟨t, e, h⟩ => by rw [e]; exact .tup (np _ _ h) h (.cons (.str _) (.cons (.int _) (.cons (.int _) (.cons (.int _) .nil))))
  | .late _ _, _, ⟨t, b, e, h, k⟩ => by rw [e]; exact .tup (np _ _ h) h (.cons (.str _) (.cons (.int _) (.cons (.tup (np _ _ k) k (TgA.of_ints _)) .nil)))
  | .keeper _ _ _ _ _, _, ⟨t, x, e, h, k⟩ => by rw [e]; exact .tup (np _ _ h) h (.cons (.str _) (.cons (.int _) (.cons (.int _) (.cons (mk_tg np k) (.cons (.int _) (.cons (.int _) .nil))))))
theorem wi {i lo hi : Int} (h : lo ≤ i) (g : i ≤ hi) : withinD (.int i) lo hi = true := decide_eq_true ⟨h, g⟩
theorem pcs_side {z : Str} {ds : List PyData} {n m : Nat} (hz : sideN z = some (ds.length : Int)) (ha : askN z = some (ds.length : Int)) (h : ∀ e, e ∈ ds → withinD e 0 ((n : Int) - 1) = true) : Pc n m (.tuple (.str z :: ds)) := by
  have w := side_words hz
  refine ⟨z, ds, _, rfl, .side hz, ha, fun e he => ?_⟩
  rw [if_neg (fun e => e.elim w.2.2.1 w.2.2.2)]
  exact h e (List.mem_of_mem_take he)
theorem isAh_bits {h : List Int} (l : 1 ≤ h.length ∧ h.length ≤ 16) (b : ∀ x, x ∈ h → 0 ≤ x ∧ x < 2) : isAh (.tuple (h.map PyData.int)) = true := by
  show (decide (1 ≤ (List.map PyData.int _).length ∧ (List.map PyData.int _).length ≤ 16) && _) = true
  rw [List.length_map, decide_eq_true l, Bool.true_and, List.all_map, List.all_eq_true]
  intro x hx
  have := b x hx
  exact wi (by omega) (by omega)
theorem in1 {x : Nat} {n : Nat} (h : x < n) : withinD (.int (x : Nat)) 0 ((n : Int) - 1) = true := wi (by omega) (by omega)
theorem pie_pc {i n : Nat} : ∀ {P : Pie}, P.Ok i n → Pc i n P.data
  | .make m k, ok => ⟨"make", _, 0, rfl, .make ok.1.is (wi (by omega) (by have := ok.2; omega)), by decide +kernel, fun e he => (by simp at he)⟩
  | .less a, ok => pcs_side (show sideN "less" = some 1 by decide +kernel) (show askN "less" = some 1 by decide +kernel) (fun e he => by
      rw [List.mem_singleton.mp he]
      exact in1 ok)
  | .both a b, ok => pcs_side (show sideN "both" = some 2 by decide +kernel) (show askN "both" = some 2 by decide +kernel) (fun e he => by
      simp only [List.mem_cons, List.not_mem_nil, or_false] at he
      rcases he with rfl | rfl
      · exact in1 ok.1
      · exact in1 ok.2)
  | .either a b, ok => pcs_side (show sideN "either" = some 2 by decide +kernel) (show askN "either" = some 2 by decide +kernel) (fun e he => by
      simp only [List.mem_cons, List.not_mem_nil, or_false] at he
      rcases he with rfl | rfl
      · exact in1 ok.1
      · exact in1 ok.2)
  | .oneof a b, ok => pcs_side (show sideN "oneof" = some 2 by decide +kernel) (show askN "oneof" = some 2 by decide +kernel) (fun e he => by
      simp only [List.mem_cons, List.not_mem_nil, or_false] at he
      rcases he with rfl | rfl
      · exact in1 ok.1
      · exact in1 ok.2)
  | .pick a b c, ok => pcs_side (show sideN "pick" = some 3 by decide +kernel) (show askN "pick" = some 3 by decide +kernel) (fun e he => by
      simp only [List.mem_cons, List.not_mem_nil, or_false] at he
      rcases he with rfl | rfl | rfl
      · exact in1 ok.1
      · exact in1 ok.2.1
      · exact in1 ok.2.2)
  | .keep a b f, ok => ⟨"keep", _, 2, rfl, .keep (wi (by omega) (by have := ok.2.2; omega)), by decide +kernel, fun e he => by
      rw [if_neg (by decide +kernel)]
      have he : e ∈ [PyData.int (a : Nat), .int (b : Nat)] := he
      simp only [List.mem_cons, List.not_mem_nil, or_false] at he
      rcases he with rfl | rfl
      · exact in1 ok.1
      · exact in1 ok.2.1⟩
  | .late a h, ok => ⟨"late", _, 1, rfl, .late (isAh_bits ok.2.1 ok.2.2), by decide +kernel, fun e he => by
      rw [if_pos (.inl rfl)]
      have he : e ∈ [PyData.int (a : Nat)] := he
      rw [List.mem_singleton.mp he]
      exact in1 ok.1⟩
  | .keeper a b m mo at_, ok => ⟨"keeper", _, 2, rfl, .keeper ok.2.2.1.is (by have := ok.2.2.2.1; omega) (by have := ok.2.2.2.2.1; omega) (wi (by omega) (by have := ok.2.2.2.2.2; omega)), by decide +kernel, fun e he => by
      rw [if_pos (.inr rfl)]
      have he : e ∈ [PyData.int (a : Nat), .int (b : Nat)] := he
      simp only [List.mem_cons, List.not_mem_nil, or_false] at he
      rcases he with rfl | rfl
      · exact in1 ok.1
      · exact in1 ok.2.1⟩
theorem bdA_w {z : Str} {ds : List PyData} {n w : Nat} (hz : PyData.strOk z = true ∧ z.length ≤ 10) (h : BdA 21 n w ds) : Bd 21 (n + 1) (w + 11) (.tuple (.str z :: ds)) :=
  (((BdA.one (bd_w hz.1 hz.2)).app h).mono (Nat.le_refl _) (show max 0 n ≤ n by omega) (show 10 + 1 + w ≤ w + 11 by omega)).tup
theorem bdA_1 {i : Nat} {ds : List PyData} {n w : Nat} (h1 : i ≤ 100000) (h : BdA 21 n w ds) : BdA 21 n (w + 86) (.int (i : Nat) :: ds) :=
  ((BdA.one (bd_int (n21 h1))).app h).mono (Nat.le_refl _) (show max 0 n ≤ n by omega) (show 4 * 21 + 1 + 1 + w ≤ w + 86 by omega)
theorem bdA_m {m : Mk} {ds : List PyData} {w : Nat} (h : m.Wl) (g : BdA 21 5 w ds) : BdA 21 5 (w + 6301) (mkd m :: ds) := by
  have d := h.2.2.1
  exact ((BdA.one ((mkd_bd h.1).mono (Nat.le_refl _) (show m.dep + 2 ≤ 5 by omega) (show 6000 + 100 * m.dep ≤ 6300 by omega))).app g).mono (Nat.le_refl _) (by decide) (show 6300 + 1 + w ≤ w + 6301 by omega)
theorem bdA_0 {n : Nat} : BdA 21 n 0 [] := ⟨rfl, by simp [PyData.depthAll], by simp [PyData.weightAll]⟩
theorem okP : ∀ z : Str, z ∈ (["make", "less", "both", "either", "oneof", "pick", "keep", "late", "keeper"] : List Str) → PyData.strOk z = true ∧ z.length ≤ 10 := fun z h => by
  simp only [List.mem_cons, List.not_mem_nil, or_false] at h
  rcases h with rfl | rfl | rfl | rfl | rfl | rfl | rfl | rfl | rfl <;> exact ⟨by decide +kernel, by decide +kernel⟩
theorem bits_bd {h : List Int} (l : h.length ≤ 16) (b : ∀ x, x ∈ h → 0 ≤ x ∧ x < 2) : Bd 21 1 1376 (.tuple (h.map PyData.int)) := by
  obtain ⟨a, b, c⟩ := weiA_ints (ns := h) fun x hx => by
    have := b x hx
    have : (2 : Nat) ≤ 10 ^ 21 := by decide
    omega
  exact BdA.tup ⟨b, c, by omega⟩
theorem pie_bd {i n : Nat} (hi : i ≤ 1000) (hn : n ≤ 1000) : ∀ {P : Pie}, P.Ok i n → Bd 21 6 7000 P.data
  | .make m k, ok => (bdA_w (okP _ (by simp)) (bdA_m ok.1 (bdA_1 (by have := ok.2; omega) bdA_0))).mono (Nat.le_refl _) (by decide) (by decide)
  | .less a, ok => (bdA_w (okP _ (by simp)) (bdA_1 (Nat.le_trans (Nat.le_of_lt ok) (by omega)) (bdA_0 (n := 0)))).mono (Nat.le_refl _) (by decide) (by decide)
  | .both a b, ok => (bdA_w (okP _ (by simp)) (bdA_1 (by have := ok.1; omega) (bdA_1 (by have := ok.2; omega) (bdA_0 (n := 0))))).mono (Nat.le_refl _) (by decide) (by decide)
  | .either a b, ok => (bdA_w (okP _ (by simp)) (bdA_1 (by have := ok.1; omega) (bdA_1 (by have := ok.2; omega) (bdA_0 (n := 0))))).mono (Nat.le_refl _) (by decide) (by decide)
  | .oneof a b, ok => (bdA_w (okP _ (by simp)) (bdA_1 (by have := ok.1; omega) (bdA_1 (by have := ok.2; omega) (bdA_0 (n := 0))))).mono (Nat.le_refl _) (by decide) (by decide)
  | .pick a b c, ok => (bdA_w (okP _ (by simp)) (bdA_1 (by have := ok.1; omega) (bdA_1 (by have := ok.2.1; omega) (bdA_1 (by have := ok.2.2; omega) (bdA_0 (n := 0)))))).mono (Nat.le_refl _) (by decide) (by decide)
  | .keep a b f, ok => (bdA_w (okP _ (by simp)) (bdA_1 (by have := ok.1; omega) (bdA_1 (by have := ok.2.1; omega) (bdA_1 (by have := ok.2.2; omega) (bdA_0 (n := 0)))))).mono (Nat.le_refl _) (by decide) (by decide)
  | .late a h, ok => (bdA_w (okP _ (by simp)) (bdA_1 (by have := ok.1; omega) (BdA.one (bits_bd ok.2.1.2 ok.2.2)))).mono (Nat.le_refl _) (by decide) (by decide)
  | .keeper a b m mo at_, ok => (bdA_w (okP _ (by simp)) (bdA_1 (by have := ok.1; omega) (bdA_1 (by have := ok.2.1; omega) (bdA_m ok.2.2.1 (bdA_1 (by have := ok.2.2.2.2.1; omega) (bdA_1 (by have := ok.2.2.2.2.1; have := ok.2.2.2.2.2; omega) bdA_0)))))).mono (Nat.le_refl _) (by decide) (by decide)
/-- the pieces of a machine, one after the other -/
inductive PisAt (H : Hp) : List Pie → List V → Prop
  | nil : PisAt H [] []
  | cons {P : Pie} {Ps : List Pie} {v : V} {vs : List V} : PieAt H P v → PisAt H Ps vs → PisAt H (P :: Ps) (v :: vs)
theorem PisAt.keep {H H' : Hp} (s : ∀ a xs, H a = some (.tup xs) → H' a = some (.tup xs)) {Ps : List Pie} {vs : List V} (h : PisAt H Ps vs) : PisAt H' Ps vs := by
  induction h with
  | nil => exact .nil
  | cons a _ ih => exact .cons (a.keep s) ih
theorem PisAt.same {H H' : Hp} {Ps : List Pie} {vs : List V} (h : PisAt H Ps vs) (s : Same H H') : PisAt H' Ps vs := h.keep fun _ _ e => s _ _ e
theorem PisAt.but {H H' : Hp} {Ps : List Pie} {vs : List V} {p : Addr} {n : Nat} (h : PisAt H Ps vs) (B : Bx H p n) (s : But p H H') : PisAt H' Ps vs := h.keep fun _ _ e => s _ _ (B.ne_tup e) e
theorem PisAt.len {H : Hp} {Ps : List Pie} {vs : List V} (h : PisAt H Ps vs) : vs.length = Ps.length := by
  induction h with
  | nil => rfl
  | cons _ _ ih => rw [List.length_cons, List.length_cons, ih]
theorem PisAt.snoc {H : Hp} {Ps : List Pie} {vs : List V} {P : Pie} {v : V} (h : PisAt H Ps vs) (g : PieAt H P v) : PisAt H (Ps ++ [P]) (vs ++ [v]) := by
  induction h with
  | nil => exact .cons g .nil
  | cons a _ ih => exact .cons a ih
theorem PisAt.get {H : Hp} {Ps : List Pie} {vs : List V} (h : PisAt H Ps vs) {i : Nat} {P : Pie} (e : Ps[i]? = some P) : ∃ v, vs[i]? = some v ∧ PieAt H P v := by
  induction h generalizing i with
  | nil => cases e
  | cons a _ ih =>
    cases i with
    | zero => cases e; exact ⟨_, rfl, a⟩
    | succ i => exact ih (by simpa using e)
theorem pis_tg {p : Addr → Prop} {H : Hp} (np : ∀ a xs, H a = some (.tup xs) → ¬ p a) {Ps : List Pie} {vs : List V} (h : PisAt H Ps vs) : TgA p H vs (Ps.map Pie.data) := by
  induction h with
  | nil => exact .nil
  | cons a _ ih => exact .cons (pie_tg np a) ih
def PsOk (n : Nat) (Ps : List Pie) : Prop := ∀ (i : Nat) (P : Pie), Ps[i]? = some P → P.Ok i n
theorem PsOk.snoc {n : Nat} {Ps : List Pie} {P : Pie} (h : PsOk n Ps) (g : P.Ok Ps.length n) : PsOk n (Ps ++ [P]) := fun i R e => by
  by_cases l : i < Ps.length
  · rw [List.getElem?_append_left l] at e
    exact h i R e
  · have := (List.getElem?_eq_some_iff.mp e).1
    rw [List.length_append, List.length_singleton] at this
    obtain rfl : i = Ps.length := by omega
    rw [List.getElem?_append_right (Nat.le_refl _), Nat.sub_self] at e
    cases e
    exact g
theorem pis_mc {n : Nat} {Ps : List Pie} (h : PsOk n Ps) (l : Ps.length = n) (n1 : 1 ≤ n) (n2 : n ≤ 24) : isMc (.tuple (Ps.map Pie.data)) := by
  refine ⟨_, rfl, by rw [List.length_map]; omega, by rw [List.length_map]; omega, fun i e he => ?_⟩
  rw [List.getElem?_map] at he
  cases z : Ps[i]? with
  | none => rw [z] at he; cases he
  | some P =>
    rw [z] at he
    cases he
    rw [List.length_map, l]
    exact pie_pc (h i P z)
theorem pis_bd {n : Nat} (hn : n ≤ 1000) : ∀ {Ps : List Pie}, (∀ P, P ∈ Ps → ∃ i, i ≤ 1000 ∧ P.Ok i n) → BdA 21 6 (7001 * Ps.length) (Ps.map Pie.data)
  | [], _ => ⟨rfl, by simp [PyData.depthAll], by simp [PyData.weightAll]⟩
  | P :: Ps, h => by
    obtain ⟨i, hi, ok⟩ := h P List.mem_cons_self
    have a := pis_bd hn (Ps := Ps) fun R hR => h R (List.mem_cons_of_mem _ hR)
    have b := (BdA.one (pie_bd hi hn ok)).app a
    exact b.mono (Nat.le_refl _) (by decide) (by rw [List.length_cons]; omega)
theorem PsOk.bd {n : Nat} {Ps : List Pie} (h : PsOk n Ps) (l : Ps.length ≤ 24) (hn : n ≤ 24) : BdA 21 6 170000 (Ps.map Pie.data) := by
  have a := pis_bd (n := n) (Ps := Ps) (by omega) fun P hP => by
    obtain ⟨i, hi⟩ := List.getElem?_of_mem hP
    have := (List.getElem?_eq_some_iff.mp hi).1
    exact ⟨i, by omega, h i P hi⟩
  exact a.mono (Nat.le_refl _) (Nat.le_refl _) (by omega)
def MI (p l : Addr) (H0 : Hp) (N n i : Nat) (G : Hp) : Prop := ∃ Ps xs, But p H0 G ∧ Bx G p (N + 1300 * i) ∧ G l = some (.lst xs) ∧ PisAt G Ps xs ∧ Ps.length = i ∧ PsOk n Ps
theorem MI.push {p l : Addr} {H0 G0 G : Hp} {N n i k : Nat} {P : Pie} {v : V} (h : MI p l H0 N n i G0) (nl : H0 l = none) (lp : l ≠ p) (b : But p G0 G) (B : Bx G p k) (hk : k ≤ N + 1300 * (i + 1)) (hP : PieAt G P v) (ok : P.Ok i n) (hi : i < 1000) :
    ∃ xs, G l = some (.lst xs) ∧ xs.length < sizeLine ∧ MI p l H0 N n (i + 1) (upd G l (.lst (xs ++ [v]))) := by
  obtain ⟨Ps, xs, h1, h2, h3, h4, h5, h6⟩ := h
  have hsl : sizeLine = 16777216 := by decide
  have hl := b _ _ lp h3
  have st : ∀ a ys, G a = some (.tup ys) → (upd G l (.lst (xs ++ [v]))) a = some (.tup ys) := fun a ys e => by
    rw [upd_ne (fun z => by rw [z, hl] at e; cases e)]
    exact e
  refine ⟨xs, hl, by rw [h4.len]; omega, Ps ++ [P], xs ++ [v], but_newer (h1.trans b) nl, (B.other lp).mono hk, upd_same, ((h4.but h2 b).keep st).snoc (hP.keep st), by rw [List.length_append, h5]; rfl, h6.snoc (by rw [h5]; exact ok)⟩
def sp__law_machine (_ : PySem.W.Frag) : Sp := fun vs H Q _ => ∃ (p : Addr) (N n : Nat) (M : Int) (lo : Bool), vs = [.ref p, .int (n : Nat), .int M, .bl lo] ∧ Bx H p N ∧ N < 900000000 ∧ 1 ≤ n ∧ n ≤ 24 ∧ 1 ≤ M ∧ M ≤ 62 ∧
  ∀ H' t xs Ps, But p H H' → Bx H' p (N + 32000) → H' t = some (.tup xs) → PisAt H' Ps xs → Ps.length = n → PsOk n Ps → Q (.ref t) H'
theorem ok__law_machine (T : Defs K mg) (TT : Tabs T base) : FnOk P w K mg base CX0 5 T.f__law_machine T.fd__law_machine ["_law_box_here", "_law_many", "_law_most", "_law_loops"] (sp__law_machine K) := by
  have G__law_take : FnOk P w K mg base CX0 1 T.f__law_take T.fd__law_take ["_law_box_here", "_law_many"] (sp__law_take K) := ok__law_take T TT
  have G__law_maker : FnOk P w K mg base CX0 4 T.f__law_maker T.fd__law_maker ["_law_box_here", "_law_deep", "_law_most"] (sp__law_maker K) := ok__law_maker T TT
  refine T.F__law_machine.ok sc__law_machine (fun vs H Q E h => ?_) (fun cdv A outer s H vs Q E hr h => ?_)
  · obtain ⟨p, N, n, M, lo, rfl, hB, hN, n1, n24, M1, M2, q⟩ := h
    rfl
  · obtain ⟨p, N, n, M, lo, rfl, hB, hN, n1, n24, M1, M2, q⟩ := h
    refine ⟨_, PSs.nox (pss_cons (ps_par (i := 4) (j := 5) (by rfl) sc__law_machine.nd rfl rfl (by decide) rfl rfl (pa_cons (pe_lst pa_nil) (pa_cons (pe_op op_mul (pe_ix ix_list (pe_lst (pa_cons pe_int (pa_cons pe_int (pa_cons pe_int (pa_cons pe_int (pa_cons pe_int (pa_cons pe_int (pa_cons pe_int (pa_cons pe_int pa_nil))))))))) (pe_call G__law_take (hr.mono (by decide)) (by rfl) T.g__law_take T.F__law_take.kp T.b__law_take .nil pass0 (pa_cons (pv 0) (pa_cons pe_int pa_nil))) (fun _ _ => rfl)) (pe_callTy call_int1 (by rfl) T.m_int bt_int (pa_cons (pv 3) pa_nil))) pa_nil)) (by rfl))
    (pss_cons ((ps_for PassesOwn.never rfl (pi_range1 (by rfl) T.m_range (pa_cons (pv 1) pa_nil)) (pg_name (i := 6) sc__law_machine.nd rfl (.inr rfl)) (pss_cons (ps_set (i := 7) sc__law_machine.nd rfl (.inl rfl) (pe_call G__law_take (hr.mono (by decide)) (by rfl) T.g__law_take T.F__law_take.kp T.b__law_take .nil pass0 (pa_cons (pv 0) (pa_cons pe_int pa_nil))))
    (pss_cons (ps_if (PW.pt (pw_or (PW.pt (pw_and (pt_cmpR op_eq (pv 5) pe_int (nomark _)) (pw_and1 (pt_not (pt_chain op_le op_lt pe_int (pv 7) pe_int))))) (pw_or1 (PW.pt (pw_and (pt_cmpR op_gt (pv 5) pe_int (nomark _)) (pw_and1 (pt_cmpR op_eq (pv 6) pe_int (nomark _)))))))) (pss_one (ps_set (i := 7) sc__law_machine.nd rfl (.inl rfl) (pe_op op_add pe_int (pe_op op_mod (pv 7) (pe_ix ix_list (pe_lst (pa_cons pe_int (pa_cons pe_int (pa_cons pe_int pa_nil)))) (pv 5) (fun _ _ => rfl)))))) pss_nil)
    (pss_cons (ps_if (PW.pt (pw_or (PW.pt (pw_and (pt_cmpR op_eq (pv 6) pe_int (nomark _)) (pw_and1 (pt_cmpR op_eq (pv 5) pe_int (nomark _))))) (pw_or1 (pt_cmpR op_lt (pv 7) pe_int (nomark _))))) (pss_cons (ps_set (i := 8) sc__law_machine.nd rfl (.inl rfl) (pe_ix ix_list (pe_lst (pa_cons (pe_op op_add (pv 2) pe_int) (pa_cons pe_int pa_nil))) (pe_callTy call_int1 (by rfl) T.m_int bt_int (pa_cons (pe_cmpR op_eq (pe_call G__law_take (hr.mono (by decide)) (by rfl) T.g__law_take T.F__law_take.kp T.b__law_take .nil pass0 (pa_cons (pv 0) (pa_cons pe_int pa_nil))) pe_int (nomark _)) pa_nil)) (fun _ _ => rfl)))
    (pss_cons (ps_expr (pe_bm PySem.F.plainAttrs_list PySem.F.slot_list_append PySem.F.type_list_append mt_append (pv 4) (pa_cons (pe_tup (pa_cons pe_str (pa_cons (pe_call G__law_maker (hr.mono (by decide)) (by rfl) T.g__law_maker T.F__law_maker.kp T.b__law_maker .nil pass0 (pa_cons (pv 0) (pa_cons (pe_call G__law_take (hr.mono (by decide)) (by rfl) T.g__law_take T.F__law_take.kp T.b__law_take .nil pass0 (pa_cons (pv 0) (pa_cons pe_int pa_nil))) (pa_cons (pv 2) pa_nil)))) (pa_cons (pe_call G__law_take (hr.mono (by decide)) (by rfl) T.g__law_take T.F__law_take.kp T.b__law_take .nil pass0 (pa_cons (pv 0) (pa_cons (pe_callB (call_min2 rfl) (by rfl) T.m_min bt_min (pa_cons pe_int (pa_cons (pv 8) pa_nil))) pa_nil))) pa_nil)))) pa_nil)))
    (pss_one ps_continue))) pss_nil)
    (pss_cons (ps_asg (pe_lc (own := [("_law_turn", 16)]) (g := gName 16) (tt := tYes) rfl sc__law_machine.nd (pi_range1 (by rfl) T.m_range (pa_cons pe_int pa_nil)) (blkOk_by (N := N__law_machine) (sc := defScope s__law_machine) (by decide +kernel)) (fun _ _ _ _ _ => (pg_name (i := 16) sc__law_machine.nd rfl (.inl rfl))) (fun _ _ _ _ _ => pts_nil) (fun _ _ _ _ _ => (pe_call G__law_take (hr.mono (by decide)) (by rfl) T.g__law_take T.F__law_take.kp T.b__law_take .nil pass0 (pa_cons (pv 0) (pa_cons (pe_callB (call_max2 rfl) (by rfl) T.m_max bt_max (pa_cons pe_int (pa_cons (pv 6) pa_nil))) pa_nil))))) (pg_unl rfl (pgs_cons (pg_name (i := 9) sc__law_machine.nd rfl (.inl rfl)) (pgs_cons (pg_name (i := 10) sc__law_machine.nd rfl (.inl rfl)) (pgs_cons (pg_name (i := 11) sc__law_machine.nd rfl (.inl rfl)) pgs_nil)))))
    (pss_cons (ps_if (pt_cmpR op_lt (pv 7) pe_int (nomark _)) (pss_cons (ps_set (i := 12) sc__law_machine.nd rfl (.inl rfl) (pe_lst (pa_cons (pe_tup (pa_cons pe_str (pa_cons (pv 9) pa_nil))) (pa_cons (pe_tup (pa_cons pe_str (pa_cons (pv 9) (pa_cons (pv 10) pa_nil)))) (pa_cons (pe_tup (pa_cons pe_str (pa_cons (pv 9) (pa_cons (pv 10) pa_nil)))) (pa_cons (pe_tup (pa_cons pe_str (pa_cons (pv 9) (pa_cons (pv 10) pa_nil)))) (pa_cons (pe_tup (pa_cons pe_str (pa_cons (pv 9) (pa_cons (pv 10) (pa_cons (pv 11) pa_nil))))) pa_nil)))))))
    (pss_cons (ps_expr (pe_bm PySem.F.plainAttrs_list PySem.F.slot_list_append PySem.F.type_list_append mt_append (pv 4) (pa_cons (pe_ix ix_list (pe_op op_cat (pv 12) (pe_lst (pa_cons (pe_tup (pa_cons pe_str (pa_cons (pv 9) (pa_cons (pv 10) (pa_cons (pe_op op_mod (pv 11) pe_int) pa_nil))))) pa_nil))) (pe_op op_sub (pv 7) pe_int) (fun _ _ => rfl)) pa_nil)))
    (pss_one ps_continue))) pss_nil)
    (pss_cons (ps_asg (pe_lc (own := [("_law_turn", 16)]) (g := gName 16) (tt := tYes) rfl sc__law_machine.nd (pi_range1 (by rfl) T.m_range (pa_cons pe_int pa_nil)) (blkOk_by (N := N__law_machine) (sc := defScope s__law_machine) (by decide +kernel)) (fun _ _ _ _ _ => (pg_name (i := 16) sc__law_machine.nd rfl (.inl rfl))) (fun _ _ _ _ _ => pts_nil) (fun _ _ _ _ _ => (pe_call G__law_take (hr.mono (by decide)) (by rfl) T.g__law_take T.F__law_take.kp T.b__law_take .nil pass0 (pa_cons (pv 0) (pa_cons (pe_ifExp (pt_val (pv 3)) (pv 1) (pv 6)) pa_nil))))) (pg_unl rfl (pgs_cons (pg_name (i := 9) sc__law_machine.nd rfl (.inl rfl)) (pgs_cons (pg_name (i := 10) sc__law_machine.nd rfl (.inl rfl)) pgs_nil))))
    (pss_one (ps_if (pt_cmpR op_lt (pv 7) pe_int (nomark _)) (pss_cons (ps_set (i := 13) sc__law_machine.nd rfl (.inl rfl) (pe_op op_add pe_int (pe_call G__law_take (hr.mono (by decide)) (by rfl) T.g__law_take T.F__law_take.kp T.b__law_take .nil pass0 (pa_cons (pv 0) (pa_cons (pe_ix ix_list (pe_lst (pa_cons pe_int (pa_cons pe_int pa_nil))) (pe_op op_sub (pv 7) pe_int) (fun _ _ => rfl)) pa_nil)))))
    (pss_one (ps_expr (pe_bm PySem.F.plainAttrs_list PySem.F.slot_list_append PySem.F.type_list_append mt_append (pv 4) (pa_cons (pe_tup (pa_cons pe_str (pa_cons (pv 9) (pa_cons (pe_callTy call_tuple_of (by rfl) T.m_tuple bt_tuple (pa_cons (pe_lc (own := [("_law_turn", 16)]) (g := gName 16) (tt := tYes) rfl sc__law_machine.nd (pi_range1 (by rfl) T.m_range (pa_cons (pv 13) pa_nil)) (blkOk_by (N := N__law_machine) (sc := defScope s__law_machine) (by decide +kernel)) (fun _ _ _ _ _ => (pg_name (i := 16) sc__law_machine.nd rfl (.inl rfl))) (fun _ _ _ _ _ => pts_nil) (fun _ _ _ _ _ => (pe_call G__law_take (hr.mono (by decide)) (by rfl) T.g__law_take T.F__law_take.kp T.b__law_take .nil pass0 (pa_cons (pv 0) (pa_cons pe_int pa_nil))))) pa_nil)) pa_nil)))) pa_nil))))) (pss_cons (ps_set (i := 14) sc__law_machine.nd rfl (.inl rfl) (pe_ix ix_list (pe_lst (pa_cons pe_int (pa_cons pe_int (pa_cons (pe_op op_add pe_int (pe_call G__law_take (hr.mono (by decide)) (by rfl) T.g__law_take T.F__law_take.kp T.b__law_take .nil pass0 (pa_cons (pv 0) (pa_cons pe_int pa_nil)))) (pa_cons (pe_op op_add pe_int (pe_call G__law_take (hr.mono (by decide)) (by rfl) T.g__law_take T.F__law_take.kp T.b__law_take .nil pass0 (pa_cons (pv 0) (pa_cons pe_int pa_nil)))) pa_nil))))) (pe_call G__law_take (hr.mono (by decide)) (by rfl) T.g__law_take T.F__law_take.kp T.b__law_take .nil pass0 (pa_cons (pv 0) (pa_cons pe_int pa_nil))) (fun _ _ => rfl)))
    (pss_cons (ps_set (i := 15) sc__law_machine.nd rfl (.inl rfl) (pe_call G__law_maker (hr.mono (by decide)) (by rfl) T.g__law_maker T.F__law_maker.kp T.b__law_maker .nil pass0 (pa_cons (pv 0) (pa_cons (pe_call G__law_take (hr.mono (by decide)) (by rfl) T.g__law_take T.F__law_take.kp T.b__law_take .nil pass0 (pa_cons (pv 0) (pa_cons pe_int pa_nil))) (pa_cons (pv 2) pa_nil)))))
    (pss_one (ps_expr (pe_bm PySem.F.plainAttrs_list PySem.F.slot_list_append PySem.F.type_list_append mt_append (pv 4) (pa_cons (pe_tup (pa_cons pe_str (pa_cons (pv 9) (pa_cons (pv 10) (pa_cons (pv 15) (pa_cons (pv 14) (pa_cons (pe_call G__law_take (hr.mono (by decide)) (by rfl) T.g__law_take T.F__law_take.kp T.b__law_take .nil pass0 (pa_cons (pv 0) (pa_cons (pe_op op_add (pv 14) pe_int) pa_nil))) pa_nil))))))) pa_nil))))))))))))))))
    (pss_one (ps_ret (pe_callTy call_tuple_of (by rfl) T.m_tuple bt_tuple (pa_cons (pv 4) pa_nil)))))), ?_⟩
    have hsl : sizeLine = 16777216 := by decide
    refine ⟨(show 0 ≤ sizeLine by decide), fun l nl => ?_⟩
    have lp := ne_new hB nl
    have b0 := (But.refl p H).new (o := .lst []) nl
    have hl0 := upd_same (H := H) (a := l) (o := .lst [])
    have B0 := hB.new (o := .lst []) nl
    generalize upd H l (.lst []) = H0 at b0 hl0 B0 ⊢
    refine ⟨(show 8 ≤ sizeLine by decide), fun m1 nm1 => ⟨.ref p, rfl, p, 8, N, rfl, B0.new nm1, by decide, by decide, by omega, fun H1 r c1 B1 l1 u1 => ?_⟩⟩
    obtain ⟨v, ev, hv⟩ := at_menu (Pr := fun v => 0 ≤ v ∧ v ≤ 2) (xs := [0, 0, 0, 0, 0, 0, 1, 2]) l1 u1 (fun x hx => by
      simp only [List.mem_cons, List.not_mem_nil, or_false] at hx
      omega)
    have hm1 := c1 _ _ (ne_new B0 nm1) (upd_same (H := H0) (a := m1) (o := .lst [.int 0, .int 0, .int 0, .int 0, .int 0, .int 0, .int 1, .int 2]))
    have b1 := b0.trans (((But.refl p H0).new (o := .lst [.int 0, .int 0, .int 0, .int 0, .int 0, .int 0, .int 1, .int 2]) nm1).trans c1)
    have hl1 := c1 _ _ lp ((same_upd nm1 (o := .lst [.int 0, .int 0, .int 0, .int 0, .int 0, .int 0, .int 1, .int 2])) _ _ hl0)
    obtain ⟨ba, hba, hb2, hlo⟩ : ∃ ba : Int, v * (if lo = true then 1 else 0) = ba ∧ (0 ≤ ba ∧ ba ≤ 2) ∧ (0 < ba → lo = true) := by
      cases lo
      · exact ⟨0, by rw [if_neg Bool.false_ne_true, Int.mul_zero], ⟨by decide, by decide⟩, fun z => absurd z (by decide)⟩
      · exact ⟨v, by rw [if_pos rfl, Int.mul_one], hv, fun _ => rfl⟩
    refine ⟨m1, _, _, _, rfl, rfl, SqL.mk hm1, ev, .bl lo, rfl, .inr ⟨lo, rfl, v, _, rfl, rfl, .inl (by omega), _, _, rfl, ?_⟩⟩
    try dsimp only
    rw [hba]
    clear ev hv hba hm1 c1 l1 u1
    have nl : H l = none := nl
    refine ⟨.int (n : Nat), rfl, n, rfl, by omega, by omega, for_range (fun i σ G => ∃ y6 y7 y8 y9 y10 y11 y12 y13 y14 y15, σ = [some (.ref p), some (.int (n : Nat)), some (.int M), some (.bl lo), some (.ref l), some (.int ba), y6, y7, y8, y9, y10, y11, y12, y13, y14, y15, none] ∧ MI p l H (N + 1) n i G) ⟨_, _, _, _, _, _, _, _, _, _, rfl, [], [], b1, B1, hl1, .nil, rfl, fun i P e => (by cases e)⟩ ?_ ?_⟩
    · rintro i σ G0 hi ⟨y6, y7, y8, y9, y10, y11, y12, y13, y14, y15, rfl, hI⟩
      have hi : i < n := hi
      rw [Int.zero_add]
      obtain ⟨Ps0, xs0, hI1, hI2, hI3, hI4, hI5, hI6⟩ := id hI
      clear hI1 hI3 hI4 hI5 hI6
      refine ⟨.ref p, rfl, p, 12, _, rfl, hI2, by decide, by decide, by omega, fun G1 w1 c2 B2 l2 u2 => ?_⟩
      obtain ⟨z2, ev2, hz2⟩ := at_menu (Pr := fun v => 2 ≤ v ∧ v ≤ 4) (xs := [2, 4, 2]) hb2.1 (show ba < 3 by omega) (fun x hx => by
        simp only [List.mem_cons, List.not_mem_nil, or_false] at hx
        omega)
      have mz1 := Int.emod_nonneg w1 (show z2 ≠ 0 by omega)
      have mz2 := Int.emod_lt_of_pos w1 (show 0 < z2 by omega)
      refine nx_via (fun σ X => ∃ wa : Int, σ = [some (.ref p), some (.int (n : Nat)), some (.int M), some (.bl lo), some (.ref l), some (.int ba), some (.int (i : Nat)), some (.int wa), y8, y9, y10, y11, y12, y13, y14, y15, none] ∧ 0 ≤ wa ∧ wa < 12 ∧ (i = 0 → 0 < ba → 8 ≤ wa) ∧ But p G0 X ∧ Bx X p (N + 1 + 1300 * i + 1)) (fun N key => ?_) ?_
      · refine ⟨.int ba, rfl, rfl, _, rfl, ite2 (fun e1 => ?_) (fun e1 => iteF ?_)⟩
        · refine ⟨.int w1, rfl, _, _, rfl, rfl, _, rfl, ?_⟩
          by_cases c1 : 2 ≤ w1
          · rw [decide_eq_true c1]
            refine iteT ⟨_, _, rfl, rfl, _, rfl, ?_⟩
            by_cases c3 : w1 < 10
            · rw [decide_eq_true c3]
              refine iteF ?_
              refine ⟨.int ba, rfl, _, _, rfl, rfl, _, rfl, ite2 (fun e3 => ?_) (fun e3 => iteF ?_)⟩
              · refine ⟨.int (i : Nat), rfl, rfl, _, rfl, ite2 (fun e4 => ?_) (fun e4 => ?_)⟩
                · refine ⟨.int w1, rfl, (show 3 ≤ sizeLine by decide), fun m2 nm2 => ⟨.int ba, rfl, m2, _, _, _, rfl, rfl, SqL.mk upd_same, ev2, _, _, rfl, rfl, by omega, _, _, rfl, rfl, ?_⟩⟩
                  exact key _ _ ⟨8 + w1 % z2, rfl, by omega, by omega, fun _ _ => by omega, c2.new nm2, B2.new nm2⟩
                · exact key _ _ ⟨w1, rfl, l2, u2, fun h1 _ => absurd (decide_eq_true (by rw [h1]; rfl)) e4, c2, B2⟩
              · exact key _ _ ⟨w1, rfl, l2, u2, fun _ h2 => absurd (decide_eq_true h2) e3, c2, B2⟩
            · rw [decide_eq_false c3]
              refine iteT ?_
              refine ⟨.int w1, rfl, (show 3 ≤ sizeLine by decide), fun m2 nm2 => ⟨.int ba, rfl, m2, _, _, _, rfl, rfl, SqL.mk upd_same, ev2, _, _, rfl, rfl, by omega, _, _, rfl, rfl, ?_⟩⟩
              exact key _ _ ⟨8 + w1 % z2, rfl, by omega, by omega, fun _ _ => by omega, c2.new nm2, B2.new nm2⟩
          · rw [decide_eq_false c1]
            refine iteF ⟨_, rfl, iteT ?_⟩
            refine ⟨.int w1, rfl, (show 3 ≤ sizeLine by decide), fun m2 nm2 => ⟨.int ba, rfl, m2, _, _, _, rfl, rfl, SqL.mk upd_same, ev2, _, _, rfl, rfl, by omega, _, _, rfl, rfl, ?_⟩⟩
            exact key _ _ ⟨8 + w1 % z2, rfl, by omega, by omega, fun _ _ => by omega, c2.new nm2, B2.new nm2⟩
        refine ⟨.int ba, rfl, _, _, rfl, rfl, _, rfl, ite2 (fun e3 => ?_) (fun e3 => iteF ?_)⟩
        · refine ⟨.int (i : Nat), rfl, rfl, _, rfl, ite2 (fun e4 => ?_) (fun e4 => ?_)⟩
          · refine ⟨.int w1, rfl, (show 3 ≤ sizeLine by decide), fun m2 nm2 => ⟨.int ba, rfl, m2, _, _, _, rfl, rfl, SqL.mk upd_same, ev2, _, _, rfl, rfl, by omega, _, _, rfl, rfl, ?_⟩⟩
            exact key _ _ ⟨8 + w1 % z2, rfl, by omega, by omega, fun _ _ => by omega, c2.new nm2, B2.new nm2⟩
          · exact key _ _ ⟨w1, rfl, l2, u2, fun h1 _ => absurd (decide_eq_true (by rw [h1]; rfl)) e4, c2, B2⟩
        · exact key _ _ ⟨w1, rfl, l2, u2, fun _ h2 => absurd (decide_eq_true h2) e3, c2, B2⟩
      rintro σ X ⟨wa, rfl, w0, w12, wi8, bX, BX⟩
      clear c2 B2 l2 u2 ev2 hz2 mz1 mz2 w1
      have pie : ∀ (Z : Hp) (P : Pie) (v : V) (k : Nat), But p G0 Z → Bx Z p k → k ≤ N + 1 + 1300 * (i + 1) → PieAt Z P v → P.Ok i n → ∃ xs, Z l = some (.lst xs) ∧ xs.length < sizeLine ∧ MI p l H (N + 1) n (i + 1) (upd Z l (.lst (xs ++ [v]))) := fun Z P v k b B hk hP ok => hI.push nl lp b B hk hP ok (by omega)
      have hlZ : ∀ Z, But p G0 Z → ∃ xs, Z l = some (.lst xs) := fun Z b => by
        obtain ⟨Ps, xs, h1, h2, h3, h4⟩ := hI
        exact ⟨xs, b _ _ lp h3⟩
      refine seq_via (fun σ Y => σ = [some (.ref p), some (.int (n : Nat)), some (.int M), some (.bl lo), some (.ref l), some (.int ba), some (.int (i : Nat)), some (.int wa), y8, y9, y10, y11, y12, y13, y14, y15, none] ∧ Y = X ∧ 2 ≤ wa ∧ (1 ≤ i ∨ 8 ≤ wa ∧ lo = true)) (fun N' key => ?_) ?_
      · refine ⟨.int (i : Nat), rfl, rfl, _, rfl, ite2 (fun e1 => ?_) (fun e1 => iteF ?_)⟩
        · have i0 : i = 0 := by
            have := V.int.inj (of_decide_eq_true e1)
            omega
          refine ⟨.int ba, rfl, rfl, _, rfl, ite2 (fun e2 => ?_) (fun e2 => ?_)⟩
          · refine ⟨.int M, rfl, _, _, rfl, rfl, (show 2 ≤ sizeLine by decide), fun t nt => ⟨.ref p, rfl, p, 8, _, rfl, BX.new nt, by decide, by decide, by omega, fun X1 r3 b3 B3 l3 u3 => ?_⟩⟩
            obtain ⟨tv, ev, htv⟩ := at_menu (Pr := fun v => 3 ≤ v ∧ v ≤ 65) (xs := [M + 2, 65]) (r := if decide (V.int r3 = V.int 0) = true then (1 : Int) else 0) i01b.1 i01b.2 (fun x hx => by
              simp only [List.mem_cons, List.not_mem_nil, or_false] at hx
              omega)
            refine ⟨rfl, .inr ⟨_, rfl, t, _, _, _, rfl, rfl, SqL.mk (b3 _ _ (ne_new BX nt) upd_same), ev, ?_⟩⟩
            have bX1 := bX.trans (((But.refl p X).new (o := .lst [.int (M + 2), .int 65]) nt).trans b3)
            obtain ⟨xs1, hx1⟩ := hlZ X1 bX1
            refine ⟨.ref l, rfl, .inl ⟨rfl, _, SqL.mk hx1⟩, .ref p, rfl, .ref p, rfl, p, 2, _, rfl, B3, by decide, by decide, by omega, fun X2 r4 b4 B4 l4 u4 => ?_⟩
            obtain ⟨k4, rfl⟩ := nat_of l4
            refine ⟨.int M, rfl, p, M, _, k4, rfl, B4, by omega, by omega, by decide, by omega, by omega, fun X3 mv m b5 B5 hm ok vd dp rn => ?_⟩
            refine ⟨.ref p, rfl, _, rfl, 65, tv, rfl, p, if tv < 65 then tv else 65, _, rfl, B5, by split <;> omega, by split <;> omega, by omega, fun X4 r6 b6 B6 l6 u6 => ⟨(show 3 ≤ sizeLine by decide), fun t6 nt6 => ?_⟩⟩
            obtain ⟨k6, rfl⟩ := nat_of l6
            have k65 : k6 ≤ 64 := by
              have : (if tv < 65 then tv else 65) ≤ 65 := by split <;> omega
              omega
            have rn2 : m.rnd ≤ 4096 := Nat.le_trans rn (Nat.pow_le_pow_right (by decide) (show k4 + 1 ≤ 2 by omega))
            obtain ⟨xs, z1, z2, z3⟩ := pie _ (.make m k6) (.ref t6) _ ((((bX1.trans b4).trans b5).trans b6).trans (same_but (same_upd nt6 (o := .tup [.str "make", mv, .int (k6 : Nat)])))) (B6.new nt6) (by omega) ⟨t6, mv, rfl, upd_same, (hm.but B5 b6).same (same_upd nt6)⟩ ⟨⟨ok, vd, by omega, rn2⟩, k65⟩
            exact ⟨l, _, _, rfl, rfl, z1, z2, _, _, _, _, _, _, _, _, _, _, rfl, z3⟩
    
          · have ba0 : ba ≠ 0 := fun z => e2 (decide_eq_true (by rw [z]))
            have w8 := wi8 i0 (by omega)
            refine ⟨.int wa, rfl, _, _, rfl, rfl, _, rfl, ite2 (fun e3 => ?_) (fun e3 => key _ _ ⟨rfl, rfl, by omega, .inr ⟨w8, hlo (by omega)⟩⟩)⟩
            exact absurd (show wa < 2 from of_decide_eq_true e3) (by omega)
        · have i1 : 1 ≤ i := by
            have : ¬ V.int (i : Nat) = V.int 0 := fun e => e1 (decide_eq_true e)
            have : i ≠ 0 := fun e => this (by rw [e]; rfl)
            omega
          refine ⟨.int wa, rfl, _, _, rfl, rfl, _, rfl, ite2 (fun e3 => ?_) (fun e3 => key _ _ ⟨rfl, rfl, by have : ¬ wa < 2 := fun z => e3 (decide_eq_true z); omega, .inl i1⟩)⟩
          refine ⟨.int M, rfl, _, _, rfl, rfl, (show 2 ≤ sizeLine by decide), fun t nt => ⟨.ref p, rfl, p, 8, _, rfl, BX.new nt, by decide, by decide, by omega, fun X1 r3 b3 B3 l3 u3 => ?_⟩⟩
          obtain ⟨tv, ev, htv⟩ := at_menu (Pr := fun v => 3 ≤ v ∧ v ≤ 65) (xs := [M + 2, 65]) (r := if decide (V.int r3 = V.int 0) = true then (1 : Int) else 0) i01b.1 i01b.2 (fun x hx => by
            simp only [List.mem_cons, List.not_mem_nil, or_false] at hx
            omega)
          refine ⟨rfl, .inr ⟨_, rfl, t, _, _, _, rfl, rfl, SqL.mk (b3 _ _ (ne_new BX nt) upd_same), ev, ?_⟩⟩
          have bX1 := bX.trans (((But.refl p X).new (o := .lst [.int (M + 2), .int 65]) nt).trans b3)
          obtain ⟨xs1, hx1⟩ := hlZ X1 bX1
          refine ⟨.ref l, rfl, .inl ⟨rfl, _, SqL.mk hx1⟩, .ref p, rfl, .ref p, rfl, p, 2, _, rfl, B3, by decide, by decide, by omega, fun X2 r4 b4 B4 l4 u4 => ?_⟩
          obtain ⟨k4, rfl⟩ := nat_of l4
          refine ⟨.int M, rfl, p, M, _, k4, rfl, B4, by omega, by omega, by decide, by omega, by omega, fun X3 mv m b5 B5 hm ok vd dp rn => ?_⟩
          refine ⟨.ref p, rfl, _, rfl, 65, tv, rfl, p, if tv < 65 then tv else 65, _, rfl, B5, by split <;> omega, by split <;> omega, by omega, fun X4 r6 b6 B6 l6 u6 => ⟨(show 3 ≤ sizeLine by decide), fun t6 nt6 => ?_⟩⟩
          obtain ⟨k6, rfl⟩ := nat_of l6
          have k65 : k6 ≤ 64 := by
            have : (if tv < 65 then tv else 65) ≤ 65 := by split <;> omega
            omega
          have rn2 : m.rnd ≤ 4096 := Nat.le_trans rn (Nat.pow_le_pow_right (by decide) (show k4 + 1 ≤ 2 by omega))
          obtain ⟨xs, z1, z2, z3⟩ := pie _ (.make m k6) (.ref t6) _ ((((bX1.trans b4).trans b5).trans b6).trans (same_but (same_upd nt6 (o := .tup [.str "make", mv, .int (k6 : Nat)])))) (B6.new nt6) (by omega) ⟨t6, mv, rfl, upd_same, (hm.but B5 b6).same (same_upd nt6)⟩ ⟨⟨ok, vd, by omega, rn2⟩, k65⟩
          exact ⟨l, _, _, rfl, rfl, z1, z2, _, _, _, _, _, _, _, _, _, _, rfl, z3⟩
      rintro σ Y ⟨rfl, rfl, w2, wi1⟩
      obtain ⟨mx, hmx, hmx2⟩ : ∃ mx : Int, (if (i : Int) > 1 then (i : Int) else 1) = mx ∧ 1 ≤ mx ∧ mx ≤ 24 ∧ (1 ≤ i → mx = (i : Int)) := ⟨_, rfl, by split <;> omega, by split <;> omega, fun _ => by split <;> omega⟩
      refine ⟨3, rfl, by decide, by decide, fun D nD => ?_⟩
      have Db := ne_new BX nD
      refine lc_range (PN p D Y mx (N + 1 + 1300 * i + 1)) (pn_start nD BX) (fun j E5 hj h5 => ?_) (fun E5 h5 => ?_)
      · have j3 : j < 3 := hj
        obtain ⟨rs, e1, e2, e3, e4, e5⟩ := h5
        refine ⟨rfl, yes_ite ⟨.ref p, rfl, .int (i : Nat), rfl, 1, (i : Int), rfl, p, mx, _, ?_, e4, by omega, by omega, by omega, fun E6 x c6 B6 l6 u6 => ?_⟩⟩
        · try dsimp only
          rw [hmx]
          rfl
        · exact pn_step nD Db ⟨rs, e1, e2, e3, e4, e5⟩ c6 B6 (by omega) ⟨l6, u6⟩
      obtain ⟨rs, e1, e2, b3, B3, hD⟩ := h5
      obtain ⟨ra, rb, rc, rfl⟩ : ∃ x y z, rs = [x, y, z] := by
        have e1 : rs.length = 3 := e1
        match rs, e1 with
        | [x, y, z], _ => exact ⟨x, y, z, rfl⟩
      have va := e2 ra (by simp)
      have vb := e2 rb (by simp)
      have vc := e2 rc (by simp)
      clear e1 e2
      obtain ⟨ra, rfl⟩ := nat_of va.1
      obtain ⟨rb, rfl⟩ := nat_of vb.1
      obtain ⟨rc, rfl⟩ := nat_of vc.1
      refine ⟨D, _, rfl, SqL.mk hD, rfl, _, _, rfl, _, _, rfl, _, _, rfl, rfl, ?_⟩
      have b3 := bX.trans b3
      have B3 : Bx E5 p (N + 1 + 1300 * i + 5) := B3.mono (by have : ((3 : Int).toNat) = 3 := rfl; omega)
      clear hD Db nD BX bX
      refine nx_via (fun σ X => σ = [some (.ref p), some (.int (n : Nat)), some (.int M), some (.bl lo), some (.ref l), some (.int ba), some (.int (i : Nat)), some (.int wa), y8, some (.int (ra : Nat)), some (.int (rb : Nat)), some (.int (rc : Nat)), y12, y13, y14, y15, none] ∧ X = E5 ∧ 8 ≤ wa) (fun N'' key => ?_) ?_
      · refine ⟨.int wa, rfl, _, _, rfl, rfl, _, rfl, ite2 (fun e8 => ?_) (fun e8 => key _ _ ⟨rfl, rfl, by have : ¬ wa < 8 := fun z => e8 (decide_eq_true z); omega⟩)⟩
        have w8 : wa < 8 := of_decide_eq_true e8
        have i1 : 1 ≤ i := by omega
        have em := hmx2.2.2 i1
        have oa : ra < i := by omega
        have ob : rb < i := by omega
        have oc : rc < i := by omega
        have BB := B3
        have bb := b3
        refine ⟨_, rfl, (show 2 ≤ sizeLine by decide), fun p1 np1 => ?_⟩
        have sp1 := same_upd np1 (o := .tup [.str "less", .int (ra : Nat)])
        have ip1 : PieAt (upd E5 p1 (.tup [.str "less", .int (ra : Nat)])) (.less ra) (.ref p1) := ⟨p1, rfl, upd_same⟩
        have BB := BB.same sp1
        have bb := bb.trans (same_but sp1)
        generalize upd E5 p1 (.tup [.str "less", .int (ra : Nat)]) = F1 at ip1 BB bb ⊢
        refine ⟨_, rfl, _, rfl, (show 3 ≤ sizeLine by decide), fun p2 np2 => ?_⟩
        have sp2 := same_upd np2 (o := .tup [.str "both", .int (ra : Nat), .int (rb : Nat)])
        have ip2 : PieAt (upd F1 p2 (.tup [.str "both", .int (ra : Nat), .int (rb : Nat)])) (.both ra rb) (.ref p2) := ⟨p2, rfl, upd_same⟩
        have ip1 := ip1.same sp2
        have BB := BB.same sp2
        have bb := bb.trans (same_but sp2)
        generalize upd F1 p2 (.tup [.str "both", .int (ra : Nat), .int (rb : Nat)]) = F2 at ip1 ip2 BB bb ⊢
        refine ⟨_, rfl, _, rfl, (show 3 ≤ sizeLine by decide), fun p3 np3 => ?_⟩
        have sp3 := same_upd np3 (o := .tup [.str "either", .int (ra : Nat), .int (rb : Nat)])
        have ip3 : PieAt (upd F2 p3 (.tup [.str "either", .int (ra : Nat), .int (rb : Nat)])) (.either ra rb) (.ref p3) := ⟨p3, rfl, upd_same⟩
        have ip1 := ip1.same sp3
        have ip2 := ip2.same sp3
        have BB := BB.same sp3
        have bb := bb.trans (same_but sp3)
        generalize upd F2 p3 (.tup [.str "either", .int (ra : Nat), .int (rb : Nat)]) = F3 at ip1 ip2 ip3 BB bb ⊢
        refine ⟨_, rfl, _, rfl, (show 3 ≤ sizeLine by decide), fun p4 np4 => ?_⟩
        have sp4 := same_upd np4 (o := .tup [.str "oneof", .int (ra : Nat), .int (rb : Nat)])
        have ip4 : PieAt (upd F3 p4 (.tup [.str "oneof", .int (ra : Nat), .int (rb : Nat)])) (.oneof ra rb) (.ref p4) := ⟨p4, rfl, upd_same⟩
        have ip1 := ip1.same sp4
        have ip2 := ip2.same sp4
        have ip3 := ip3.same sp4
        have BB := BB.same sp4
        have bb := bb.trans (same_but sp4)
        generalize upd F3 p4 (.tup [.str "oneof", .int (ra : Nat), .int (rb : Nat)]) = F4 at ip1 ip2 ip3 ip4 BB bb ⊢
        refine ⟨_, rfl, _, rfl, _, rfl, (show 4 ≤ sizeLine by decide), fun p5 np5 => ?_⟩
        have sp5 := same_upd np5 (o := .tup [.str "pick", .int (ra : Nat), .int (rb : Nat), .int (rc : Nat)])
        have ip5 : PieAt (upd F4 p5 (.tup [.str "pick", .int (ra : Nat), .int (rb : Nat), .int (rc : Nat)])) (.pick ra rb rc) (.ref p5) := ⟨p5, rfl, upd_same⟩
        have ip1 := ip1.same sp5
        have ip2 := ip2.same sp5
        have ip3 := ip3.same sp5
        have ip4 := ip4.same sp5
        have BB := BB.same sp5
        have bb := bb.trans (same_but sp5)
        generalize upd F4 p5 (.tup [.str "pick", .int (ra : Nat), .int (rb : Nat), .int (rc : Nat)]) = F5 at ip1 ip2 ip3 ip4 ip5 BB bb ⊢
        refine ⟨(show 5 ≤ sizeLine by decide), fun l1 nl1 => ?_⟩
        have sl1 := same_upd nl1 (o := .lst [.ref p1, .ref p2, .ref p3, .ref p4, .ref p5])
        have hl1 := upd_same (H := F5) (a := l1) (o := .lst [.ref p1, .ref p2, .ref p3, .ref p4, .ref p5])
        have ip1 := ip1.same sl1
        have ip2 := ip2.same sl1
        have ip3 := ip3.same sl1
        have ip4 := ip4.same sl1
        have ip5 := ip5.same sl1
        have BB := BB.same sl1
        have bb := bb.trans (same_but sl1)
        generalize upd F5 l1 (.lst [.ref p1, .ref p2, .ref p3, .ref p4, .ref p5]) = F6 at hl1 ip1 ip2 ip3 ip4 ip5 BB bb ⊢
        obtain ⟨xq, hxq⟩ := hlZ F6 bb
        obtain ⟨fr, hfr, fr2⟩ : ∃ f : Nat, (rc : Int) % 2 = (f : Int) ∧ f < 2 := ⟨rc % 2, by omega, by omega⟩
        refine ⟨.ref l, rfl, .inl ⟨rfl, _, SqL.mk hxq⟩, .ref l1, rfl, _, rfl, _, rfl, .int (rc : Nat), rfl, _, _, rfl, rfl, (show (0 : Int) < 2 by decide), ?_⟩
        try dsimp only
        rw [hfr]
        refine ⟨(show 4 ≤ sizeLine by decide), fun p6 np6 => ?_⟩
        have sp6 := same_upd np6 (o := .tup [.str "keep", .int (ra : Nat), .int (rb : Nat), .int (fr : Nat)])
        have ip6 : PieAt (upd F6 p6 (.tup [.str "keep", .int (ra : Nat), .int (rb : Nat), .int (fr : Nat)])) (.keep ra rb fr) (.ref p6) := ⟨p6, rfl, upd_same⟩
        have hl1 := sp6 _ _ hl1
        have ip1 := ip1.same sp6
        have ip2 := ip2.same sp6
        have ip3 := ip3.same sp6
        have ip4 := ip4.same sp6
        have ip5 := ip5.same sp6
        have BB := BB.same sp6
        have bb := bb.trans (same_but sp6)
        generalize upd F6 p6 (.tup [.str "keep", .int (ra : Nat), .int (rb : Nat), .int (fr : Nat)]) = F7 at hl1 ip1 ip2 ip3 ip4 ip5 ip6 BB bb ⊢
        refine ⟨(show 1 ≤ sizeLine by decide), fun l2 nl2 => ?_⟩
        have sl2 := same_upd nl2 (o := .lst [.ref p6])
        have hl2 := upd_same (H := F7) (a := l2) (o := .lst [.ref p6])
        have hl1 := sl2 _ _ hl1
        have ip1 := ip1.same sl2
        have ip2 := ip2.same sl2
        have ip3 := ip3.same sl2
        have ip4 := ip4.same sl2
        have ip5 := ip5.same sl2
        have ip6 := ip6.same sl2
        have BB := BB.same sl2
        have bb := bb.trans (same_but sl2)
        generalize upd F7 l2 (.lst [.ref p6]) = F8 at hl1 hl2 ip1 ip2 ip3 ip4 ip5 ip6 BB bb ⊢
        refine ⟨l1, l2, _, _, rfl, rfl, hl1, hl2, (show 5 + 1 ≤ sizeLine by decide), fun l3 nl3 => ?_⟩
        have sl3 := same_upd nl3 (o := .lst ([V.ref p1, .ref p2, .ref p3, .ref p4, .ref p5] ++ [.ref p6]))
        have hl3 : (upd F8 l3 (.lst ([V.ref p1, .ref p2, .ref p3, .ref p4, .ref p5] ++ [.ref p6]))) l3 = some (.lst [V.ref p1, .ref p2, .ref p3, .ref p4, .ref p5, .ref p6]) := upd_same
        have ip1 := ip1.same sl3
        have ip2 := ip2.same sl3
        have ip3 := ip3.same sl3
        have ip4 := ip4.same sl3
        have ip5 := ip5.same sl3
        have ip6 := ip6.same sl3
        have BB := BB.same sl3
        have bb := bb.trans (same_but sl3)
        generalize upd F8 l3 (.lst ([V.ref p1, .ref p2, .ref p3, .ref p4, .ref p5] ++ [.ref p6])) = F9 at hl3 ip1 ip2 ip3 ip4 ip5 ip6 BB bb ⊢
        obtain ⟨v, ev, P, iv, ivk⟩ := at_menuV (Pr := fun v => ∃ P : Pie, PieAt F9 P v ∧ P.Ok i n) (xs := [.ref p1, .ref p2, .ref p3, .ref p4, .ref p5, .ref p6]) (show 0 ≤ wa - 2 by omega) (show wa - 2 < 6 by omega) (fun x hx => by
          simp only [List.mem_cons, List.not_mem_nil, or_false] at hx
          rcases hx with rfl | rfl | rfl | rfl | rfl | rfl
          · exact ⟨_, ip1, oa⟩
          · exact ⟨_, ip2, oa, ob⟩
          · exact ⟨_, ip3, oa, ob⟩
          · exact ⟨_, ip4, oa, ob⟩
          · exact ⟨_, ip5, oa, ob, oc⟩
          · exact ⟨_, ip6, oa, ob, fr2⟩)
        obtain ⟨xs, z1, z2, z3⟩ := pie F9 P v _ bb BB (by omega) iv ivk
        exact ⟨.int wa, rfl, _, _, rfl, rfl, l3, _, _, v, rfl, rfl, SqL.mk hl3, ev, l, _, _, rfl, rfl, z1, z2, _, _, _, _, _, _, _, _, _, _, rfl, z3⟩
    
      rintro σ X ⟨rfl, rfl, w8⟩
      obtain ⟨m2, hm2, hm3⟩ : ∃ m2 : Int, (if lo = true then ((n : Nat) : Int) else ((i : Nat) : Int)) = m2 ∧ 1 ≤ m2 ∧ m2 ≤ (n : Int) := ⟨_, rfl, by
        cases lo
        · rw [if_neg Bool.false_ne_true]
          have : 1 ≤ i := wi1.resolve_right (fun z => by cases z.2)
          omega
        · rw [if_pos rfl]
          omega⟩
      refine ⟨2, rfl, by decide, by decide, fun D nD => ?_⟩
      have Db := ne_new B3 nD
      refine lc_range (PN p D X m2 (N + 1 + 1300 * i + 5)) (pn_start nD B3) (fun j E5 hj h5 => ?_) (fun E5 h5 => ?_)
      · have j3 : j < 2 := hj
        obtain ⟨rs, e1, e2, e3, e4, e5⟩ := h5
        have go : ∀ (E6 : Hp) (x : Int), But p E5 E6 → Bx E6 p (N + 1 + 1300 * i + 5 + (j + 1)) → 0 ≤ x → x < m2 → _ := fun E6 x c6 B6 l6 u6 => pn_step nD Db ⟨rs, e1, e2, e3, e4, e5⟩ c6 B6 (by omega) ⟨l6, u6⟩
        refine ⟨rfl, yes_ite ⟨.ref p, rfl, .bl lo, rfl, _, rfl, ?_⟩⟩
        cases lo with
        | true =>
          rw [if_pos rfl] at hm2
          refine iteT ⟨.int (n : Nat), rfl, p, m2, _, by rw [← hm2]; rfl, e4, by omega, by omega, by omega, fun E6 x c6 B6 l6 u6 => go E6 x c6 B6 l6 u6⟩
        | false =>
          rw [if_neg Bool.false_ne_true] at hm2
          refine iteF ⟨.int (i : Nat), rfl, p, m2, _, by rw [← hm2]; rfl, e4, by omega, by omega, by omega, fun E6 x c6 B6 l6 u6 => go E6 x c6 B6 l6 u6⟩
      obtain ⟨rs, e1, e2, b4, B4, hD⟩ := h5
      obtain ⟨sa, sb, rfl⟩ : ∃ x y, rs = [x, y] := by
        have e1 : rs.length = 2 := e1
        match rs, e1 with
        | [x, y], _ => exact ⟨x, y, rfl⟩
      have va := e2 sa (by simp)
      have vb := e2 sb (by simp)
      clear e1 e2
      obtain ⟨sa, rfl⟩ := nat_of va.1
      obtain ⟨sb, rfl⟩ := nat_of vb.1
      have oa : sa < n := by omega
      have ob : sb < n := by omega
      refine ⟨D, _, rfl, SqL.mk hD, rfl, _, _, rfl, _, _, rfl, rfl, ?_⟩
      have b5 := b3.trans b4
      have B5 : Bx E5 p (N + 1 + 1300 * i + 8) := B4.mono (by have : ((2 : Int).toNat) = 2 := rfl; omega)
      clear hD Db nD B3 b3 b4 B4
      refine ⟨.int wa, rfl, _, _, rfl, rfl, _, rfl, ite2 (fun e10 => ?_) (fun e10 => ?_)⟩
      · have w10 : wa < 10 := of_decide_eq_true e10
        refine ⟨.ref p, rfl, (show 2 ≤ sizeLine by decide), fun t1 nt1 => ?_⟩
        obtain ⟨zs, evs, hzs⟩ := at_menu (Pr := fun v => 3 ≤ v ∧ v ≤ 16) (xs := [3, 16]) (show 0 ≤ wa - 8 by omega) (show wa - 8 < 2 by omega) (fun x hx => by
          simp only [List.mem_cons, List.not_mem_nil, or_false] at hx
          omega)
        refine ⟨.int wa, rfl, _, _, rfl, rfl, t1, _, _, _, rfl, rfl, SqL.mk upd_same, evs, p, zs, _, rfl, B5.new nt1, by omega, by omega, by omega, fun E6 r6 b6 B6 l6 u6 => ?_⟩
        have b7 := b5.trans (((But.refl p E5).new (o := .lst [.int 3, .int 16]) nt1).trans b6)
        obtain ⟨sz, hsz⟩ := nat_of (show 0 ≤ 1 + r6 by omega)
        refine ⟨_, _, rfl, rfl, ?_⟩
        try dsimp only
        rw [hsz]
        obtain ⟨xq, hxq⟩ := hlZ E6 b7
        refine ⟨.ref l, rfl, .inl ⟨rfl, _, SqL.mk hxq⟩, .int (sa : Nat), rfl, .int (sz : Nat), rfl, _, rfl, by omega, by omega, fun D2 nD2 => ?_⟩
        have Db2 := ne_new B6 nD2
        refine lc_range (PN p D2 E6 2 (N + 1 + 1300 * i + 9)) (pn_start nD2 B6) (fun j E7 hj h7 => ?_) (fun E7 h7 => ?_)
        · obtain ⟨rs, e1, e2, e3, e4, e5⟩ := h7
          refine ⟨rfl, yes_ite ⟨.ref p, rfl, p, 2, _, rfl, e4, by decide, by decide, by omega, fun E8 x c8 B8 l8 u8 => ?_⟩⟩
          exact pn_step nD2 Db2 ⟨rs, e1, e2, e3, e4, e5⟩ c8 B8 (by omega) ⟨l8, u8⟩
        obtain ⟨hs, e1, e2, b8, B8, hD2⟩ := h7
        rw [Int.toNat_natCast] at e1 B8
        refine ⟨D2, _, rfl, .inl ⟨SqL.mk hD2, fun tb ntb => ⟨(show 3 ≤ sizeLine by decide), fun t nt => ?_⟩⟩⟩
        obtain ⟨xs, z1, z2, z3⟩ := pie _ (.late sa hs) (.ref t) _ ((((b7.trans b8).new ntb).new nt)) (((B8.new ntb).new nt).mono (Nat.le_refl _)) (by omega) ⟨t, tb, rfl, upd_same, (same_upd nt) _ _ upd_same⟩ ⟨oa, ⟨by omega, by omega⟩, e2⟩
        exact ⟨l, _, _, rfl, rfl, z1, z2, _, _, _, _, _, _, _, _, _, _, rfl, z3⟩
      · refine ⟨.ref p, rfl, p, 9, _, rfl, B5, by decide, by decide, by omega, fun E6 r6 b6 B6 l6 u6 => ⟨_, _, rfl, rfl, .ref p, rfl, p, 64, _, rfl, B6, by decide, by decide, by omega, fun E7 r7 b7 B7 l7 u7 => ⟨_, _, rfl, rfl, (show 4 ≤ sizeLine by decide), fun t1 nt1 => ⟨.ref p, rfl, p, 4, _, rfl, B7.new nt1, by decide, by decide, by omega, fun E8 r8 b8 B8 l8 u8 => ?_⟩⟩⟩⟩
        obtain ⟨hi, evh, hhi⟩ := at_menu (Pr := fun v => 1 ≤ v ∧ v ≤ 64) (xs := [1, 2, 1 + r6, 1 + r7]) l8 u8 (fun x hx => by
          simp only [List.mem_cons, List.not_mem_nil, or_false] at hx
          omega)
        obtain ⟨mo, rfl⟩ := nat_of (show 0 ≤ hi by omega)
        refine ⟨t1, _, _, _, rfl, rfl, SqL.mk (b8 _ _ (ne_new B7 nt1) upd_same), evh, ?_⟩
        have b9 := ((b5.trans b6).trans b7).trans (((But.refl p E7).new (o := .lst [.int 1, .int 2, .int (1 + r6), .int (1 + r7)]) nt1).trans b8)
        refine ⟨.ref p, rfl, .ref p, rfl, p, 2, _, rfl, B8, by decide, by decide, by omega, fun X2 r4 b4 B4 l4 u4 => ?_⟩
        obtain ⟨k4, rfl⟩ := nat_of l4
        refine ⟨.int M, rfl, p, M, _, k4, rfl, B4, by omega, by omega, by decide, by omega, by omega, fun X3 mv m b5 B5 hm ok vd dp rn => ?_⟩
        have b10 := (b9.trans b4).trans b5
        obtain ⟨xq, hxq⟩ := hlZ X3 b10
        refine ⟨.ref l, rfl, .inl ⟨rfl, _, SqL.mk hxq⟩, .int (sa : Nat), rfl, .int (sb : Nat), rfl, mv, rfl, .int (mo : Nat), rfl, .ref p, rfl, .int (mo : Nat), rfl, _, _, rfl, rfl, p, (mo : Int) + 1, _, rfl, B5, by omega, by omega, by omega, fun X4 r11 b11 B11 l11 u11 => ⟨(show 6 ≤ sizeLine by decide), fun t nt => ?_⟩⟩
        obtain ⟨at_, rfl⟩ := nat_of l11
        have rn2 : m.rnd ≤ 4096 := Nat.le_trans rn (Nat.pow_le_pow_right (by decide) (show k4 + 1 ≤ 2 by omega))
        obtain ⟨xs, z1, z2, z3⟩ := pie _ (.keeper sa sb m mo at_) (.ref t) _ ((b10.trans b11).new nt) (B11.new nt) (by omega) ⟨t, mv, rfl, upd_same, (hm.but B5 b11).same (same_upd nt)⟩ ⟨oa, ob, ⟨ok, vd, by omega, rn2⟩, by omega, by omega, by omega⟩
        exact ⟨l, _, _, rfl, rfl, z1, z2, _, _, _, _, _, _, _, _, _, _, rfl, z3⟩
    · rintro σ G ⟨y6, y7, y8, y9, y10, y11, y12, y13, y14, y15, rfl, Ps, xs, h1, h2, h3, h4, h5, h6⟩
      refine ⟨.ref l, rfl, l, _, rfl, .inl ⟨SqL.mk h3, fun t nt => ?_⟩⟩
      exact q _ t xs Ps (h1.trans (same_but (same_upd nt))) ((h2.new nt).mono (by omega)) upd_same (h4.same (same_upd nt)) h5 h6
/-! k47: the law's own look at pieces and machines -/
abbrev kS (z : Str) : Key := .inr z
theorem kS_ne {a b : Str} (h : a ≠ b) : (Sum.inr a : Key) ≠ .inr b := fun e => h (Sum.inr.inj e)
theorem str_noA {a b : Str} (h : a ≠ b) : decide (V.str a = V.str b) = false := decide_eq_false fun e => h (V.str.inj e)
def szN (z : Str) : Int := if z = "make" then 3 else if z = "less" then 2 else if z = "both" then 3 else if z = "either" then 3 else if z = "oneof" then 3 else if z = "pick" then 4 else if z = "keep" then 4 else if z = "late" then 3 else if z = "keeper" then 6 else 0
def d9k : List (Key × V) := [(kS "make", .int 3), (kS "less", .int 2), (kS "both", .int 3), (kS "either", .int 3), (kS "oneof", .int 3), (kS "pick", .int 4), (kS "keep", .int 4), (kS "late", .int 3), (kS "keeper", .int 6)]
theorem d9_get (z : Str) : (valV (mergeK [] d9k) (kS z)).getD (.int 0) = .int (szN z) := by
  show (valV (putK (putK (putK (putK (putK (putK (putK (putK (putK [] (kS "make") (.int 3)) (kS "less") (.int 2)) (kS "both") (.int 3)) (kS "either") (.int 3)) (kS "oneof") (.int 3)) (kS "pick") (.int 4)) (kS "keep") (.int 4)) (kS "late") (.int 3)) (kS "keeper") (.int 6)) (kS z)).getD (.int 0) = _
  rw [valV_put]
  by_cases h9 : z = "keeper"
  · subst h9
    rw [if_pos rfl, show szN "keeper" = 6 by decide +kernel]
    rfl
  rw [if_neg (kS_ne h9)]
  rw [valV_put]
  by_cases h8 : z = "late"
  · subst h8
    rw [if_pos rfl, show szN "late" = 3 by decide +kernel]
    rfl
  rw [if_neg (kS_ne h8)]
  rw [valV_put]
  by_cases h7 : z = "keep"
  · subst h7
    rw [if_pos rfl, show szN "keep" = 4 by decide +kernel]
    rfl
  rw [if_neg (kS_ne h7)]
  rw [valV_put]
  by_cases h6 : z = "pick"
  · subst h6
    rw [if_pos rfl, show szN "pick" = 4 by decide +kernel]
    rfl
  rw [if_neg (kS_ne h6)]
  rw [valV_put]
  by_cases h5 : z = "oneof"
  · subst h5
    rw [if_pos rfl, show szN "oneof" = 3 by decide +kernel]
    rfl
  rw [if_neg (kS_ne h5)]
  rw [valV_put]
  by_cases h4 : z = "either"
  · subst h4
    rw [if_pos rfl, show szN "either" = 3 by decide +kernel]
    rfl
  rw [if_neg (kS_ne h4)]
  rw [valV_put]
  by_cases h3 : z = "both"
  · subst h3
    rw [if_pos rfl, show szN "both" = 3 by decide +kernel]
    rfl
  rw [if_neg (kS_ne h3)]
  rw [valV_put]
  by_cases h2 : z = "less"
  · subst h2
    rw [if_pos rfl, show szN "less" = 2 by decide +kernel]
    rfl
  rw [if_neg (kS_ne h2)]
  rw [valV_put]
  by_cases h1 : z = "make"
  · subst h1
    rw [if_pos rfl, show szN "make" = 3 by decide +kernel]
    rfl
  rw [if_neg (kS_ne h1)]
  unfold szN
  rw [if_neg h1, if_neg h2, if_neg h3, if_neg h4, if_neg h5, if_neg h6, if_neg h7, if_neg h8, if_neg h9]
  rfl
theorem sz_side {z : Str} {n : Nat} (h : szN z = (n : Int) + 1) (n1 : z ≠ "make") (n2 : z ≠ "keep") (n3 : z ≠ "late") (n4 : z ≠ "keeper") : sideN z = some (n : Int) ∧ askN z = some (n : Int) := by
  by_cases hless : z = "less"
  · subst hless
    rw [show szN "less" = 2 by decide +kernel] at h
    obtain rfl : n = 1 := by omega
    exact ⟨by decide +kernel, by decide +kernel⟩
  by_cases hboth : z = "both"
  · subst hboth
    rw [show szN "both" = 3 by decide +kernel] at h
    obtain rfl : n = 2 := by omega
    exact ⟨by decide +kernel, by decide +kernel⟩
  by_cases heither : z = "either"
  · subst heither
    rw [show szN "either" = 3 by decide +kernel] at h
    obtain rfl : n = 2 := by omega
    exact ⟨by decide +kernel, by decide +kernel⟩
  by_cases honeof : z = "oneof"
  · subst honeof
    rw [show szN "oneof" = 3 by decide +kernel] at h
    obtain rfl : n = 2 := by omega
    exact ⟨by decide +kernel, by decide +kernel⟩
  by_cases hpick : z = "pick"
  · subst hpick
    rw [show szN "pick" = 4 by decide +kernel] at h
    obtain rfl : n = 3 := by omega
    exact ⟨by decide +kernel, by decide +kernel⟩
  unfold szN at h
  rw [if_neg n1, if_neg hless, if_neg hboth, if_neg heither, if_neg honeof, if_neg hpick, if_neg n2, if_neg n3, if_neg n4] at h
  omega
theorem side_sz {z : Str} {n : Nat} (h : sideN z = some (n : Int)) : szN z = (n : Int) + 1 := by
  unfold sideN dl_SIDES at h
  simp only [List.lookup_cons, List.lookup_nil] at h
  by_cases hless : z = "less"
  · subst hless
    have e : sideN "less" = some 1 := by decide +kernel
    have e2 : sideN "less" = some (n : Int) := h
    rw [e] at e2
    rw [show szN "less" = 2 by decide +kernel]
    have := Option.some.inj e2
    omega
  by_cases hboth : z = "both"
  · subst hboth
    have e : sideN "both" = some 2 := by decide +kernel
    have e2 : sideN "both" = some (n : Int) := h
    rw [e] at e2
    rw [show szN "both" = 3 by decide +kernel]
    have := Option.some.inj e2
    omega
  by_cases heither : z = "either"
  · subst heither
    have e : sideN "either" = some 2 := by decide +kernel
    have e2 : sideN "either" = some (n : Int) := h
    rw [e] at e2
    rw [show szN "either" = 3 by decide +kernel]
    have := Option.some.inj e2
    omega
  by_cases honeof : z = "oneof"
  · subst honeof
    have e : sideN "oneof" = some 2 := by decide +kernel
    have e2 : sideN "oneof" = some (n : Int) := h
    rw [e] at e2
    rw [show szN "oneof" = 3 by decide +kernel]
    have := Option.some.inj e2
    omega
  by_cases hpick : z = "pick"
  · subst hpick
    have e : sideN "pick" = some 3 := by decide +kernel
    have e2 : sideN "pick" = some (n : Int) := h
    rw [e] at e2
    rw [show szN "pick" = 4 by decide +kernel]
    have := Option.some.inj e2
    omega
  rw [beq_false_of_ne hless, beq_false_of_ne hboth, beq_false_of_ne heither, beq_false_of_ne honeof, beq_false_of_ne hpick] at h
  cases h
theorem shp_sz {z : Str} {ds : List PyData} (h : Shp z ds) : szN z = (ds.length : Int) + 1 := by
  cases h with
  | make a b => exact (by decide +kernel : szN "make" = 3)
  | keep a => exact (by decide +kernel : szN "keep" = 4)
  | late a => exact (by decide +kernel : szN "late" = 3)
  | keeper a b c d => exact (by decide +kernel : szN "keeper" = 6)
  | side a => exact side_sz a
theorem pc_sz {i m : Nat} {z : Str} {ds : List PyData} (h : Pc i m (.tuple (.str z :: ds))) : szN z = (ds.length : Int) + 1 := by
  obtain ⟨z', ds', n, e, hs, _⟩ := h
  cases e
  exact shp_sz hs
theorem pc_cons {i m : Nat} {z : Str} {ds : List PyData} (h : Pc i m (.tuple (.str z :: ds))) {n : Int} (a : askN z = some n) : Shp z ds ∧ ∀ e, e ∈ ds.take n.toNat → withinD e 0 (if z = "late" ∨ z = "keeper" then (m : Int) - 1 else (i : Int) - 1) = true := by
  obtain ⟨z', ds', n', e, hs, ha, hb⟩ := h
  cases e
  rw [a] at ha
  cases ha
  exact ⟨hs, hb⟩
def sp__law_number (_ : PySem.W.Frag) : Sp := fun vs H Q _ => ∃ (p : Addr → Prop) (x : V) (d : PyData) (lo hi : Int), vs = [x, .int lo, .int hi] ∧ Tg p H x d ∧ Q (.bl (withinD d lo hi)) H
theorem ok__law_number (T : Defs K mg) (TT : Tabs T base) : FnOk P w K mg base CX0 1 T.f__law_number T.fd__law_number ["_law_thing_here", "_law_least", "_law_most"] (sp__law_number K) := by
  refine T.F__law_number.ok sc__law_number (fun vs H Q E h => ?_) (fun cdv A outer s H vs Q E hr h => ?_)
  · obtain ⟨p, x, d, lo, hi, rfl, hx, q⟩ := h
    rfl
  · obtain ⟨p, x, d, lo, hi, rfl, hx, q⟩ := h
    refine ⟨_, PSs.nox (pss_one (ps_ret (pe_and (pe_callB call_isi (by rfl) T.m_isinstance bt_isinstance (pa_cons (pv 0) (pa_cons (pe_bltn (v := .ty "int") (by rfl) T.m_int bt_int rfl) pa_nil))) (pe_and (pe_not (pe_callB call_isi (by rfl) T.m_isinstance bt_isinstance (pa_cons (pv 0) (pa_cons (pe_bltn (v := .ty "bool") (by rfl) T.m_bool bt_bool rfl) pa_nil)))) (pe_one (pe_chain op_le op_le (pv 1) (pv 0) (pv 2))))))), ?_⟩
    obtain ⟨t, ty, ki, kb, _⟩ := hx.ty (K := K)
    refine ⟨x, rfl, _, _, _, _, _, rfl, .ty "int", ty, ki, _, rfl, ?_⟩
    cases hx with
    | int i =>
      refine iteT ⟨_, rfl, _, _, _, _, _, rfl, .ty "bool", ty, kb, _, rfl, _, rfl, ?_⟩
      refine iteT ⟨_, rfl, _, rfl, _, _, rfl, rfl, _, rfl, ?_⟩
      by_cases z : lo ≤ i
      · rw [decide_eq_true z]
        refine iteT ⟨_, rfl, _, _, rfl, rfl, ?_⟩
        have e : decide (i ≤ hi) = withinD (.int i) lo hi := decide_eq_decide.mpr ⟨fun y => ⟨z, y⟩, fun y => y.2⟩
        show Q (.bl (decide (i ≤ hi))) H
        rw [e]
        exact q
      · rw [decide_eq_false z]
        refine iteF ?_
        have e : withinD (.int i) lo hi = false := decide_eq_false (fun y => z y.1)
        rw [e] at q
        exact q
    | bl b => exact iteT ⟨_, rfl, _, _, _, _, _, rfl, .ty "bool", ty, kb, _, rfl, _, rfl, iteF q⟩
    | _ => exact iteF q
def allW (ds : List PyData) (lo hi : Int) : Bool := ds.all fun e => withinD e lo hi
theorem allW_iff {ds : List PyData} {lo hi : Int} : allW ds lo hi = true ↔ ∀ e, e ∈ ds → withinD e lo hi = true := List.all_eq_true
def sp__law_all (_ : PySem.W.Frag) : Sp := fun vs H Q _ => ∃ (p : Addr → Prop) (t : Addr) (xs : List V) (ds : List PyData) (lo hi : Int), vs = [.ref t, .int lo, .int hi] ∧ H t = some (.tup xs) ∧ TgA p H xs ds ∧ ds.length ≤ 16000000 ∧ ∀ H', Same H H' → Q (.bl (allW ds lo hi)) H'
theorem ok__law_all (T : Defs K mg) (TT : Tabs T base) : FnOk P w K mg base CX0 2 T.f__law_all T.fd__law_all ["_law_things", "_law_least", "_law_most"] (sp__law_all K) := by
  have G__law_number : FnOk P w K mg base CX0 1 T.f__law_number T.fd__law_number ["_law_thing_here", "_law_least", "_law_most"] (sp__law_number K) := ok__law_number T TT
  refine T.F__law_all.ok sc__law_all (fun vs H Q E h => ?_) (fun cdv A outer s H vs Q E hr h => ?_)
  · obtain ⟨p, t, xs, ds, lo, hi, rfl, ht, hxs, hl, q⟩ := h
    rfl
  · obtain ⟨p, t, xs, ds, lo, hi, rfl, ht, hxs, hl, q⟩ := h
    refine ⟨_, PSs.nox (pss_one (ps_ret (pe_callB (cr_all rfl) (by rfl) T.m_all bt_all (pa_cons (pe_lc (own := [("_law_thing_here", 3)]) (g := gName 3) (tt := tYes) rfl sc__law_all.nd (pi_tup (pv 0)) (blkOk_by (N := N__law_all) (sc := defScope s__law_all) (by decide +kernel)) (fun _ _ _ _ _ => (pg_name (i := 3) sc__law_all.nd rfl (.inl rfl))) (fun _ _ _ _ _ => pts_nil) (fun _ _ _ _ _ => (pe_call G__law_number (hr.mono (by decide)) (by rfl) T.g__law_number T.F__law_number.kp T.b__law_number .nil pass0 (pa_cons (pv 3) (pa_cons (pv 1) (pa_cons (pv 2) pa_nil)))))) pa_nil)))), ?_⟩
    have hsl : sizeLine = 16777216 := by decide
    have l2 := hxs.len
    refine ⟨.ref t, rfl, t, rfl, ⟨_, SqT.mk ht⟩, fun C nC => ?_⟩
    refine lc_it (walk_tup (xs := xs)) (fun i G3 => Same H G3 ∧ G3 C = some (.lst (((ds.take i).map fun e => withinD e lo hi).map V.bl))) ⟨same_upd nC, upd_same⟩ (fun i G3 _ h => SqT.mk (h.1 _ _ ht)) (fun i x G3 G4 hi h y => ?_) (fun G3 h => ?_)
    · obtain ⟨s3, hC⟩ := h
      obtain ⟨rfl, hx⟩ := y
      obtain ⟨e, he, te⟩ := hxs.get hx
      refine ⟨rfl, yes_ite ⟨x, rfl, _, rfl, _, rfl, p, x, e, lo, _, rfl, te.same s3, _, hC, ?_, same_newer s3 nC, ?_⟩⟩
      · rw [List.length_map, List.length_map, List.length_take]
        omega
      · rw [upd_same, List.take_add_one, he, List.map_append, List.map_append]
        rfl
    obtain ⟨s3, hC⟩ := h
    rw [List.take_of_length_le (by omega)] at hC
    refine ⟨C, ds.map fun e => withinD e lo hi, rfl, SqL.mk hC, ?_⟩
    have e1 : (ds.map fun e => withinD e lo hi).all id = allW ds lo hi := by
      unfold allW
      rw [List.all_map]
      rfl
    rw [e1]
    exact q _ s3
def sp__law_is_piece {K : PySem.W.Frag} {mg : Str → Option Value} (T : Defs K mg) : Sp := fun vs H Q _ => ∃ (p : Addr → Prop) (v : V) (d : PyData) (ahead many kb nb wb : Nat), vs = [v, .int (ahead : Nat), .int (many : Nat)] ∧ Tg p H v d ∧ Bd kb nb wb d ∧ nb ≤ 60 ∧ wb ≤ 15000000 ∧ GxR.TabG H T.P_is_table ∧ ∀ H' r, Sam H H' → (r = true ↔ Pc ahead many d) → Q (.bl r) H'
theorem ok__law_is_piece (T : Defs K mg) (TT : Tabs T base) : FnOk P w K mg base CX0 11 T.f__law_is_piece T.fd__law_is_piece ["_law_thing_here", "_law_ahead", "_law_many"] (sp__law_is_piece T) := by
  have G__law_all : FnOk P w K mg base CX0 2 T.f__law_all T.fd__law_all ["_law_things", "_law_least", "_law_most"] (sp__law_all K) := ok__law_all T TT
  have G__law_number : FnOk P w K mg base CX0 1 T.f__law_number T.fd__law_number ["_law_thing_here", "_law_least", "_law_most"] (sp__law_number K) := ok__law_number T TT
  have G_is_maker : FnOk P w K mg base CX0 10 T.f_is_maker T.fd_is_maker ["thing"] (sp_is_maker T) := ok_is_maker T TT
  refine T.F__law_is_piece.ok sc__law_is_piece (fun vs H Q E h => ?_) (fun cdv A outer s H vs Q E hr h => ?_)
  · obtain ⟨p, v, d, ahead, many, kb, nb, wb, rfl, hv, bd, nb60, wbl, tab, q⟩ := h
    rfl
  · obtain ⟨p, v, d, ahead, many, kb, nb, wb, rfl, hv, bd, nb60, wbl, tab, q⟩ := h
    refine ⟨_, PSs.nox (pss_cons (ps_if (PW.pt (pw_or (pt_not (pt_val (pe_callB call_isi (by rfl) T.m_isinstance bt_isinstance (pa_cons (pv 0) (pa_cons (pe_bltn (v := .ty "tuple") (by rfl) T.m_tuple bt_tuple rfl) pa_nil))))) (pw_or (pt_cmpR op_eq (pe_callB call_len_seq (by rfl) T.m_len bt_len (pa_cons (pv 0) pa_nil)) pe_int (nomark _)) (pw_or1 (pt_not (pt_val (pe_callB call_isi (by rfl) T.m_isinstance bt_isinstance (pa_cons (pe_ix ix_tup (pv 0) pe_int (fun _ _ => rfl)) (pa_cons (pe_bltn (v := .ty "str") (by rfl) T.m_str bt_str rfl) pa_nil))))))))) (pss_one (ps_ret pe_bl)) pss_nil)
    (pss_cons (ps_set (i := 3) sc__law_is_piece.nd rfl (.inl rfl) (pe_disp (pps_cons pe_str pe_int (pps_cons pe_str pe_int (pps_cons pe_str pe_int (pps_cons pe_str pe_int (pps_cons pe_str pe_int (pps_cons pe_str pe_int (pps_cons pe_str pe_int (pps_cons pe_str pe_int (pps_cons pe_str pe_int pps_nil))))))))) rfl rfl (by simp) (by decide)))
    (pss_cons (ps_if (pt_cmpR op_ne (pe_callB call_len_seq (by rfl) T.m_len bt_len (pa_cons (pv 0) pa_nil)) (pe_dget2 (u1 hr) (pv 3) (pe_ix ix_tup (pv 0) pe_int (fun _ _ => rfl)) pe_int ⟨rfl, rfl, rfl, rfl⟩) (nomark _)) (pss_one (ps_ret pe_bl)) pss_nil)
    (pss_cons (ps_if (pt_cmpR op_eq (pe_ix ix_tup (pv 0) pe_int (fun _ _ => rfl)) pe_str (nomark _)) (pss_one (ps_ret (pe_and (pe_cmpR op_isBl (pe_call G_is_maker (hr.mono (by decide)) (by rfl) T.g_is_maker T.F_is_maker.kp T.b_is_maker .nil pass0 (pa_cons (pe_ix ix_tup (pv 0) pe_int (fun _ _ => rfl)) pa_nil)) pe_bl (nomark _)) (pe_one (pe_call G__law_number (hr.mono (by decide)) (by rfl) T.g__law_number T.F__law_number.kp T.b__law_number .nil pass0 (pa_cons (pe_ix ix_tup (pv 0) pe_int (fun _ _ => rfl)) (pa_cons pe_int (pa_cons pe_int pa_nil)))))))) pss_nil)
    (pss_cons (ps_if (pt_cmpR op_eq (pe_ix ix_tup (pv 0) pe_int (fun _ _ => rfl)) pe_str (nomark _)) (pss_one (ps_ret (pe_and (pe_call G__law_all (hr.mono (by decide)) (by rfl) T.g__law_all T.F__law_all.kp T.b__law_all .nil pass0 (pa_cons (pe_slice sl_tupS (pv 0) (po_some pe_int) (po_some pe_int)) (pa_cons pe_int (pa_cons (pe_op op_sub (pv 1) pe_int) pa_nil)))) (pe_one (pe_call G__law_number (hr.mono (by decide)) (by rfl) T.g__law_number T.F__law_number.kp T.b__law_number .nil pass0 (pa_cons (pe_ix ix_tup (pv 0) pe_int (fun _ _ => rfl)) (pa_cons pe_int (pa_cons pe_int pa_nil)))))))) pss_nil)
    (pss_cons (ps_if (pt_cmpR op_eq (pe_ix ix_tup (pv 0) pe_int (fun _ _ => rfl)) pe_str (nomark _)) (pss_cons (ps_if (PW.pt (pw_or (pt_not (pt_val (pe_callB call_isi (by rfl) T.m_isinstance bt_isinstance (pa_cons (pe_ix ix_tup (pv 0) pe_int (fun _ _ => rfl)) (pa_cons (pe_bltn (v := .ty "tuple") (by rfl) T.m_tuple bt_tuple rfl) pa_nil))))) (pw_or1 (pt_not (pt_chain op_le op_le pe_int (pe_callB call_len_seq (by rfl) T.m_len bt_len (pa_cons (pe_ix ix_tup (pv 0) pe_int (fun _ _ => rfl)) pa_nil)) pe_int))))) (pss_one (ps_ret pe_bl)) pss_nil)
    (pss_one (ps_ret (pe_and (pe_call G__law_number (hr.mono (by decide)) (by rfl) T.g__law_number T.F__law_number.kp T.b__law_number .nil pass0 (pa_cons (pe_ix ix_tup (pv 0) pe_int (fun _ _ => rfl)) (pa_cons pe_int (pa_cons (pe_op op_sub (pv 2) pe_int) pa_nil)))) (pe_one (pe_call G__law_all (hr.mono (by decide)) (by rfl) T.g__law_all T.F__law_all.kp T.b__law_all .nil pass0 (pa_cons (pe_ix ix_tup (pv 0) pe_int (fun _ _ => rfl)) (pa_cons pe_int (pa_cons pe_int pa_nil))))))))) pss_nil)
    (pss_cons (ps_if (pt_cmpR op_eq (pe_ix ix_tup (pv 0) pe_int (fun _ _ => rfl)) pe_str (nomark _)) (pss_cons (ps_if (PW.pt (pw_or (pt_not (pt_val (pe_call G__law_all (hr.mono (by decide)) (by rfl) T.g__law_all T.F__law_all.kp T.b__law_all .nil pass0 (pa_cons (pe_slice sl_tupS (pv 0) (po_some pe_int) (po_some pe_int)) (pa_cons pe_int (pa_cons (pe_op op_sub (pv 2) pe_int) pa_nil)))))) (pw_or1 (pt_cmpR op_notBl (pe_call G_is_maker (hr.mono (by decide)) (by rfl) T.g_is_maker T.F_is_maker.kp T.b_is_maker .nil pass0 (pa_cons (pe_ix ix_tup (pv 0) pe_int (fun _ _ => rfl)) pa_nil)) pe_bl (nomark _))))) (pss_one (ps_ret pe_bl)) pss_nil)
    (pss_one (ps_ret (pe_and (pe_call G__law_number (hr.mono (by decide)) (by rfl) T.g__law_number T.F__law_number.kp T.b__law_number .nil pass0 (pa_cons (pe_ix ix_tup (pv 0) pe_int (fun _ _ => rfl)) (pa_cons pe_int (pa_cons pe_int pa_nil)))) (pe_one (pe_call G__law_number (hr.mono (by decide)) (by rfl) T.g__law_number T.F__law_number.kp T.b__law_number .nil pass0 (pa_cons (pe_ix ix_tup (pv 0) pe_int (fun _ _ => rfl)) (pa_cons pe_int (pa_cons (pe_ix ix_tup (pv 0) pe_int (fun _ _ => rfl)) pa_nil))))))))) pss_nil)
    (pss_one (ps_ret (pe_call G__law_all (hr.mono (by decide)) (by rfl) T.g__law_all T.F__law_all.kp T.b__law_all .nil pass0 (pa_cons (pe_slice sl_tupS (pv 0) (po_some pe_int) po_none) (pa_cons pe_int (pa_cons (pe_op op_sub (pv 1) pe_int) pa_nil))))))))))))), ?_⟩
    have no : ¬ Pc ahead many d → ∀ H', Sam H H' → Q (.bl false) H' := fun z H' s => q H' false s ⟨fun e => (by cases e), fun e => absurd e z⟩
    obtain ⟨t, ty, -, -, kt, -, -⟩ := hv.ty (K := K)
    refine ⟨v, rfl, _, _, _, _, _, rfl, .ty "tuple", ty, kt, _, rfl, ?_⟩
    cases d with
    | tuple ds =>
      obtain ⟨a, xs, rfl, np, ha, hx⟩ := hv.tupv
      refine iteF ⟨.ref a, rfl, a, _, rfl, .inr (SqT.mk ha), rfl, _, rfl, ?_⟩
      cases hx with
      | nil =>
        refine iteT (no ?_ H (Sam.refl H))
        rintro ⟨z, ds, n, e, _⟩
        cases e
      | cons t0 tr =>
      rename_i x0 ys d0 dr
      rw [decide_eq_false (show ¬ V.int (((x0 :: ys).length : Nat) : Int) = V.int 0 from fun e => by
        have e := V.int.inj e
        rw [List.length_cons] at e
        omega)]
      obtain ⟨ty0, tyx, -, -, -, ks, -⟩ := t0.ty (K := K)
      refine iteF ⟨.ref a, rfl, a, _, 0, _, rfl, rfl, SqT.mk ha, atI_nat (j := 0) rfl, _, _, _, _, _, rfl, .ty "str", tyx, ks, _, rfl, ?_⟩
      cases d0 with
      | str z =>
        obtain rfl := t0.strv
        refine iteF ?_
        have ll := tr.len
        have bdi := bd.itemsT.2
        have nb1 := bd.itemsT.1
        have lw : dr.length ≤ 15000000 := by
          have h1 := len_wei (.str z :: dr)
          have h2 := bdi.wt
          rw [List.length_cons] at h1
          omega
        have each : ∀ e, e ∈ dr → Bd kb nb wb e := fun e he => (bdi.get (d := e) (List.mem_cons_of_mem _ he)).mono (Nat.le_refl _) (by omega) (Nat.le_refl _)
        refine fun dd nd => ?_
        have s3 := same_newer (o := .dK (mergeK [] d9k)) (same_upd nd (o := .dK [])) nd
        refine ⟨upd_same, d9k, rfl, (show 9 ≤ 15 by decide), ?_⟩
        have hdd : (upd (upd H dd (.dK [])) dd (.dK (mergeK [] d9k))) dd = some (.dK (mergeK [] d9k)) := upd_same
        have s0 : Sam H (upd (upd H dd (.dK [])) dd (.dK (mergeK [] d9k))) := Sam.of s3
        have ha3 := s3 _ _ ha
        have tab3 := s0.tabG tab
        generalize upd (upd H dd (.dK [])) dd (.dK (mergeK [] d9k)) = G at s3 hdd s0 ha3 tab3 ⊢
        have tr3 := tr.same s3
        refine ⟨.ref a, rfl, a, _, rfl, .inr (SqT.mk ha3), .ref dd, rfl, dd, rfl, .inl ⟨_, .inl hdd⟩, .ref a, rfl, a, _, 0, _, rfl, rfl, SqT.mk ha3, atI_nat (j := 0) rfl, _, DGet.k (k := kS z) hdd, ?_⟩
        rw [d9_get z]
        refine ⟨rfl, _, rfl, ?_⟩
        by_cases hz : szN z = (dr.length : Int) + 1
        rotate_left
        · rw [decide_eq_false (show ¬ V.int (((V.str z :: ys).length : Nat) : Int) = V.int (szN z) from fun e => by
            have e := V.int.inj e
            rw [List.length_cons, ll] at e
            exact hz (by omega))]
          exact iteT (no (fun y => hz (pc_sz y)) G s0)
        rw [decide_eq_true (show V.int (((V.str z :: ys).length : Nat) : Int) = V.int (szN z) by
          rw [List.length_cons, ll, hz]
          exact congrArg V.int (by omega))]
        refine iteF ?_
        refine ⟨.ref a, rfl, a, _, 0, _, rfl, rfl, SqT.mk ha3, atI_nat (j := 0) rfl, rfl, _, rfl, ?_⟩
        by_cases w1 : z = "make"
        · subst w1
          rw [decide_eq_true rfl]
          have h3 : dr.length = 2 := by
            have : szN "make" = 3 := by decide +kernel
            omega
          obtain ⟨d1, d2, rfl⟩ : ∃ d1 d2, dr = [d1, d2] := by
            match dr, h3 with
            | [d1, d2], _ => exact ⟨d1, d2, rfl⟩
          obtain ⟨x1, x2, rfl, t1, t2⟩ := tr3.two
          refine iteT ⟨.ref a, rfl, a, _, 1, _, rfl, rfl, SqT.mk ha3, atI_nat (j := 1) rfl, p, x1, d1, kb, nb, wb, rfl, t1, each d1 (by simp), nb60, tab3, fun H1 r s1 hr => ⟨_, _, rfl, rfl, _, rfl, ?_⟩⟩
          cases r with
          | false =>
            refine iteF (no ?_ H1 (s0.trans s1))
            intro s
            obtain ⟨m, k, e, h1, h2⟩ := shp_make (pc_cons s (n := 0) (by decide +kernel)).1
            cases e
            have := hr.mpr h1
            cases this
          | true =>
            refine iteT ⟨.ref a, rfl, a, _, 2, _, rfl, rfl, SqT.mk (s1.tup ha3), atI_nat (j := 2) rfl, p, x2, d2, 0, 64, rfl, t2.sam s1, q H1 _ (s0.trans s1) ⟨fun e => ⟨"make", _, 0, rfl, .make (hr.mp rfl) e, by decide +kernel, fun e he => (by simp at he)⟩, fun s => ?_⟩⟩
            obtain ⟨m, k, e, h1, h2⟩ := shp_make (pc_cons s (n := 0) (by decide +kernel)).1
            cases e
            exact h2
        rw [str_noA w1]
        refine iteF ?_
        refine ⟨.ref a, rfl, a, _, 0, _, rfl, rfl, SqT.mk ha3, atI_nat (j := 0) rfl, rfl, _, rfl, ?_⟩
        by_cases w2 : z = "keep"
        · subst w2
          rw [decide_eq_true rfl]
          have h3 : dr.length = 3 := by
            have : szN "keep" = 4 := by decide +kernel
            omega
          obtain ⟨d1, d2, d3, rfl⟩ : ∃ d1 d2 d3, dr = [d1, d2, d3] := by
            match dr, h3 with
            | [d1, d2, d3], _ => exact ⟨d1, d2, d3, rfl⟩
          obtain ⟨x1, x2, x3, rfl, t1, t2, t3⟩ := tr3.three
          refine iteT ⟨.ref a, rfl, 1, rfl, 3, rfl, a, _, rfl, ha3, fun G2 c s1 hc => ⟨.int (ahead : Nat), rfl, _, _, rfl, rfl, p, c, [x1, x2], [d1, d2], 0, _, rfl, ?_, .cons (t1.same s1) (.cons (t2.same s1) .nil), (show 2 ≤ 16000000 by decide), fun G3 s2 => ⟨_, rfl, ?_⟩⟩⟩
          · rw [hc]
            exact congrArg (fun z => some (HO.tup z)) (cut_1n (V.str "keep") [x1, x2, x3] 2)
          have s4 := s0.trans (Sam.of (s1.trans s2))
          have pcs : Pc ahead many (.tuple (.str "keep" :: [d1, d2, d3])) ↔ allW [d1, d2] 0 ((ahead : Int) - 1) = true ∧ withinD d3 0 1 = true := by
            constructor
            · intro s
              obtain ⟨h1, h2⟩ := pc_cons s (n := 2) (by decide +kernel)
              obtain ⟨_, _, f, e, hf⟩ := shp_keep h1
              cases e
              rw [if_neg (by decide +kernel)] at h2
              exact ⟨allW_iff.mpr h2, hf⟩
            · rintro ⟨h1, h2⟩
              refine ⟨"keep", _, 2, rfl, .keep h2, by decide +kernel, ?_⟩
              rw [if_neg (by decide +kernel)]
              exact allW_iff.mp h1
          cases haw : allW [d1, d2] 0 ((ahead : Int) - 1) with
          | false => exact iteF (no (fun s => by rw [(pcs.mp s).1] at haw; cases haw) _ s4)
          | true =>
            refine iteT ⟨.ref a, rfl, a, _, 3, _, rfl, rfl, SqT.mk ((s1.trans s2) _ _ ha3), atI_nat (j := 3) rfl, p, x3, d3, 0, 1, rfl, t3.same (s1.trans s2), q _ _ s4 ⟨fun e => pcs.mpr ⟨haw, e⟩, fun s => (pcs.mp s).2⟩⟩
        rw [str_noA w2]
        refine iteF ?_
        refine ⟨.ref a, rfl, a, _, 0, _, rfl, rfl, SqT.mk ha3, atI_nat (j := 0) rfl, rfl, _, rfl, ?_⟩
        by_cases w3 : z = "late"
        · subst w3
          rw [decide_eq_true rfl]
          have h3 : dr.length = 2 := by
            have : szN "late" = 3 := by decide +kernel
            omega
          obtain ⟨d1, d2, rfl⟩ : ∃ d1 d2, dr = [d1, d2] := by
            match dr, h3 with
            | [d1, d2], _ => exact ⟨d1, d2, rfl⟩
          obtain ⟨x1, x2, rfl, t1, t2⟩ := tr3.two
          have pcs : Pc ahead many (.tuple (.str "late" :: [d1, d2])) ↔ withinD d1 0 ((many : Int) - 1) = true ∧ isAh d2 = true := by
            constructor
            · intro s
              obtain ⟨h1, h2⟩ := pc_cons s (n := 1) (by decide +kernel)
              obtain ⟨_, f, e, hf⟩ := shp_late h1
              cases e
              rw [if_pos (.inl rfl)] at h2
              exact ⟨h2 d1 (by simp), hf⟩
            · rintro ⟨h1, h2⟩
              refine ⟨"late", _, 1, rfl, .late h2, by decide +kernel, ?_⟩
              rw [if_pos (.inl rfl)]
              intro e he
              have he : e ∈ [d1] := he
              rw [List.mem_singleton.mp he]
              exact h1
          obtain ⟨t', ty', -, -, kt', -, -⟩ := t2.ty (K := K)
          refine iteT ⟨.ref a, rfl, a, _, 2, _, rfl, rfl, SqT.mk ha3, atI_nat (j := 2) rfl, _, _, _, _, _, rfl, .ty "tuple", ty', kt', _, rfl, ?_⟩
          cases d2 with
          | tuple es =>
            obtain ⟨b, zs, rfl, _, hb, hzs⟩ := t2.tupv
            have l2 := hzs.len
            refine iteF ⟨.ref a, rfl, a, _, 2, _, rfl, rfl, SqT.mk ha3, atI_nat (j := 2) rfl, b, _, rfl, .inr (SqT.mk hb), _, _, rfl, rfl, _, rfl, ?_⟩
            have isA : isAh (.tuple es) = (decide (1 ≤ es.length ∧ es.length ≤ 16) && allW es 0 1) := rfl
            by_cases c1 : 1 ≤ es.length
            rotate_left
            · rw [decide_eq_false (by omega)]
              refine iteF ⟨_, rfl, iteT (no (fun s => ?_) _ s0)⟩
              have := (pcs.mp s).2
              rw [isA, decide_eq_false (fun y => c1 y.1)] at this
              cases this
            rw [decide_eq_true (by omega)]
            refine iteT ⟨_, _, rfl, rfl, _, rfl, ?_⟩
            by_cases c2 : es.length ≤ 16
            rotate_left
            · rw [decide_eq_false (by omega)]
              refine iteT (no (fun s => ?_) _ s0)
              have := (pcs.mp s).2
              rw [isA, decide_eq_false (fun y => c2 y.2)] at this
              cases this
            rw [decide_eq_true (by omega)]
            rw [decide_eq_true ⟨c1, c2⟩, Bool.true_and] at isA
            rw [isA] at pcs
            refine iteF ⟨.ref a, rfl, a, _, 1, _, rfl, rfl, SqT.mk ha3, atI_nat (j := 1) rfl, .int (many : Nat), rfl, _, _, rfl, rfl, p, x1, d1, 0, _, rfl, t1, _, rfl, ?_⟩
            cases hw : withinD d1 0 ((many : Int) - 1) with
            | false => exact iteF (no (fun s => by rw [(pcs.mp s).1] at hw; cases hw) _ s0)
            | true =>
              refine iteT ⟨.ref a, rfl, a, _, 2, _, rfl, rfl, SqT.mk ha3, atI_nat (j := 2) rfl, p, b, zs, es, 0, 1, rfl, hb, hzs, by omega, fun G2 s2 => q _ _ (s0.trans (Sam.of s2)) ⟨fun e => pcs.mpr ⟨hw, e⟩, fun s => (pcs.mp s).2⟩⟩
          | _ => exact iteT (no (fun s => by have := (pcs.mp s).2; cases this) _ s0)
        rw [str_noA w3]
        refine iteF ?_
        refine ⟨.ref a, rfl, a, _, 0, _, rfl, rfl, SqT.mk ha3, atI_nat (j := 0) rfl, rfl, _, rfl, ?_⟩
        by_cases w4 : z = "keeper"
        · subst w4
          rw [decide_eq_true rfl]
          have h3 : dr.length = 5 := by
            have : szN "keeper" = 6 := by decide +kernel
            omega
          obtain ⟨d1, d2, d3, d4, d5, rfl⟩ : ∃ d1 d2 d3 d4 d5, dr = [d1, d2, d3, d4, d5] := by
            match dr, h3 with
            | [d1, d2, d3, d4, d5], _ => exact ⟨d1, d2, d3, d4, d5, rfl⟩
          cases tr3 with
          | cons t1 tr4 =>
          obtain ⟨x2, x3, x4, x5, rfl, t2, t3, t4, t5⟩ := tr4.four
          rename_i x1
          have pcs : Pc ahead many (.tuple (.str "keeper" :: [d1, d2, d3, d4, d5])) ↔ allW [d1, d2] 0 ((many : Int) - 1) = true ∧ isMkD d3 ∧ ∃ n : Int, d4 = .int n ∧ (1 ≤ n ∧ n ≤ 64) ∧ withinD d5 0 n = true := by
            constructor
            · intro s
              obtain ⟨h1, h2⟩ := pc_cons s (n := 2) (by decide +kernel)
              obtain ⟨_, _, m, f, n, e, hm, n1, n2, hf⟩ := shp_keeper h1
              cases e
              rw [if_pos (.inr rfl)] at h2
              exact ⟨allW_iff.mpr h2, hm, n, rfl, ⟨n1, n2⟩, hf⟩
            · rintro ⟨h1, h2, n, rfl, ⟨n1, n2⟩, h3⟩
              refine ⟨"keeper", _, 2, rfl, .keeper h2 n1 n2 h3, by decide +kernel, ?_⟩
              rw [if_pos (.inr rfl)]
              exact allW_iff.mp h1
          refine iteT ⟨.ref a, rfl, 1, rfl, 3, rfl, a, _, rfl, ha3, fun G2 c s1 hc => ⟨.int (many : Nat), rfl, _, _, rfl, rfl, p, c, [x1, x2], [d1, d2], 0, _, rfl, ?_, .cons (t1.same s1) (.cons (t2.same s1) .nil), (show 2 ≤ 16000000 by decide), fun G3 s2 => ⟨_, rfl, ?_⟩⟩⟩
          · rw [hc]
            exact congrArg (fun z => some (HO.tup z)) (cut_1n (V.str "keeper") [x1, x2, x3, x4, x5] 2)
          have s12 := s1.trans s2
          have s4 := s0.trans (Sam.of s12)
          cases haw : allW [d1, d2] 0 ((many : Int) - 1) with
          | false => exact iteT (no (fun s => by rw [(pcs.mp s).1] at haw; cases haw) _ s4)
          | true =>
            refine iteF ⟨.ref a, rfl, a, _, 3, _, rfl, rfl, SqT.mk ((s1.trans s2) _ _ ha3), atI_nat (j := 3) rfl, p, x3, d3, kb, nb, wb, rfl, t3.same s12, each d3 (by simp), nb60, (Sam.of s12).tabG tab3, fun H1 r s5 hr => ⟨_, _, rfl, rfl, _, rfl, ?_⟩⟩
            have s6 := s4.trans s5
            have ha6 := s5.tup (s12 _ _ ha3)
            cases r with
            | false =>
              refine iteT (no (fun s => ?_) _ s6)
              have := hr.mpr (pcs.mp s).2.1
              cases this
            | true =>
              refine iteF ⟨.ref a, rfl, a, _, 4, _, rfl, rfl, SqT.mk ha6, atI_nat (j := 4) rfl, p, x4, d4, 1, 64, rfl, (t4.same s12).sam s5, _, rfl, ?_⟩
              cases h4 : withinD d4 1 64 with
              | false =>
                refine iteF (no (fun s => ?_) _ s6)
                obtain ⟨_, _, n, rfl, nn, _⟩ := pcs.mp s
                exact within_no h4 nn
              | true =>
                obtain ⟨n, rfl, b1, b2⟩ := within_is h4
                obtain rfl := t4.intv
                refine iteT ⟨.ref a, rfl, a, _, 5, _, rfl, rfl, SqT.mk ha6, atI_nat (j := 5) rfl, .ref a, rfl, a, _, 4, _, rfl, rfl, SqT.mk ha6, atI_nat (j := 4) rfl, p, x5, d5, 0, n, rfl, (t5.same s12).sam s5, q _ _ s6 ⟨fun e => pcs.mpr ⟨haw, hr.mp rfl, n, rfl, ⟨b1, b2⟩, e⟩, fun s => ?_⟩⟩
                obtain ⟨_, _, n', e, _, h5⟩ := pcs.mp s
                cases e
                exact h5
        rw [str_noA w4]
        refine iteF ?_
        obtain ⟨sn, an⟩ := sz_side hz w1 w2 w3 w4
        have pcs : Pc ahead many (.tuple (.str z :: dr)) ↔ allW dr 0 ((ahead : Int) - 1) = true := by
          constructor
          · intro s
            obtain ⟨h1, h2⟩ := pc_cons s an
            rw [if_neg (fun e => e.elim w3 w4), Int.toNat_natCast, List.take_length] at h2
            exact allW_iff.mpr h2
          · intro h
            refine ⟨z, dr, _, rfl, .side sn, an, ?_⟩
            rw [if_neg (fun e => e.elim w3 w4), Int.toNat_natCast, List.take_length]
            exact allW_iff.mp h
        refine ⟨.ref a, rfl, 1, rfl, a, _, rfl, ha3, fun G2 c s1 hc => ⟨.int (ahead : Nat), rfl, _, _, rfl, rfl, p, c, ys, dr, 0, _, rfl, ?_, tr3.same s1, by omega, fun G3 s2 => q _ _ (s0.trans (Sam.of (s1.trans s2))) ⟨fun e => pcs.mpr e, fun s => pcs.mp s⟩⟩⟩
        rw [hc]
        exact congrArg (fun z => some (HO.tup z)) (cut_hi (V.str z :: ys) 1)
      | _ => exact iteT (no (by rintro ⟨z, ds, n, e, _⟩; cases e) H (Sam.refl H))
    | _ => exact iteT (no (by rintro ⟨z, ds, n, e, _⟩; cases e) H (Sam.refl H))
def sp__law_due {K : PySem.W.Frag} {mg : Str → Option Value} (T : Defs K mg) : Sp := fun vs H Q _ => ∃ (p : Addr → Prop) (v : V) (d : PyData) (kb nb wb : Nat), vs = [v] ∧ Tg p H v d ∧ Bd kb nb wb d ∧ nb ≤ 60 ∧ wb ≤ 15000000 ∧ GxR.TabG H T.P_is_table ∧ ∀ H' r, Sam H H' → (r = true ↔ isMc d) → Q (.bl r) H'
theorem ok__law_due (T : Defs K mg) (TT : Tabs T base) : FnOk P w K mg base CX0 12 T.f__law_due T.fd__law_due ["_law_thing_here"] (sp__law_due T) := by
  have G__law_is_piece : FnOk P w K mg base CX0 11 T.f__law_is_piece T.fd__law_is_piece ["_law_thing_here", "_law_ahead", "_law_many"] (sp__law_is_piece T) := ok__law_is_piece T TT
  refine T.F__law_due.ok sc__law_due (fun vs H Q E h => ?_) (fun cdv A outer s H vs Q E hr h => ?_)
  · obtain ⟨p, v, d, kb, nb, wb, rfl, hv, bd, nb60, wbl, tab, q⟩ := h
    rfl
  · obtain ⟨p, v, d, kb, nb, wb, rfl, hv, bd, nb60, wbl, tab, q⟩ := h
    refine ⟨_, PSs.nox (pss_cons (ps_if (PW.pt (pw_or (pt_not (pt_val (pe_callB call_isi (by rfl) T.m_isinstance bt_isinstance (pa_cons (pv 0) (pa_cons (pe_bltn (v := .ty "tuple") (by rfl) T.m_tuple bt_tuple rfl) pa_nil))))) (pw_or1 (pt_not (pt_chain op_le op_le pe_int (pe_callB call_len_seq (by rfl) T.m_len bt_len (pa_cons (pv 0) pa_nil)) pe_int))))) (pss_one (ps_ret pe_bl)) pss_nil)
    (pss_one (ps_ret (pe_callB (cr_all rfl) (by rfl) T.m_all bt_all (pa_cons (pe_lc (own := [("_law_ahead", 1), ("_law_piece", 2)]) (g := gTup K 2 (gCons (gName 1) (gCons (gName 2) gNil))) (tt := tYes) rfl sc__law_due.nd (pi_enumT (by rfl) T.m_enumerate (pa_cons (pv 0) pa_nil)) (blkOk_by (N := N__law_due) (sc := defScope s__law_due) (by decide +kernel)) (fun _ _ _ _ _ => (pg_tupK (K := K) rfl rfl (pgs_cons (pg_name (i := 1) sc__law_due.nd rfl (.inl rfl)) (pgs_cons (pg_name (i := 2) sc__law_due.nd rfl (.inl rfl)) pgs_nil)))) (fun _ _ _ _ _ => pts_nil) (fun _ _ _ _ _ => (pe_call G__law_is_piece (hr.mono (by decide)) (by rfl) T.g__law_is_piece T.F__law_is_piece.kp T.b__law_is_piece .nil pass0 (pa_cons (pv 2) (pa_cons (pv 1) (pa_cons (pe_callB (lenK (K := K) rfl) (by rfl) T.m_len bt_len (pa_cons (pv 0) pa_nil)) pa_nil)))))) pa_nil))))), ?_⟩
    have hsl : sizeLine = 16777216 := by decide
    have no : ¬ isMc d → ∀ H', Sam H H' → Q (.bl false) H' := fun z H' s => q H' false s ⟨fun e => (by cases e), fun e => absurd e z⟩
    obtain ⟨t, ty, -, -, kt, -, -⟩ := hv.ty (K := K)
    refine ⟨v, rfl, _, _, _, _, _, rfl, .ty "tuple", ty, kt, _, rfl, ?_⟩
    cases d with
    | tuple ds =>
      obtain ⟨a, xs, rfl, np, ha, hx⟩ := hv.tupv
      have ll := hx.len
      have bdi := bd.itemsT.2
      have nb1 := bd.itemsT.1
      refine iteF ⟨.ref a, rfl, a, _, rfl, .inr (SqT.mk ha), _, _, rfl, rfl, _, rfl, ?_⟩
      by_cases c1 : (1 : Int) ≤ (xs.length : Nat)
      rotate_left
      · rw [decide_eq_false c1]
        refine iteF ⟨_, rfl, iteT (no ?_ H (Sam.refl H))⟩
        rintro ⟨ds', e, l, _⟩
        cases e
        omega
      rw [decide_eq_true c1]
      refine iteT ⟨_, _, rfl, rfl, _, rfl, ?_⟩
      by_cases c2 : ((xs.length : Nat) : Int) ≤ 24
      rotate_left
      · rw [decide_eq_false c2]
        refine iteT (no ?_ H (Sam.refl H))
        rintro ⟨ds', e, _, l, _⟩
        cases e
        omega
      rw [decide_eq_true c2]
      refine iteF ⟨.ref a, rfl, a, _, rfl, SqT.mk ha, fun C nC => ?_⟩
      refine lc_it (walk_enumT (K := K) (a := a) (xs := xs)) (fun i G => Sam H G ∧ ∃ rs : List Bool, rs.length = i ∧ (∀ j e r, ds[j]? = some e → rs[j]? = some r → (r = true ↔ Pc j ds.length e)) ∧ G C = some (.lst (rs.map V.bl))) ⟨Sam.of (same_upd nC), [], rfl, fun j e r _ h => (by cases h), upd_same⟩ (fun i G _ h => SqT.mk (h.1.tup ha)) (fun i x G3 G4 hi h y => ?_) (fun G h => ?_)
      · obtain ⟨s3, rs, hrl, hrs, hC⟩ := h
        obtain ⟨t5, x1, x2, rfl, nt5, rfl, e1, e2⟩ := y
        have e1 : some (V.int (i : Nat)) = some x1 := e1
        cases e1
        obtain ⟨e, he, tx⟩ := hx.get e2
        have s4 := s3.trans (Sam.of (same_upd nt5 (o := .tup [.int (i : Nat), x2])))
        refine ⟨t5, _, rfl, SqT.mk upd_same, rfl, _, _, rfl, _, _, rfl, rfl, rfl, yes_ite ?_⟩
        have hC4 := (same_upd nt5 (o := .tup [.int (i : Nat), x2])) _ _ hC
        refine ⟨x2, rfl, _, rfl, .ref a, rfl, a, _, rfl, .inr (SqT.mk (s4.tup ha)), p, x2, e, i, ds.length, kb, nb, wb, ?_, tx.sam s4, (bdi.get (List.mem_of_getElem? he)).mono (Nat.le_refl _) (by omega) (Nat.le_refl _), nb60, wbl, s4.tabG tab, fun H5 r s5 hr => ⟨_, s5.lst hC4, ?_, sam_newer (s4.trans s5) nC, ?_⟩⟩
        · rw [ll]
          rfl
        · have il := (List.getElem?_eq_some_iff.mp e2).1
          rw [List.length_map, hrl]
          omega
        · refine ⟨rs ++ [r], by rw [List.length_append, hrl]; rfl, fun j e' r' ej er => ?_, by rw [upd_same, List.map_append]; rfl⟩
          by_cases jl : j < i
          · rw [List.getElem?_append_left (by omega)] at er
            exact hrs j e' r' ej er
          · have jl2 := (List.getElem?_eq_some_iff.mp er).1
            rw [List.length_append, List.length_singleton, hrl] at jl2
            obtain rfl : j = i := by omega
            rw [List.getElem?_append_right (by omega), hrl, Nat.sub_self] at er
            cases er
            rw [he] at ej
            cases ej
            exact hr
      obtain ⟨sG, rs, hrl, hrs, hC⟩ := h
      refine ⟨C, rs, rfl, SqL.mk hC, q _ _ sG ⟨fun z => ⟨ds, rfl, by omega, by omega, fun i e he => ?_⟩, fun z => ?_⟩⟩
      · have il := (List.getElem?_eq_some_iff.mp he).1
        have h1 : rs[i]? = some rs[i] := List.getElem?_eq_getElem (by omega)
        refine (hrs i e _ he h1).mp ?_
        exact List.all_eq_true.mp z _ (List.getElem_mem _)
      · obtain ⟨ds', e', _, _, hp⟩ := z
        cases e'
        refine List.all_eq_true.mpr fun b hb => ?_
        obtain ⟨i, hi⟩ := List.getElem?_of_mem hb
        have il := (List.getElem?_eq_some_iff.mp hi).1
        have h1 : ds[i]? = some ds[i] := List.getElem?_eq_getElem (by omega)
        exact (hrs i _ b h1 hi).mpr (hp i _ h1)
    | _ => exact iteT (no (by rintro ⟨ds, e, _⟩; cases e) H (Sam.refl H))
/-! k47: things otherwise -/
theorem depA_le {n : Nat} : ∀ {es : List PyData}, (∀ x, x ∈ es → x.depth ≤ n) → PyData.depthAll es ≤ n
  | [], _ => by simp [PyData.depthAll]
  | x :: xs, h => by
    simp only [PyData.depthAll]
    have a := h x List.mem_cons_self
    have b := depA_le (es := xs) fun y hy => h y (List.mem_cons_of_mem _ hy)
    omega
/-- some of the items -/
theorem BdA.sub {k n w : Nat} {ds es : List PyData} (h : BdA k n w ds) (s : ∀ x, x ∈ es → x ∈ ds) : BdA k n (PyData.weightAll es) es :=
  ⟨gdA_all.mpr fun x hx => gdA_all.mp h.g x (s x hx), depA_le fun x hx => depA_mem (s x hx) h.dp, Nat.le_refl _⟩
theorem wei_tk (ds : List PyData) (j : Nat) : PyData.weightAll (ds.take j) ≤ PyData.weightAll ds ∧ PyData.weightAll (ds.drop j) ≤ PyData.weightAll ds := by
  have := weiA_app (ds.take j) (ds.drop j)
  rw [List.take_append_drop] at this
  omega
theorem BdA.tk {k n w : Nat} {ds : List PyData} (h : BdA k n w ds) (j : Nat) : BdA k n w (ds.take j) :=
  (h.sub fun _ hx => List.mem_of_mem_take hx).mono (Nat.le_refl _) (Nat.le_refl _) (Nat.le_trans (wei_tk ds j).1 h.wt)
theorem BdA.dr {k n w : Nat} {ds : List PyData} (h : BdA k n w ds) (j : Nat) : BdA k n w (ds.drop j) :=
  (h.sub fun _ hx => List.mem_of_mem_drop hx).mono (Nat.le_refl _) (Nat.le_refl _) (Nat.le_trans (wei_tk ds j).2 h.wt)
theorem TgA.tk {p : Addr → Prop} {H : Hp} {ds : List PyData} {vs : List V} (h : TgA p H vs ds) (j : Nat) : TgA p H (vs.take j) (ds.take j) := (h.split j).1
theorem TgA.dr {p : Addr → Prop} {H : Hp} {ds : List PyData} {vs : List V} (h : TgA p H vs ds) (j : Nat) : TgA p H (vs.drop j) (ds.drop j) := (h.split j).2
theorem cut_lh (xs : List V) (a b : Nat) (h : a ≤ b) (hb : b ≤ xs.length) : cutV xs (some (a : Nat)) (some (b : Nat)) = (xs.drop a).take (b - a) := by
  unfold cutV
  have e1 : HT.sIx xs.length 0 (some ((a : Nat) : Int)) = a := by
    rw [HT.sIx_nat]
    omega
  have e2 : HT.sIx xs.length xs.length (some ((b : Nat) : Int)) = b := by
    rw [HT.sIx_nat]
    omega
  rw [e1, e2]
def menu11 : List PyData := [.none, .bool true, .bool false, .str "1", .tuple [], .list [], .tuple [.int 1], .tuple [.str "less", .int 0], .int (-1), .tuple [.str "counter", .int 3, .int 1, .int 0], .int 0]
theorem menu11_bd : BdA 21 2 2000 menu11 := ⟨by decide +kernel, by decide +kernel, by decide +kernel⟩
theorem menu11_each {d : PyData} (h : d ∈ menu11) : Bd 21 2 400 d := by
  have g := menu11_bd.get h
  refine ⟨g.g, g.dp, ?_⟩
  have : ∀ d, d ∈ menu11 → d.weight ≤ 400 := by decide +kernel
  exact this d h
def words18 (z : Str) : List Str := ["make", "less", "both", "either", "oneof", "pick", "keep", "late", "keeper", "counter", "turned", "register", "table", "slow", "slip", "", z ++ "s", cutS z none (some (-1))]
def sp__law_thing (_ : PySem.W.Frag) : Sp := fun vs H Q _ => ∃ (p : Addr) (n : Nat) (v : V) (d : PyData) (k m w : Nat), vs = [.ref p, v] ∧ Bx H p n ∧ n < 900000000 ∧ Tg (fun q => q = p) H v d ∧ Bd k m w d ∧ 21 ≤ k ∧ k ≤ 60 ∧ w ≤ 1000000 ∧
  ∀ H' v' d', But p H H' → Bx H' p (n + 2) → Tg (fun q => q = p) H' v' d' → Bd (k + 4) (m + 2) (2 * w + 400) d' → Q v' H'
theorem ok__law_thing (T : Defs K mg) (TT : Tabs T base) : FnOk P w K mg base CX0 2 T.f__law_thing T.fd__law_thing ["_law_box_here", "_law_part"] (sp__law_thing K) := by
  have G__law_take : FnOk P w K mg base CX0 1 T.f__law_take T.fd__law_take ["_law_box_here", "_law_many"] (sp__law_take K) := ok__law_take T TT
  refine T.F__law_thing.ok sc__law_thing (fun vs H Q E h => ?_) (fun cdv A outer s H vs Q E hr h => ?_)
  · obtain ⟨p, n, v, d, k, m, w, rfl, hB, hn, hv, hbd, k2, k60, hw, q⟩ := h
    rfl
  · obtain ⟨p, n, v, d, k, m, w, rfl, hB, hn, hv, hbd, k2, k60, hw, q⟩ := h
    refine ⟨_, PSs.nox (pss_cons (ps_par (i := 2) (j := 3) (by rfl) sc__law_thing.nd rfl rfl (by decide) rfl rfl (pa_cons (pe_call G__law_take (hr.mono (by decide)) (by rfl) T.g__law_take T.F__law_take.kp T.b__law_take .nil pass0 (pa_cons (pv 0) (pa_cons pe_int pa_nil))) (pa_cons (pe_call G__law_take (hr.mono (by decide)) (by rfl) T.g__law_take T.F__law_take.kp T.b__law_take .nil pass0 (pa_cons (pv 0) (pa_cons pe_int pa_nil))) pa_nil)) (by rfl))
    (pss_cons (ps_if (PW.pt (pw_and (pt_val (pe_callB call_isi (by rfl) T.m_isinstance bt_isinstance (pa_cons (pv 1) (pa_cons (pe_bltn (v := .ty "int") (by rfl) T.m_int bt_int rfl) pa_nil)))) (pw_and (pt_not (pt_val (pe_callB call_isi (by rfl) T.m_isinstance bt_isinstance (pa_cons (pv 1) (pa_cons (pe_bltn (v := .ty "bool") (by rfl) T.m_bool bt_bool rfl) pa_nil))))) (pw_and1 (pt_cmpR op_lt (pv 2) pe_int (nomark _)))))) (pss_cons (ps_set (i := 4) sc__law_thing.nd rfl (.inl rfl) (pe_lst (pa_cons pe_int (pa_cons pe_int (pa_cons pe_int (pa_cons pe_int (pa_cons pe_int (pa_cons pe_int (pa_cons pe_int (pa_cons pe_int (pa_cons pe_int (pa_cons pe_int (pa_cons pe_int (pa_cons pe_int (pa_cons pe_int (pa_cons pe_int (pa_cons pe_int (pa_cons pe_int (pa_cons pe_int (pa_cons pe_int pa_nil))))))))))))))))))))
    (pss_one (ps_ret (pe_ix ix_list (pe_lst (pa_cons (pe_op op_sub (pv 1) pe_int) (pa_cons (pe_op op_add (pv 1) pe_int) (pa_cons (pe_op op_sub pe_int (pv 1)) (pa_cons (pe_op op_add (pe_op op_mul (pv 1) pe_int) pe_int) (pa_cons (pe_ix ix_list (pv 4) (pv 3) (fun _ _ => rfl)) pa_nil)))))) (pv 2) (fun _ _ => rfl))))) pss_nil)
    (pss_cons (ps_if (PW.pt (pw_and (pt_val (pe_callB call_isi (by rfl) T.m_isinstance bt_isinstance (pa_cons (pv 1) (pa_cons (pe_bltn (v := .ty "str") (by rfl) T.m_str bt_str rfl) pa_nil)))) (pw_and1 (pt_cmpR op_lt (pv 2) pe_int (nomark _))))) (pss_cons (ps_set (i := 5) sc__law_thing.nd rfl (.inl rfl) (pe_lst (pa_cons pe_str (pa_cons pe_str (pa_cons pe_str (pa_cons pe_str (pa_cons pe_str (pa_cons pe_str (pa_cons pe_str (pa_cons pe_str (pa_cons pe_str (pa_cons pe_str (pa_cons pe_str pa_nil)))))))))))))
    (pss_one (ps_ret (pe_ix ix_list (pe_op op_cat (pv 5) (pe_lst (pa_cons pe_str (pa_cons pe_str (pa_cons pe_str (pa_cons pe_str (pa_cons pe_str (pa_cons (pe_op op_addS (pv 1) pe_str) (pa_cons (pe_slice sl_str (pv 1) po_none (po_some (pe_un un_neg pe_int))) pa_nil))))))))) (pv 3) (fun _ _ => rfl))))) pss_nil)
    (pss_cons (ps_if (PW.pt (pw_and (pt_val (pe_callB call_isi (by rfl) T.m_isinstance bt_isinstance (pa_cons (pv 1) (pa_cons (pe_bltn (v := .ty "tuple") (by rfl) T.m_tuple bt_tuple rfl) pa_nil)))) (pw_and1 (pt_cmpR op_lt (pv 2) pe_int (nomark _))))) (pss_one (ps_ret (pe_ix ix_list (pe_lst (pa_cons (pe_callTy call_list_of (by rfl) T.m_list bt_list (pa_cons (pv 1) pa_nil)) (pa_cons (pe_slice sl_tupS (pv 1) (po_some pe_int) po_none) (pa_cons (pe_op op_catS (pv 1) (pe_slice sl_tupS (pv 1) po_none (po_some pe_int))) pa_nil)))) (pv 2) (fun _ _ => rfl)))) pss_nil)
    (pss_one (ps_ret (pe_ix ix_list (pe_lst (pa_cons pe_non (pa_cons pe_bl (pa_cons pe_bl (pa_cons pe_str (pa_cons (pe_tup pa_nil) (pa_cons (pe_lst pa_nil) (pa_cons (pe_tup (pa_cons pe_int pa_nil)) (pa_cons (pe_tup (pa_cons pe_str (pa_cons pe_int pa_nil))) (pa_cons (pe_un un_neg pe_int) (pa_cons (pe_tup (pa_cons pe_str (pa_cons pe_int (pa_cons pe_int (pa_cons pe_int pa_nil))))) (pa_cons pe_int pa_nil)))))))))))) (pe_op op_mod (pe_op op_add (pv 2) (pe_op op_mul pe_int (pv 3))) pe_int) (fun _ _ => rfl)))))))), ?_⟩
    have hsl : sizeLine = 16777216 := by decide
    refine ⟨.ref p, rfl, p, 8, n, rfl, hB, by decide, by decide, by omega, fun H1 way b1 B1 l1 u1 => ?_⟩
    refine ⟨.ref p, rfl, p, 18, n + 1, rfl, B1, by decide, by decide, by omega, fun H2 few b2 B2 l2 u2 => ⟨_, _, rfl, ?_⟩⟩
    have b12 := b1.trans b2
    have hv2 := hv.but b12
    clear b1 B1 b2
    obtain ⟨t0, ty, ki, kb, kt, ks, -⟩ := hv2.ty (K := K)
    refine nx_via (fun σ Z => σ = [some (.ref p), some v, some (.int way), some (.int few), none, none] ∧ Z = H2) (fun N key => ?_) ?_
    · refine ⟨v, rfl, _, _, _, _, _, rfl, .ty "int", ty, ki, _, rfl, ?_⟩
      cases hv2 with
      | int i =>
        refine iteT ⟨.int i, rfl, _, _, _, _, _, rfl, .ty "bool", ty, kb, _, rfl, iteT ⟨.int way, rfl, _, _, rfl, rfl, _, rfl, ite2 (fun c => ?_) (fun _ => key _ _ ⟨rfl, rfl⟩)⟩⟩
        have c := of_decide_eq_true c
        refine ⟨(show 18 ≤ sizeLine by decide), fun l nl => ?_⟩
        have sl := same_upd nl (o := .lst [.int 0, .int 1, .int 2, .int 5, .int 6, .int 7, .int 15, .int 16, .int 17, .int 23, .int 24, .int 25, .int 31, .int 63, .int 64, .int 65, .int 4096, .int 4097])
        have hl := upd_same (H := H2) (a := l) (o := .lst [.int 0, .int 1, .int 2, .int 5, .int 6, .int 7, .int 15, .int 16, .int 17, .int 23, .int 24, .int 25, .int 31, .int 63, .int 64, .int 65, .int 4096, .int 4097])
        have B3 := B2.same sl
        obtain ⟨bv, ev, bnd, rfl, hb0, hb1⟩ := at_menuV (Pr := fun x => ∃ j : Int, x = .int j ∧ 0 ≤ j ∧ j ≤ 4097) (xs := [.int 0, .int 1, .int 2, .int 5, .int 6, .int 7, .int 15, .int 16, .int 17, .int 23, .int 24, .int 25, .int 31, .int 63, .int 64, .int 65, .int 4096, .int 4097]) l2 u2 (fun x hx => by
          simp only [List.mem_cons, List.not_mem_nil, or_false] at hx
          rcases hx with rfl | rfl | rfl | rfl | rfl | rfl | rfl | rfl | rfl | rfl | rfl | rfl | rfl | rfl | rfl | rfl | rfl | rfl <;> exact ⟨_, rfl, by decide, by decide⟩)
        generalize upd H2 l (.lst [.int 0, .int 1, .int 2, .int 5, .int 6, .int 7, .int 15, .int 16, .int 17, .int 23, .int 24, .int 25, .int 31, .int 63, .int 64, .int 65, .int 4096, .int 4097]) = H3 at sl hl B3 ⊢
        have hi : i.natAbs < 10 ^ k := by
          have := hbd.g
          simp only [gd, decide_eq_true_eq] at this
          exact this
        refine ⟨.int i, rfl, _, _, rfl, rfl, .int i, rfl, _, _, rfl, rfl, .int i, rfl, _, _, rfl, rfl, .int i, rfl, _, _, rfl, rfl, .inr ⟨by decide, by decide⟩, _, _, rfl, rfl, .ref l, rfl, .int few, rfl, l, _, _, _, rfl, rfl, SqL.mk hl, ev, (show 5 ≤ sizeLine by decide), fun l5 nl5 => ?_⟩
        have s5 := same_upd nl5 (o := .lst [.int (i - 1), .int (i + 1), .int (0 - i), .int (i * 1000 + 7), .int bnd])
        obtain ⟨vv, ev2, j, rfl, hj⟩ := at_menuV (Pr := fun x => ∃ j : Int, x = .int j ∧ j.natAbs < 10 ^ (k + 4)) (xs := [.int (i - 1), .int (i + 1), .int (0 - i), .int (i * 1000 + 7), .int bnd]) l1 c (fun x hx => by
          have t1 : 10 ^ (k + 4) = 10000 * 10 ^ k := by rw [Nat.pow_add]; omega
          have t2 : 100 ≤ 10 ^ k := (pow_t (show 2 ≤ k by omega)).1
          simp only [List.mem_cons, List.not_mem_nil, or_false] at hx
          rw [t1]
          generalize 10 ^ k = X at hi t2 ⊢
          rcases hx with rfl | rfl | rfl | rfl | rfl <;> exact ⟨_, rfl, by omega⟩)
        exact ⟨.int way, rfl, l5, _, _, _, rfl, rfl, SqL.mk upd_same, ev2, q _ _ (.int j) (b12.trans (same_but (sl.trans s5))) (B3.same s5) (.int j) ((bd_int hj).mono (Nat.le_refl _) (by omega) (by omega))⟩
      | bl b => exact iteT ⟨.bl b, rfl, _, _, _, _, _, rfl, .ty "bool", ty, kb, _, rfl, iteF (iteF (key _ _ ⟨rfl, rfl⟩))⟩
      | _ => exact iteF (iteF (key _ _ ⟨rfl, rfl⟩))
    rintro σ Z ⟨rfl, rfl⟩
    refine seq_via (fun σ G => σ = [some (.ref p), some v, some (.int way), some (.int few), none, none] ∧ G = Z) (fun N key => ?_) ?_
    · refine ⟨v, rfl, _, _, _, _, _, rfl, .ty "str", ty, ks, _, rfl, ?_⟩
      cases hv2 with
      | str z =>
        refine iteT ⟨.int way, rfl, _, _, rfl, rfl, _, rfl, ite2 (fun c => ?_) (fun _ => key _ _ ⟨rfl, rfl⟩)⟩
        obtain ⟨zo, zl⟩ := bd_len hbd
        have c1 := cutS_length z none (some (-1))
        refine ⟨(show 11 ≤ sizeLine by decide), fun l nl => ?_⟩
        have sl := same_upd nl (o := .lst [.str "make", .str "less", .str "both", .str "either", .str "oneof", .str "pick", .str "keep", .str "late", .str "keeper", .str "counter", .str "turned"])
        have hl := upd_same (H := Z) (a := l) (o := .lst [.str "make", .str "less", .str "both", .str "either", .str "oneof", .str "pick", .str "keep", .str "late", .str "keeper", .str "counter", .str "turned"])
        generalize upd Z l (.lst [.str "make", .str "less", .str "both", .str "either", .str "oneof", .str "pick", .str "keep", .str "late", .str "keeper", .str "counter", .str "turned"]) = H3 at sl hl ⊢
        refine ⟨.ref l, rfl, .str z, rfl, _, _, rfl, rfl, (by
          have : ("s" : Str).length = 1 := (by decide +kernel)
          omega), .str z, rfl, _, rfl, -1, rfl, z, rfl, by omega, (show 7 ≤ sizeLine by decide), fun lb nlb => ?_⟩
        have s2 := same_upd nlb (o := .lst [.str "register", .str "table", .str "slow", .str "slip", .str "", .str (z ++ "s"), .str (cutS z none (some (-1)))])
        have hlb := upd_same (H := H3) (a := lb) (o := .lst [.str "register", .str "table", .str "slow", .str "slip", .str "", .str (z ++ "s"), .str (cutS z none (some (-1)))])
        generalize upd H3 lb (.lst [.str "register", .str "table", .str "slow", .str "slip", .str "", .str (z ++ "s"), .str (cutS z none (some (-1)))]) = H4 at s2 hlb ⊢
        refine ⟨l, lb, _, _, rfl, rfl, s2 _ _ hl, hlb, (show 11 + 7 ≤ sizeLine by decide), fun l3 nl3 => ?_⟩
        have s3 := same_upd nl3 (o := .lst ((words18 z).map V.str))
        obtain ⟨vv, ev, y, rfl, hy1, hy2⟩ := at_menuV (Pr := fun x => ∃ y : Str, x = .str y ∧ PyData.strOk y = true ∧ y.length ≤ w + 10) (xs := (words18 z).map V.str) l2 u2 (fun x hx => by
          simp only [words18, List.map_cons, List.map_nil, List.mem_cons, List.not_mem_nil, or_false] at hx
          rcases hx with rfl | rfl | rfl | rfl | rfl | rfl | rfl | rfl | rfl | rfl | rfl | rfl | rfl | rfl | rfl | rfl | rfl | rfl
          iterate 16 exact ⟨_, rfl, by decide +kernel, Nat.le_trans (show _ ≤ 10 by decide +kernel) (by omega)⟩
          · refine ⟨_, rfl, ok_app zo (by decide +kernel), ?_⟩
            have e : (z ++ "s").length = z.length + ("s" : Str).length := strLen_append _ _
            have : ("s" : Str).length = 1 := by decide +kernel
            omega
          · exact ⟨_, rfl, ok_cut _ _ zo, by omega⟩)
        exact ⟨.int few, rfl, l3, _, _, _, rfl, rfl, SqL.mk upd_same, ev, q _ _ (.str y) (b12.trans (same_but ((sl.trans s2).trans s3))) (((B2.same sl).same s2).same s3) (.str y) ((bd_str hy1).mono (Nat.le_refl _) (by omega) (by omega))⟩
      | _ => exact iteF (iteF (key _ _ ⟨rfl, rfl⟩))
    rintro σ G ⟨rfl, rfl⟩
    refine seq_via (fun σ F => σ = [some (.ref p), some v, some (.int way), some (.int few), none, none] ∧ F = G) (fun N key => ?_) ?_
    · refine ⟨v, rfl, _, _, _, _, _, rfl, .ty "tuple", ty, kt, _, rfl, ?_⟩
      cases hv2 with
      | tup ne ha hx =>
        rename_i a xs ds
        refine iteT ⟨.int way, rfl, _, _, rfl, rfl, _, rfl, ite2 (fun c => ?_) (fun _ => key _ _ ⟨rfl, rfl⟩)⟩
        have c := of_decide_eq_true c
        have lx := hx.len
        have lw := len_wei ds
        have bI := hbd.itemsT.2
        have m1 := hbd.itemsT.1
        have lwt := bI.wt
        refine ⟨.ref a, rfl, a, xs, rfl, .inr (SqT.mk ha), fun l nl => ?_⟩
        have sl := same_upd nl (o := .lst xs)
        have hl := upd_same (H := G) (a := l) (o := .lst xs)
        have lp := ne_new B2 nl
        have B3 := B2.same sl
        have ha3 := sl _ _ ha
        have hx3 := hx.same sl
        generalize upd G l (.lst xs) = H3 at sl hl B3 ha3 hx3 ⊢
        refine ⟨.ref a, rfl, 1, rfl, a, _, rfl, ha3, fun H4 c4 s4 hc4 => ⟨.ref a, rfl, .ref a, rfl, 1, rfl, a, _, rfl, s4 _ _ ha3, fun H5 c5 s5 hc5 => ?_⟩⟩
        refine ⟨a, c5, _, _, rfl, rfl, s5 _ _ (s4 _ _ ha3), hc5, ?_, fun H6 c6 s6 hc6 => ⟨(show 3 ≤ sizeLine by decide), fun l7 nl7 => ?_⟩⟩
        · have := cutV_length xs none (some 1)
          omega
        have s46 := s4.trans (s5.trans s6)
        have s7 := same_upd nl7 (o := .lst [.ref l, .ref c4, .ref c6])
        have s47 := s46.trans s7
        have B7 := B3.same s47
        have e4 : cutV xs (some 1) none = xs.drop 1 := cut_hi xs 1
        rw [e4] at hc4
        have e5 : cutV xs none (some 1) = xs.take 1 := by
          by_cases l1 : 1 ≤ xs.length
          · exact cut_lo xs 1 l1
          · have : xs = [] := List.length_eq_zero_iff.mp (by omega)
            rw [this]
            rfl
        rw [e5] at hc6
        have hc4' := (s5.trans (s6.trans s7)) _ _ hc4
        have hc6' := s7 _ _ hc6
        have hx7 := hx3.same s47
        have all3 : ∀ x, x ∈ [V.ref l, V.ref c4, V.ref c6] → ∃ d', Tg (fun q => q = p) (upd H6 l7 (.lst [.ref l, .ref c4, .ref c6])) x d' ∧ Bd (k + 4) (m + 2) (2 * w + 400) d' := fun x hx' => by
          simp only [List.mem_cons, List.not_mem_nil, or_false] at hx'
          rcases hx' with rfl | rfl | rfl
          · exact ⟨.list ds, .lst lp (s47 _ _ hl) hx7, bI.lst.mono (by omega) (by omega) (by omega)⟩
          · exact ⟨.tuple (ds.drop 1), .tup (B7.ne_tup hc4') hc4' (hx7.dr 1), (bI.dr 1).tup.mono (by omega) (by omega) (by omega)⟩
          · exact ⟨.tuple (ds ++ ds.take 1), .tup (B7.ne_tup hc6') hc6' (hx7.app (hx7.tk 1)), (bI.app (bI.tk 1)).tup.mono (by omega) (by omega) (by omega)⟩
        obtain ⟨vv, ev, d', t', g'⟩ := at_menuV (xs := [V.ref l, V.ref c4, V.ref c6]) l1 c all3
        exact ⟨.int way, rfl, l7, _, _, _, rfl, rfl, SqL.mk upd_same, ev, q _ _ d' (b12.trans (same_but (sl.trans s47))) B7 t' g'⟩
      | _ => exact iteF (iteF (key _ _ ⟨rfl, rfl⟩))
    rintro σ F ⟨rfl, rfl⟩
    clear hv2 ty ki kb kt ks
    refine ⟨Nat.zero_le _, fun t1 n1 => ?_⟩
    have s1 := same_upd n1 (o := .tup [])
    have B3 := B2.same s1
    have k1 : Tg (fun q => q = p) (upd F t1 (.tup [])) (.ref t1) (.tuple []) := .tup (ne_new B2 n1) upd_same .nil
    generalize upd F t1 (.tup []) = F1 at s1 B3 k1 ⊢
    refine ⟨Nat.zero_le _, fun t2 n2 => ?_⟩
    have s2 := same_upd n2 (o := .lst [])
    have B4 := B3.same s2
    have k1 := k1.same s2
    have k2' : Tg (fun q => q = p) (upd F1 t2 (.lst [])) (.ref t2) (.list []) := .lst (ne_new B3 n2) upd_same .nil
    generalize upd F1 t2 (.lst []) = F2 at s2 B4 k1 k2' ⊢
    refine ⟨(show 1 ≤ sizeLine by decide), fun t3 n3 => ?_⟩
    have s3 := same_upd n3 (o := .tup [.int 1])
    have B5 := B4.same s3
    have k1 := k1.same s3
    have k2' := k2'.same s3
    have k3 : Tg (fun q => q = p) (upd F2 t3 (.tup [.int 1])) (.ref t3) (.tuple [.int 1]) := .tup (ne_new B4 n3) upd_same (.cons (.int _) .nil)
    generalize upd F2 t3 (.tup [.int 1]) = F3 at s3 B5 k1 k2' k3 ⊢
    refine ⟨(show 2 ≤ sizeLine by decide), fun t4 n4 => ?_⟩
    have s4 := same_upd n4 (o := .tup [.str "less", .int 0])
    have B6 := B5.same s4
    have k1 := k1.same s4
    have k2' := k2'.same s4
    have k3 := k3.same s4
    have k4 : Tg (fun q => q = p) (upd F3 t4 (.tup [.str "less", .int 0])) (.ref t4) (.tuple [.str "less", .int 0]) := .tup (ne_new B5 n4) upd_same (.cons (.str _) (.cons (.int _) .nil))
    generalize upd F3 t4 (.tup [.str "less", .int 0]) = F4 at s4 B6 k1 k2' k3 k4 ⊢
    refine ⟨_, rfl, (show 4 ≤ sizeLine by decide), fun t5 n5 => ?_⟩
    have s5 := same_upd n5 (o := .tup [.str "counter", .int 3, .int 1, .int 0])
    have B7 := B6.same s5
    have k1 := k1.same s5
    have k2' := k2'.same s5
    have k3 := k3.same s5
    have k4 := k4.same s5
    have k5 : Tg (fun q => q = p) (upd F4 t5 (.tup [.str "counter", .int 3, .int 1, .int 0])) (.ref t5) (.tuple [.str "counter", .int 3, .int 1, .int 0]) := .tup (ne_new B6 n5) upd_same (.cons (.str _) (.cons (.int _) (.cons (.int _) (.cons (.int _) .nil))))
    generalize upd F4 t5 (.tup [.str "counter", .int 3, .int 1, .int 0]) = F5 at s5 B7 k1 k2' k3 k4 k5 ⊢
    refine ⟨(show 11 ≤ sizeLine by decide), fun l nl => ?_⟩
    have sl := same_upd nl (o := .lst [.non, .bl true, .bl false, .str "1", .ref t1, .ref t2, .ref t3, .ref t4, .int (-1), .ref t5, .int 0])
    have ts : TgA (fun q => q = p) (upd F5 l (.lst [.non, .bl true, .bl false, .str "1", .ref t1, .ref t2, .ref t3, .ref t4, .int (-1), .ref t5, .int 0])) [.non, .bl true, .bl false, .str "1", .ref t1, .ref t2, .ref t3, .ref t4, .int (-1), .ref t5, .int 0] menu11 := .cons .non (.cons (.bl _) (.cons (.bl _) (.cons (.str _) (.cons (k1.same sl) (.cons (k2'.same sl) (.cons (k3.same sl) (.cons (k4.same sl) (.cons (.int _) (.cons (k5.same sl) (.cons (.int _) .nil))))))))))
    have sF := (s1.trans (s2.trans (s3.trans (s4.trans (s5.trans sl)))))
    have hl := upd_same (H := F5) (a := l) (o := .lst [.non, .bl true, .bl false, .str "1", .ref t1, .ref t2, .ref t3, .ref t4, .int (-1), .ref t5, .int 0])
    have B8 := B7.same sl
    generalize hv8 : [V.non, .bl true, .bl false, .str "1", .ref t1, .ref t2, .ref t3, .ref t4, .int (-1), .ref t5, .int 0] = vv at ts hl sF B8 ⊢
    have lv : vv.length = 11 := by rw [← hv8]; rfl
    obtain ⟨j, hj⟩ := nat_of (show 0 ≤ (way + 3 * few) % 11 by omega)
    have jl : j < vv.length := by omega
    obtain ⟨dd, hd1, hd2⟩ := ts.get (List.getElem?_eq_getElem jl)
    exact ⟨.int way, rfl, .int few, rfl, _, _, rfl, rfl, .inl ⟨by decide, by decide⟩, _, _, rfl, rfl, _, _, rfl, rfl, (show (0 : Int) < 11 by decide), l, vv, _, vv[j], rfl, rfl, SqL.mk hl, hj ▸ atI_nat (List.getElem?_eq_getElem jl), q _ _ dd (b12.trans (same_but sF)) B8 hd2 ((menu11_each (List.mem_of_getElem? hd1)).mono (by omega) (by omega) (by omega))⟩
theorem wei_sum {ds : List PyData} {j : Nat} {e : PyData} (h : ds[j]? = some e) : PyData.weightAll (ds.take j) + (e.weight + 1) + PyData.weightAll (ds.drop (j + 1)) = PyData.weightAll ds := by
  have := congrArg PyData.weightAll (split_at ds j e h)
  rw [weiA_app, weiA_app] at this
  simp only [PyData.weightAll] at this
  omega
theorem wei_td (ds : List PyData) (j : Nat) : PyData.weightAll (ds.take j) + PyData.weightAll (ds.drop j) = PyData.weightAll ds := by
  have := weiA_app (ds.take j) (ds.drop j)
  rw [List.take_append_drop] at this
  omega
def spr__law_spoilt (D : Nat) (_ : PySem.W.Frag) : Sp := fun vs H Q _ => ∃ (p : Addr) (n : Nat) (v : V) (ds : List PyData) (k m w : Nat), vs = [.ref p, v] ∧ Bx H p n ∧ n + 8 * D < 900000000 ∧ Tg (fun q => q = p) H v (.tuple ds) ∧ Bd k m w (.tuple ds) ∧ 21 ≤ k ∧ k ≤ 60 ∧ w ≤ 1000000 ∧ 1 ≤ ds.length ∧ (PyData.tuple ds).depth < D ∧
  ∀ H' v' ds', But p H H' → Bx H' p (n + 8 * D) → Tg (fun q => q = p) H' v' (.tuple ds') → Bd (k + 4) (m + 2) (5 * w + 400) (.tuple ds') → Q v' H'
theorem no__law_spoilt {K : PySem.W.Frag} {vs : List V} {H : Hp} {Q : VK} {E : XK} (h : spr__law_spoilt 0 K vs H Q E) : False := by
  obtain ⟨p, n, v, ds, k, m, w, _, _, _, _, _, _, _, _, _, z, _⟩ := h
  omega
theorem okr__law_spoilt (T : Defs K mg) (TT : Tabs T base) : ∀ d : Nat, FnOk P w K mg base CX0 (3 + d) T.f__law_spoilt T.fd__law_spoilt ["_law_box_here", "_law_thing_here"] (spr__law_spoilt d K)
  | 0 => ⟨fun _ _ _ _ z => (no__law_spoilt z).elim, fun _ _ _ _ _ _ _ _ _ _ _ _ _ z => (no__law_spoilt z).elim⟩
  | d + 1 => by
    have G__law_take : FnOk P w K mg base CX0 1 T.f__law_take T.fd__law_take ["_law_box_here", "_law_many"] (sp__law_take K) := ok__law_take T TT
    have G__law_thing : FnOk P w K mg base CX0 2 T.f__law_thing T.fd__law_thing ["_law_box_here", "_law_part"] (sp__law_thing K) := ok__law_thing T TT
    have G__law_spoilt : FnOk P w K mg base CX0 (3 + d) T.f__law_spoilt T.fd__law_spoilt ["_law_box_here", "_law_thing_here"] (spr__law_spoilt d K) := okr__law_spoilt T TT d
    show FnOk P w K mg base CX0 ((3 + d) + 1) T.f__law_spoilt T.fd__law_spoilt ["_law_box_here", "_law_thing_here"] (spr__law_spoilt (d + 1) K)
    refine T.F__law_spoilt.ok sc__law_spoilt (fun vs H Q E h => ?_) (fun cdv A outer s H vs Q E hr h => ?_)
    · obtain ⟨p, n, v, ds, k, m, w, rfl, hB, hn, hv, hbd, k2, k60, hw, hl1, hd, q⟩ := h
      rfl
    · obtain ⟨p, n, v, ds, k, m, w, rfl, hB, hn, hv, hbd, k2, k60, hw, hl1, hd, q⟩ := h
      refine ⟨_, PSs.nox (pss_cons (ps_par3 (i := 2) (j := 3) (l := 4) (by rfl) sc__law_spoilt.nd rfl rfl rfl (by decide) (by decide) (by decide) rfl rfl rfl (pa_cons (pe_call G__law_take (hr.mono (by omega)) (by rfl) T.g__law_take T.F__law_take.kp T.b__law_take .nil pass0 (pa_cons (pv 0) (pa_cons pe_int pa_nil))) (pa_cons (pe_call G__law_take (hr.mono (by omega)) (by rfl) T.g__law_take T.F__law_take.kp T.b__law_take .nil pass0 (pa_cons (pv 0) (pa_cons (pe_callB call_len_seq (by rfl) T.m_len bt_len (pa_cons (pv 1) pa_nil)) pa_nil))) (pa_cons (pe_call G__law_take (hr.mono (by omega)) (by rfl) T.g__law_take T.F__law_take.kp T.b__law_take .nil pass0 (pa_cons (pv 0) (pa_cons pe_int pa_nil))) pa_nil))) (by rfl))
    (pss_cons (ps_if (PW.pt (pw_and (pt_val (pe_callB call_isi (by rfl) T.m_isinstance bt_isinstance (pa_cons (pe_ix ix_tup (pv 1) (pv 3) (fun _ _ => rfl)) (pa_cons (pe_bltn (v := .ty "tuple") (by rfl) T.m_tuple bt_tuple rfl) pa_nil)))) (pw_and (pt_cmpR op_gt (pe_callB call_len_seq (by rfl) T.m_len bt_len (pa_cons (pe_ix ix_tup (pv 1) (pv 3) (fun _ _ => rfl)) pa_nil)) pe_int (nomark _)) (pw_and1 (pt_cmpR op_gt (pv 4) pe_int (nomark _)))))) (pss_one (ps_ret (pe_op op_catS (pe_op op_catS (pe_slice sl_tupS (pv 1) po_none (po_some (pv 3))) (pe_tup (pa_cons (pe_call G__law_spoilt (hr.mono (by omega)) (by rfl) T.g__law_spoilt T.F__law_spoilt.kp T.b__law_spoilt .nil pass0 (pa_cons (pv 0) (pa_cons (pe_ix ix_tup (pv 1) (pv 3) (fun _ _ => rfl)) pa_nil))) pa_nil))) (pe_slice sl_tupS (pv 1) (po_some (pe_op op_add (pv 3) pe_int)) po_none)))) pss_nil)
    (pss_cons (ps_if (pt_cmpR op_eq (pv 2) pe_int (nomark _)) (pss_one (ps_ret (pe_op op_catS (pe_slice sl_tupS (pv 1) po_none (po_some (pv 3))) (pe_slice sl_tupS (pv 1) (po_some (pe_op op_add (pv 3) pe_int)) po_none)))) pss_nil)
    (pss_cons (ps_if (pt_cmpR op_eq (pv 2) pe_int (nomark _)) (pss_one (ps_ret (pe_op op_catS (pe_op op_catS (pe_slice sl_tupS (pv 1) po_none (po_some (pv 3))) (pe_tup (pa_cons (pe_ix ix_tup (pv 1) (pv 3) (fun _ _ => rfl)) pa_nil))) (pe_slice sl_tupS (pv 1) (po_some (pv 3)) po_none)))) pss_nil)
    (pss_cons (ps_if (pt_cmpR op_eq (pv 2) pe_int (nomark _)) (pss_cons (ps_set (i := 5) sc__law_spoilt.nd rfl (.inl rfl) (pe_call G__law_take (hr.mono (by omega)) (by rfl) T.g__law_take T.F__law_take.kp T.b__law_take .nil pass0 (pa_cons (pv 0) (pa_cons (pe_callB call_len_seq (by rfl) T.m_len bt_len (pa_cons (pv 1) pa_nil)) pa_nil))))
    (pss_cons (ps_par (i := 6) (j := 7) (by rfl) sc__law_spoilt.nd rfl rfl (by decide) rfl rfl (pa_cons (pe_callB (call_min2 rfl) (by rfl) T.m_min bt_min (pa_cons (pv 3) (pa_cons (pv 5) pa_nil))) (pa_cons (pe_callB (call_max2 rfl) (by rfl) T.m_max bt_max (pa_cons (pv 3) (pa_cons (pv 5) pa_nil))) pa_nil)) (by rfl))
    (pss_one (ps_if (pt_cmpR op_lt (pv 6) (pv 7) (nomark _)) (pss_one (ps_ret (pe_op op_catS (pe_op op_catS (pe_op op_catS (pe_op op_catS (pe_slice sl_tupS (pv 1) po_none (po_some (pv 6))) (pe_tup (pa_cons (pe_ix ix_tup (pv 1) (pv 7) (fun _ _ => rfl)) pa_nil))) (pe_slice sl_tupS (pv 1) (po_some (pe_op op_add (pv 6) pe_int)) (po_some (pv 7)))) (pe_tup (pa_cons (pe_ix ix_tup (pv 1) (pv 6) (fun _ _ => rfl)) pa_nil))) (pe_slice sl_tupS (pv 1) (po_some (pe_op op_add (pv 7) pe_int)) po_none)))) pss_nil)))) pss_nil)
    (pss_one (ps_ret (pe_op op_catS (pe_op op_catS (pe_slice sl_tupS (pv 1) po_none (po_some (pv 3))) (pe_tup (pa_cons (pe_call G__law_thing (hr.mono (by omega)) (by rfl) T.g__law_thing T.F__law_thing.kp T.b__law_thing .nil pass0 (pa_cons (pv 0) (pa_cons (pe_ix ix_tup (pv 1) (pv 3) (fun _ _ => rfl)) pa_nil))) pa_nil))) (pe_slice sl_tupS (pv 1) (po_some (pe_op op_add (pv 3) pe_int)) po_none))))))))), ?_⟩
      have hsl : sizeLine = 16777216 := by decide
      obtain ⟨a, xs, rfl, np, ha, hx⟩ := hv.tupv
      have lx := hx.len
      have lw := len_wei ds
      have bI := hbd.itemsT.2
      have m1 := hbd.itemsT.1
      have lwt := bI.wt
      refine ⟨.ref p, rfl, p, 6, n, rfl, hB, by decide, by decide, by omega, fun H1 way b1 B1 l1 u1 => ?_⟩
      have ha1 := b1 _ _ np ha
      refine ⟨.ref p, rfl, .ref a, rfl, a, _, rfl, .inr (SqT.mk ha1), p, _, n + 1, rfl, B1, by omega, by omega, by omega, fun H2 at_ b2 B2 l2 u2 => ?_⟩
      refine ⟨.ref p, rfl, p, 4, n + 2, rfl, B2, by decide, by decide, by omega, fun H3 deep b3 B3 l3 u3 => ⟨_, _, _, rfl, ?_⟩⟩
      have b13 := b1.trans (b2.trans b3)
      have ha3 := b13 _ _ np ha
      have hx3 := hx.but b13
      obtain ⟨j, rfl⟩ := nat_of l2
      have jl : j < xs.length := by omega
      have hxj : xs[j]? = some xs[j] := List.getElem?_eq_getElem jl
      obtain ⟨e, he, te⟩ := hx3.get hxj
      have be := bI.get (List.mem_of_getElem? he)
      have we := weiA_mem (List.mem_of_getElem? he)
      have ws := wei_sum he
      have wd := wei_td ds j
      have bm : ∀ es : List PyData, (∀ y, y ∈ es → y ∈ ds) → BdA (k + 4) (m + 1) (PyData.weightAll es) es := fun es h => (bI.sub h).mono (by omega) (by omega) (Nat.le_refl _)
      clear b1 b2 b3 B1 B2 ha1
      generalize xs[j] = x at hxj te
      have cutlo : ∀ i : Nat, i ≤ xs.length → cutV xs none (some (i : Nat)) = xs.take i := fun i h => cut_lo xs i h
      have cuthi : ∀ i : Nat, cutV xs (some ((i : Nat) + 1 : Int)) none = xs.drop (i + 1) := fun i => cut_hi xs (i + 1)
      have out3 : ∀ (G : Hp) (y : V) (dy : PyData) (i wy : Nat), But p H G → Bx G p (n + 8 * (d + 1)) → Tg (fun q => q = p) G y dy → Bd (k + 4) (m + 1) wy dy → PyData.weightAll (ds.take j) + (wy + 1) + PyData.weightAll (ds.drop i) ≤ 5 * w + 400 → TgA (fun q => q = p) G xs ds →
          ∀ G2 c4, Same G G2 → G2 c4 = some (.tup (xs.take j ++ [y] ++ xs.drop i)) → Q (.ref c4) G2 := fun G y dy i wy bG BG ty gy hwt tx G2 c4 sG h4 => by
        have B4 := BG.same sG
        refine q G2 _ (ds.take j ++ [dy] ++ ds.drop i) (bG.trans (same_but sG)) B4 (.tup (B4.ne_tup h4) h4 ((((tx.tk j).app (.cons ty .nil)).app (tx.dr i)).same sG)) ?_
        have g := ((bm (ds.take j) fun _ h => List.mem_of_mem_take h).app (BdA.one gy)).app (bm (ds.drop i) fun _ h => List.mem_of_mem_drop h)
        exact (g.mono (Nat.le_refl _) (show _ ≤ m + 1 by omega) (show _ ≤ 5 * w + 400 by omega)).tup
      refine nx_via (fun σ Z => σ = [some (.ref p), some (.ref a), some (.int way), some (.int (j : Nat)), some (.int deep), none, none, none] ∧ Z = H3) (fun N key => ?_) ?_
      · obtain ⟨t0, ty, -, -, kt, -, -⟩ := te.ty (K := K)
        refine ⟨.ref a, rfl, .int (j : Nat), rfl, a, _, _, _, rfl, rfl, SqT.mk ha3, atI_nat hxj, _, _, _, _, _, rfl, .ty "tuple", ty, kt, _, rfl, ?_⟩
        cases te with
        | tup ne hb hy =>
          rename_i b ys es
          have ly := hy.len
          refine iteT ⟨.ref a, rfl, .int (j : Nat), rfl, a, _, _, _, rfl, rfl, SqT.mk ha3, atI_nat hxj, b, _, rfl, .inr (SqT.mk hb), _, _, rfl, rfl, _, rfl, ?_⟩
          by_cases c1 : 0 < ys.length
          rotate_left
          · rw [decide_eq_false (by omega)]
            exact iteF (iteF (key _ _ ⟨rfl, rfl⟩))
          rw [decide_eq_true (by omega)]
          refine iteT ⟨.int deep, rfl, _, _, rfl, rfl, _, rfl, ite2 (fun _ => ?_) (fun _ => key _ _ ⟨rfl, rfl⟩)⟩
          refine ⟨.ref a, rfl, .int (j : Nat), rfl, (j : Nat), rfl, a, _, rfl, ha3, fun G1 c1' s1 hc1 => ?_⟩
          rw [cutlo j (by omega)] at hc1
          have dd : (PyData.tuple es).depth < d := by
            have := depA_mem (List.mem_of_getElem? he) (Nat.le_refl _)
            simp only [PyData.depth] at hd this ⊢
            omega
          refine ⟨.ref p, rfl, .ref a, rfl, .int (j : Nat), rfl, a, _, _, _, rfl, rfl, SqT.mk (s1 _ _ ha3), atI_nat hxj, p, n + 3, .ref b, es, k, m - 1, (PyData.tuple es).weight, rfl, B3.same s1, by omega, (Tg.tup (p := fun q => q = p) ne hb hy).same s1, ⟨be.g, be.dp, Nat.le_refl _⟩, k2, k60, by omega, by omega, dd, fun G2 y' ds' b2 B2 t2 g2 => ⟨(show 1 ≤ sizeLine by decide), fun c2 n2 => ?_⟩⟩
          have np1 : c1' ≠ p := (B3.same s1).ne_tup hc1
          have s2 := same_upd n2 (o := .tup [y'])
          have hc2 := upd_same (H := G2) (a := c2) (o := .tup [y'])
          have hc1b := s2 _ _ (b2 _ _ np1 hc1)
          have ha4 := s2 _ _ (b2 _ _ np (s1 _ _ ha3))
          have t2' := t2.same s2
          have B2' := B2.same s2
          have b14 : But p H (upd G2 c2 (.tup [y'])) := ((b13.trans (same_but s1)).trans b2).trans (same_but s2)
          generalize upd G2 c2 (.tup [y']) = G3 at s2 hc2 hc1b ha4 t2' B2' b14 ⊢
          refine ⟨c1', c2, _, _, rfl, rfl, hc1b, hc2, by simp only [List.length_take, List.length_singleton]; omega, fun G4 c4 s4 hc4 => ?_⟩
          refine ⟨.ref a, rfl, .int (j : Nat), rfl, _, _, rfl, rfl, _, rfl, a, _, rfl, s4 _ _ ha4, fun G5 c5 s5 hc5 => ?_⟩
          rw [cuthi j] at hc5
          refine ⟨c4, c5, _, _, rfl, rfl, s5 _ _ hc4, hc5, by simp only [List.length_append, List.length_take, List.length_singleton, List.length_drop]; omega, fun G6 c6 s6 hc6 => ?_⟩
          exact out3 G3 y' (.tuple ds') (j + 1) _ b14 (B2'.mono (by omega)) t2' (g2.mono (Nat.le_refl _) (by omega) (Nat.le_refl _)) (by omega) (hx.but b14) G6 c6 (s4.trans (s5.trans s6)) hc6
        | _ => exact iteF (iteF (key _ _ ⟨rfl, rfl⟩))
      rintro σ Z ⟨rfl, rfl⟩
      refine ⟨.int way, rfl, rfl, _, rfl, ite2 (fun _ => ?_) (fun _ => ?_)⟩
      · refine ⟨.ref a, rfl, .int (j : Nat), rfl, (j : Nat), rfl, a, _, rfl, ha3, fun G4 c4 s4 hc4 => ?_⟩
        rw [cutlo j (by omega)] at hc4
        refine ⟨.ref a, rfl, .int (j : Nat), rfl, _, _, rfl, rfl, _, rfl, a, _, rfl, s4 _ _ ha3, fun G5 c5 s5 hc5 => ?_⟩
        rw [cuthi j] at hc5
        refine ⟨c4, c5, _, _, rfl, rfl, s5 _ _ hc4, hc5, by simp only [List.length_take, List.length_drop]; omega, fun G6 c6 s6 hc6 => ?_⟩
        have s46 := s4.trans (s5.trans s6)
        have B6 := B3.same s46
        refine q G6 _ (ds.take j ++ ds.drop (j + 1)) (b13.trans (same_but s46)) (B6.mono (by omega)) (.tup (B6.ne_tup hc6) hc6 (((hx3.tk j).app (hx3.dr (j + 1))).same s46)) ?_
        exact (((bm (ds.take j) fun _ h => List.mem_of_mem_take h).app (bm (ds.drop (j + 1)) fun _ h => List.mem_of_mem_drop h)).mono (Nat.le_refl _) (show _ ≤ m + 1 by omega) (show _ ≤ 5 * w + 400 by omega)).tup
      refine ⟨.int way, rfl, rfl, _, rfl, ite2 (fun _ => ?_) (fun _ => ?_)⟩
      · refine ⟨.ref a, rfl, .int (j : Nat), rfl, (j : Nat), rfl, a, _, rfl, ha3, fun G4 c4 s4 hc4 => ?_⟩
        rw [cutlo j (by omega)] at hc4
        refine ⟨.ref a, rfl, .int (j : Nat), rfl, a, _, _, _, rfl, rfl, SqT.mk (s4 _ _ ha3), atI_nat hxj, (show 1 ≤ sizeLine by decide), fun c2 n2 => ?_⟩
        have s2 := same_upd n2 (o := .tup [x])
        have hc2 := upd_same (H := G4) (a := c2) (o := .tup [x])
        generalize upd G4 c2 (.tup [x]) = G3 at s2 hc2 ⊢
        have s42 := s4.trans s2
        refine ⟨c4, c2, _, _, rfl, rfl, s2 _ _ hc4, hc2, by simp only [List.length_take, List.length_singleton]; omega, fun G5 c5 s5 hc5 => ?_⟩
        refine ⟨.ref a, rfl, .int (j : Nat), rfl, (j : Nat), rfl, a, _, rfl, s5 _ _ (s42 _ _ ha3), fun G6 c6 s6 hc6 => ?_⟩
        rw [cut_hi xs j] at hc6
        refine ⟨c5, c6, _, _, rfl, rfl, s6 _ _ hc5, hc6, by simp only [List.length_append, List.length_take, List.length_singleton, List.length_drop]; omega, fun G7 c7 s7 hc7 => ?_⟩
        exact out3 G3 x e j e.weight (b13.trans (same_but s42)) ((B3.same s42).mono (by omega)) (te.same s42) ⟨(be.mono (show k ≤ k + 4 by omega) (Nat.le_refl _) (Nat.le_refl _)).g, by have := be.dp; omega, Nat.le_refl _⟩ (by omega) (hx3.same s42) G7 c7 (s5.trans (s6.trans s7)) hc7
      refine nx_via (fun σ Z' => ∃ y5 y6 y7, σ = [some (.ref p), some (.ref a), some (.int way), some (.int (j : Nat)), some (.int deep), y5, y6, y7] ∧ But p H Z' ∧ Bx Z' p (n + 4)) (fun N key => ?_) ?_
      · refine ⟨.int way, rfl, rfl, _, rfl, ite2 (fun _ => ?_) (fun _ => key _ _ ⟨_, _, _, rfl, b13, B3.mono (by omega)⟩)⟩
        refine ⟨.ref p, rfl, .ref a, rfl, a, _, rfl, .inr (SqT.mk ha3), p, _, n + 3, rfl, B3, by omega, by omega, by omega, fun H4 o b4 B4 l4 u4 => ?_⟩
        have b14 := b13.trans b4
        have ha4 := b14 _ _ np ha
        have hx4 := hx.but b14
        obtain ⟨o, rfl⟩ := nat_of l4
        refine ⟨.int (j : Nat), rfl, .int (o : Nat), rfl, _, _, rfl, .int (j : Nat), rfl, .int (o : Nat), rfl, _, _, rfl, _, _, rfl, ?_⟩
        obtain ⟨lo, e1⟩ : ∃ lo : Nat, (if (o : Int) < (j : Int) then (o : Int) else (j : Int)) = (lo : Int) := ⟨min o j, by split <;> omega⟩
        obtain ⟨hi, e2⟩ : ∃ hi : Nat, (if (o : Int) > (j : Int) then (o : Int) else (j : Int)) = (hi : Int) := ⟨max o j, by split <;> omega⟩
        have lohi : lo ≤ hi ∧ hi < xs.length := by
          split at e1 <;> split at e2 <;> omega
        try dsimp only
        rw [e1, e2]
        refine ⟨.int (lo : Nat), rfl, .int (hi : Nat), rfl, _, _, rfl, rfl, _, rfl, ite2 (fun c => ?_) (fun _ => key _ _ ⟨_, _, _, rfl, b14, B4⟩)⟩
        have c := of_decide_eq_true c
        have lh : lo < hi := by omega
        obtain ⟨xl, hxl⟩ : ∃ xl, xs[lo]? = some xl := ⟨_, List.getElem?_eq_getElem (by omega)⟩
        obtain ⟨xh, hxh⟩ : ∃ xh, xs[hi]? = some xh := ⟨_, List.getElem?_eq_getElem (by omega)⟩
        obtain ⟨el, hel, tl⟩ := hx4.get hxl
        obtain ⟨eh, heh, th⟩ := hx4.get hxh
        have bl := bI.get (List.mem_of_getElem? hel)
        have bh := bI.get (List.mem_of_getElem? heh)
        have wl := weiA_mem (List.mem_of_getElem? hel)
        have wh := weiA_mem (List.mem_of_getElem? heh)
        refine ⟨.ref a, rfl, .int (lo : Nat), rfl, (lo : Nat), rfl, a, _, rfl, ha4, fun G1 c1 s1 hc1 => ?_⟩
        rw [cutlo lo (by omega)] at hc1
        refine ⟨.ref a, rfl, .int (hi : Nat), rfl, a, _, _, _, rfl, rfl, SqT.mk (s1 _ _ ha4), atI_nat hxh, (show 1 ≤ sizeLine by decide), fun c2 n2 => ?_⟩
        have s2 := same_upd n2 (o := .tup [xh])
        have hc2 := upd_same (H := G1) (a := c2) (o := .tup [xh])
        generalize upd G1 c2 (.tup [xh]) = G2 at s2 hc2 ⊢
        refine ⟨c1, c2, _, _, rfl, rfl, s2 _ _ hc1, hc2, by simp only [List.length_take, List.length_singleton]; omega, fun G3 c3 s3 hc3 => ?_⟩
        have s13 := s1.trans (s2.trans s3)
        refine ⟨.ref a, rfl, .int (lo : Nat), rfl, _, _, rfl, rfl, _, rfl, .int (hi : Nat), rfl, (hi : Nat), rfl, a, _, rfl, s13 _ _ ha4, fun G4 c4 s4 hc4 => ?_⟩
        rw [show (some ((lo : Nat) + 1 : Int)) = some ((lo + 1 : Nat) : Int) from rfl, cut_lh xs (lo + 1) hi (by omega) (by omega)] at hc4
        refine ⟨c3, c4, _, _, rfl, rfl, s4 _ _ hc3, hc4, by simp only [List.length_append, List.length_take, List.length_singleton, List.length_drop]; omega, fun G5 c5 s5 hc5 => ?_⟩
        have s15 := s13.trans (s4.trans s5)
        refine ⟨.ref a, rfl, .int (lo : Nat), rfl, a, _, _, _, rfl, rfl, SqT.mk (s15 _ _ ha4), atI_nat hxl, (show 1 ≤ sizeLine by decide), fun c6 n6 => ?_⟩
        have s6 := same_upd n6 (o := .tup [xl])
        have hc6 := upd_same (H := G5) (a := c6) (o := .tup [xl])
        generalize upd G5 c6 (.tup [xl]) = G6 at s6 hc6 ⊢
        refine ⟨c5, c6, _, _, rfl, rfl, s6 _ _ hc5, hc6, by simp only [List.length_append, List.length_take, List.length_singleton, List.length_drop]; omega, fun G7 c7 s7 hc7 => ?_⟩
        have s17 := s15.trans (s6.trans s7)
        refine ⟨.ref a, rfl, .int (hi : Nat), rfl, _, _, rfl, rfl, _, rfl, a, _, rfl, s17 _ _ ha4, fun G8 c8 s8 hc8 => ?_⟩
        rw [cuthi hi] at hc8
        refine ⟨c7, c8, _, _, rfl, rfl, s8 _ _ hc7, hc8, by simp only [List.length_append, List.length_take, List.length_singleton, List.length_drop]; omega, fun G9 c9 s9 hc9 => ?_⟩
        have s19 := s17.trans (s8.trans s9)
        have B9 := B4.same s19
        refine q G9 _ (ds.take lo ++ [eh] ++ (ds.drop (lo + 1)).take (hi - (lo + 1)) ++ [el] ++ ds.drop (hi + 1)) (b14.trans (same_but s19)) (B9.mono (by omega)) (.tup (B9.ne_tup hc9) hc9 ((((((hx4.tk lo).app (.cons th .nil)).app ((hx4.dr (lo + 1)).tk _)).app (.cons tl .nil)).app (hx4.dr (hi + 1))).same s19)) ?_
        have g := ((((bI.tk lo).app (BdA.one bh)).app ((bI.dr (lo + 1)).tk (hi - (lo + 1)))).app (BdA.one bl)).app (bI.dr (hi + 1))
        refine (BdA.mono (w := PyData.weightAll (ds.take lo ++ [eh] ++ (ds.drop (lo + 1)).take (hi - (lo + 1)) ++ [el] ++ ds.drop (hi + 1))) (bm _ fun y hy => ?_) (Nat.le_refl _) (Nat.le_refl _) ?_).tup
        · simp only [List.mem_append, List.mem_singleton] at hy
          rcases hy with (((hy | rfl) | hy) | rfl) | hy
          · exact List.mem_of_mem_take hy
          · exact List.mem_of_getElem? heh
          · exact List.mem_of_mem_drop (List.mem_of_mem_take hy)
          · exact List.mem_of_getElem? hel
          · exact List.mem_of_mem_drop hy
        · simp only [weiA_app, PyData.weightAll]
          have a1 := (wei_tk ds lo).1
          have a2 := (wei_tk (ds.drop (lo + 1)) (hi - (lo + 1))).1
          have a3 := (wei_tk ds (lo + 1)).2
          have a4 := (wei_tk ds (hi + 1)).2
          omega
      rintro σ Z' ⟨y5, y6, y7, rfl, b14, B4⟩
      have ha4 := b14 _ _ np ha
      have hx4 := hx.but b14
      obtain ⟨e', he', te4⟩ := hx4.get hxj
      obtain rfl : e' = e := by
        rw [he] at he'
        exact (Option.some.inj he').symm
      refine ⟨.ref a, rfl, .int (j : Nat), rfl, (j : Nat), rfl, a, _, rfl, ha4, fun G1 c1 s1 hc1 => ?_⟩
      rw [cutlo j (by omega)] at hc1
      refine ⟨.ref p, rfl, .ref a, rfl, .int (j : Nat), rfl, a, _, _, _, rfl, rfl, SqT.mk (s1 _ _ ha4), atI_nat hxj, p, n + 4, x, e', k, m - 1, e'.weight, rfl, B4.same s1, by omega, te4.same s1, ⟨be.g, be.dp, Nat.le_refl _⟩, k2, k60, by omega, fun G2 y' d' b2 B2 t2 g2 => ⟨(show 1 ≤ sizeLine by decide), fun c2 n2 => ?_⟩⟩
      have np1 : c1 ≠ p := (B4.same s1).ne_tup hc1
      have s2 := same_upd n2 (o := .tup [y'])
      have hc2 := upd_same (H := G2) (a := c2) (o := .tup [y'])
      have hc1b := s2 _ _ (b2 _ _ np1 hc1)
      have ha5 := s2 _ _ (b2 _ _ np (s1 _ _ ha4))
      have t2' := t2.same s2
      have B2' := B2.same s2
      have b15 : But p H (upd G2 c2 (.tup [y'])) := ((b14.trans (same_but s1)).trans b2).trans (same_but s2)
      generalize upd G2 c2 (.tup [y']) = G3 at s2 hc2 hc1b ha5 t2' B2' b15 ⊢
      refine ⟨c1, c2, _, _, rfl, rfl, hc1b, hc2, by simp only [List.length_take, List.length_singleton]; omega, fun G4 c4 s4 hc4 => ?_⟩
      refine ⟨.ref a, rfl, .int (j : Nat), rfl, _, _, rfl, rfl, _, rfl, a, _, rfl, s4 _ _ ha5, fun G5 c5 s5 hc5 => ?_⟩
      rw [cuthi j] at hc5
      refine ⟨c4, c5, _, _, rfl, rfl, s5 _ _ hc4, hc5, by simp only [List.length_append, List.length_take, List.length_singleton, List.length_drop]; omega, fun G6 c6 s6 hc6 => ?_⟩
      exact out3 G3 y' d' (j + 1) _ b15 (B2'.mono (by omega)) t2' (g2.mono (Nat.le_refl _) (by omega) (Nat.le_refl _)) (by omega) (hx.but b15) G6 c6 (s4.trans (s5.trans s6)) hc6
def sp__law_spoilt (K : PySem.W.Frag) : Sp := spr__law_spoilt 10 K
theorem ok__law_spoilt (T : Defs K mg) (TT : Tabs T base) : FnOk P w K mg base CX0 13 T.f__law_spoilt T.fd__law_spoilt ["_law_box_here", "_law_thing_here"] (sp__law_spoilt K) := okr__law_spoilt T TT 10
/-- a call of a def whose promise holds where no text is being made -/
theorem pe_callG {X : Cx} {CX : CXT} {lv : Nat} {fa : Addr} {fdt : FuncData} {prs : List Str} {pr : Sp} {EE : XK} {nm : Str} {p0 p1 : Pos} {a1 : Expr} {as : List Expr} {ta : TA} {us0 : List Value} {vs0 : List V}
    (none_ : X.A.guards = some []) (G : GOk X.prog X.w X.K X.mg X.base CX lv fa fdt prs pr) (room : Room lv X.A) (gl : Gl X nm) (md : X.mg nm = some (.ref fa)) (kp : PySem.W.keepIn X.K (.ref fa) = true) (bs : Binds X.K fdt prs us0) (rl : Vals vs0 us0) (ps : Passes CX X EE)
    (ar : PA X (a1 :: as) ta) (nd : (nm == ("__debug__" : Str)) = false := by decide) (st : starEach (a1 :: as) X.env = (false, eval a1 X.env) :: starEach as X.env := by rfl) (pl : (backTo p1 (starEach as X.env)).any (·.1) = false := by rfl) :
    PE X (.Call (.Name nm p0) (a1 :: as) [] p1) (tCall pr vs0 EE ta) := by
  constructor
  intro pins s0 σ0 H0 Q0 I0 hh
  have go : ∀ (us : List Value) (s1 : Shared) (vs : List V) (H1 : Hp), Inv X pins σ0 H1 s1 → Vals vs us → pr (vs ++ vs0) H1 Q0 EE → wpAny (model X.prog X.w) X.A (call (.ref fa) us) (EP X pins σ0 Q0) X.xe s1 := fun us s1 vs H1 J rv hp => by
    have both_ : Vals (vs ++ vs0) (us ++ us0) := rv.append rl
    have lns : (us ++ us0).length = prs.length := both_.length.symm.trans (G.len _ _ _ _ hp)
    have body := G.run X.A X.stack s1 H1 ⟨us, []⟩ (us ++ us0) (vs ++ vs0) Q0 EE none_ room J.env0 (bs s1 us J.kIn lns) both_ hp
    refine wpAny_call (codeAny_mono body fun res s2 hres => ?_)
    match res, hres with
    | .ok (.ret u), hres => exact J.after hres
    | .ok .next, hres => exact hres.elim
    | .ok .brk, hres => exact hres.elim
    | .ok .cont, hres => exact hres.elim
    | .error er, hres => exact ps pins σ0 H1 s1 er s2 J hres
  refine wpAny_Call_Name_kw (ld_glob I0 gl md ?_ nd)
  exact PySem.W.callWith_K (h₀ := X.base) I0.ok.mod.kin kp (thn (ar.run p1 pins s0 σ0 H0 _ I0 hh) fun us s1 ⟨vs, H1, J, rv, hp⟩ => ⟨J.kIn, go us s1 vs H1 J rv hp⟩) st pl
theorem kBB : PySem.W.kitOne K (.type "bool") (.type "bool") = some true := kit_ty (by decide +kernel)
structure KT {K : PySem.W.Frag} {mg : Str → Option Value} (T : Defs K mg) (H : Hp) : Prop where
  mt : MTab T H
  tm : GxR.TabG H T.P_is_machine
theorem KT.sam {T : Defs K mg} {H H' : Hp} (h : KT T H) (s : Sam H H') : KT T H' := ⟨h.mt.sam s, s.tabG h.tm⟩
theorem KT.bus {T : Defs K mg} {H H' : Hp} {b : Addr} {n : Nat} (h : KT T H) (B : Bx H b n) (s : Bus b H H') : KT T H' := ⟨⟨s.tabG B h.mt.tb, s.tabG B h.mt.ah, s.tabG B h.mt.pc⟩, s.tabG B h.tm⟩
theorem weiA_rep (ds : List PyData) : ∀ k : Nat, PyData.weightAll (List.replicate k ds).flatten = k * PyData.weightAll ds
  | 0 => by simp [PyData.weightAll]
  | k + 1 => by
    rw [List.replicate_succ, List.flatten_cons, weiA_app, weiA_rep ds k, Nat.succ_mul]
    omega
theorem tgA_rep {p : Addr → Prop} {H : Hp} {ds : List PyData} {vs : List V} (h : TgA p H vs ds) : ∀ k : Nat, TgA p H (List.replicate k vs).flatten (List.replicate k ds).flatten
  | 0 => .nil
  | k + 1 => by
    rw [List.replicate_succ, List.flatten_cons, List.replicate_succ, List.flatten_cons]
    exact h.app (tgA_rep h k)
def sp__law_right {K : PySem.W.Frag} {mg : Str → Option Value} (T : Defs K mg) : Sp := fun vs H Q _ => ∃ (p : Addr → Prop) (v : V) (d : PyData) (kb nb wb : Nat), vs = [v] ∧ Tg p H v d ∧ Bd kb nb wb d ∧ nb ≤ 60 ∧ wb ≤ 15000000 ∧ KT T H ∧ ∀ H', Sam H H' → Q (.bl true) H'
theorem ok__law_right (T : Defs K mg) (TT : Tabs T base) : FnOk P w K mg base CX0 15 T.f__law_right T.fd__law_right ["_law_thing_here"] (sp__law_right T) := by
  have G_is_machine : FnOk P w K mg base CX0 14 T.f_is_machine T.fd_is_machine ["thing"] (sp_is_machine T) := ok_is_machine T TT
  have G__law_due : FnOk P w K mg base CX0 12 T.f__law_due T.fd__law_due ["_law_thing_here"] (sp__law_due T) := ok__law_due T TT
  refine T.F__law_right.ok sc__law_right (fun vs H Q E h => ?_) (fun cdv A outer s H vs Q E hr h => ?_)
  · obtain ⟨p, v, d, kb, nb, wb, rfl, hv, bd, nb60, wbl, kt, q⟩ := h
    rfl
  · obtain ⟨p, v, d, kb, nb, wb, rfl, hv, bd, nb60, wbl, kt, q⟩ := h
    refine ⟨_, PSs.nox (pss_cons ((ps_for PassesOwn.never rfl (pi_range1 (by rfl) T.m_range (pa_cons pe_int pa_nil)) (pg_name (i := 1) sc__law_right.nd rfl (.inl rfl)) (pss_cons (ps_set (i := 2) sc__law_right.nd rfl (.inl rfl) (pe_call G_is_machine (hr.mono (by decide)) (by rfl) T.g_is_machine T.F_is_machine.kp T.b_is_machine .nil pass0 (pa_cons (pv 0) pa_nil)))
    (pss_one (ps_if (PW.pt (pw_or (pt_not (pt_val (pe_callB call_isi (by rfl) T.m_isinstance bt_isinstance (pa_cons (pv 2) (pa_cons (pe_bltn (v := .ty "bool") (by rfl) T.m_bool bt_bool rfl) pa_nil))))) (pw_or1 (pt_cmpR op_ne (pv 2) (pe_call G__law_due (hr.mono (by decide)) (by rfl) T.g__law_due T.F__law_due.kp T.b__law_due .nil pass0 (pa_cons (pv 0) pa_nil)) (nomark _))))) (pss_one (ps_ret pe_bl)) pss_nil)))))
    (pss_one (ps_ret pe_bl))), ?_⟩
    refine ⟨2, rfl, by decide, by decide, for_range (fun i σ G => ∃ y1 y2, σ = [some v, y1, y2] ∧ Sam H G) ⟨none, none, rfl, Sam.refl H⟩ ?_ ?_⟩
    rotate_left
    · rintro σ G ⟨y1, y2, rfl, sG⟩
      exact q G sG
    rintro i σ G hi ⟨y1, y2, rfl, sG⟩
    refine ⟨v, rfl, p, v, d, kb, nb, wb, rfl, hv.sam sG, bd, nb60, (kt.sam sG).mt, (kt.sam sG).tm, fun G1 r s1 hr => ?_⟩
    have s2 := sG.trans s1
    refine ⟨.bl r, rfl, _, _, _, _, _, rfl, .ty "bool", .base (.bl _), kBB, _, rfl, ?_⟩
    refine iteF ⟨.bl r, rfl, v, rfl, p, v, d, kb, nb, wb, rfl, hv.sam s2, bd, nb60, wbl, (kt.sam s2).mt.tb, fun G2 r2 s3 hr2 => ?_⟩
    have er : r = r2 := by
      rw [Bool.eq_iff_iff, hr, hr2]
    subst er
    refine ⟨rfl, _, rfl, ?_⟩
    rw [decide_eq_true rfl]
    exact iteF ⟨_, _, rfl, s2.trans s3⟩
def sp_law {K : PySem.W.Frag} {mg : Str → Option Value} (T : Defs K mg) : Sp := fun vs H Q _ => ∃ (a : Addr) (ns : List Int), vs = [.ref a] ∧ SqL K H a (ns.map V.int) ∧ ns.length ≤ 63 ∧ (GxR.TabG H T.P_is_table ∧ GxR.TabG H T.P_is_ahead ∧ GxR.TabG H T.P_is_piece ∧ GxR.TabG H T.P_is_machine ∧ True) ∧ ∀ H', Q (.bl true) H'
theorem ok_law (T : Defs K mg) (TT : Tabs T base) : FnOk P w K mg base CX0 16 T.f_law T.fd_law ["_law_script"] (sp_law T) := by
  have G__law_folded : FnOk P w K mg base CX0 1 T.f__law_folded T.fd__law_folded ["_law_script", "_law_many"] (sp__law_folded K) := ok__law_folded T TT
  have G__law_box : FnOk P w K mg base CX0 1 T.f__law_box T.fd__law_box ["_law_script", "_law_k"] (sp__law_box K) := ok__law_box T TT
  have G__law_machine : FnOk P w K mg base CX0 5 T.f__law_machine T.fd__law_machine ["_law_box_here", "_law_many", "_law_most", "_law_loops"] (sp__law_machine K) := ok__law_machine T TT
  have G__law_spoilt : FnOk P w K mg base CX0 13 T.f__law_spoilt T.fd__law_spoilt ["_law_box_here", "_law_thing_here"] (sp__law_spoilt K) := ok__law_spoilt T TT
  have G__law_take : FnOk P w K mg base CX0 1 T.f__law_take T.fd__law_take ["_law_box_here", "_law_many"] (sp__law_take K) := ok__law_take T TT
  have G__law_right : FnOk P w K mg base CX0 15 T.f__law_right T.fd__law_right ["_law_thing_here"] (sp__law_right T) := ok__law_right T TT
  have G_is_machine : FnOk P w K mg base CX0 14 T.f_is_machine T.fd_is_machine ["thing"] (sp_is_machine T) := ok_is_machine T TT
  refine T.F_law.ok sc_law (fun vs H Q E h => ?_) (fun cdv A outer s H vs Q E hr h => ?_)
  · obtain ⟨a, ns, rfl, hS, hlen, ⟨g1, g2, g3, g4, _⟩, q⟩ := h
    rfl
  · obtain ⟨a, ns, rfl, hS, hlen, ⟨g1, g2, g3, g4, _⟩, q⟩ := h
    refine ⟨_, PSs.nox (pss_cons (ps_set (i := 1) sc_law.nd rfl (.inl rfl) (pe_call G__law_folded (hr.mono (by decide)) (by rfl) T.g__law_folded T.F__law_folded.kp T.b__law_folded .nil pass0 (pa_cons (pv 0) (pa_cons pe_int pa_nil))))
    (pss_cons ((ps_for PassesOwn.never rfl (pi_range1 (by rfl) T.m_range (pa_cons (pe_callB (call_max2 rfl) (by rfl) T.m_max bt_max (pa_cons pe_int (pa_cons (pe_callB call_len_seq (by rfl) T.m_len bt_len (pa_cons (pv 1) pa_nil)) pa_nil))) pa_nil)) (pg_name (i := 2) sc_law.nd rfl (.inl rfl)) (pss_cons (ps_set (i := 3) sc_law.nd rfl (.inl rfl) (pe_call G__law_box (hr.mono (by decide)) (by rfl) T.g__law_box T.F__law_box.kp T.b__law_box .nil pass0 (pa_cons (pv 1) (pa_cons (pv 2) pa_nil))))
    (pss_cons (ps_set (i := 4) sc_law.nd rfl (.inl rfl) (pe_call G__law_machine (hr.mono (by decide)) (by rfl) T.g__law_machine T.F__law_machine.kp T.b__law_machine .nil pass0 (pa_cons (pv 3) (pa_cons (pe_op op_add pe_int (pe_call G__law_take (hr.mono (by decide)) (by rfl) T.g__law_take T.F__law_take.kp T.b__law_take .nil pass0 (pa_cons (pv 3) (pa_cons (pe_ifExp (pt_cmpR op_eq (pe_call G__law_take (hr.mono (by decide)) (by rfl) T.g__law_take T.F__law_take.kp T.b__law_take .nil pass0 (pa_cons (pv 3) (pa_cons pe_int pa_nil))) pe_int (nomark _)) pe_int pe_int) pa_nil)))) (pa_cons pe_int (pa_cons pe_bl pa_nil))))))
    (pss_cons (ps_if (PW.pt (pw_or (pt_not (pt_val (pe_call G__law_right (hr.mono (by decide)) (by rfl) T.g__law_right T.F__law_right.kp T.b__law_right .nil pass0 (pa_cons (pv 4) pa_nil)))) (pw_or1 (pt_cmpR op_notBl (pe_call G_is_machine (hr.mono (by decide)) (by rfl) T.g_is_machine T.F_is_machine.kp T.b_is_machine .nil pass0 (pa_cons (pv 4) pa_nil)) pe_bl (nomark _))))) (pss_one (ps_ret pe_bl)) pss_nil)
    (pss_cons ((ps_for PassesOwn.never rfl (pi_range1 (by rfl) T.m_range (pa_cons pe_int pa_nil)) (pg_name (i := 5) sc_law.nd rfl (.inl rfl)) (pss_cons (ps_set (i := 6) sc_law.nd rfl (.inl rfl) (pe_call G__law_spoilt (hr.mono (by decide)) (by rfl) T.g__law_spoilt T.F__law_spoilt.kp T.b__law_spoilt .nil pass0 (pa_cons (pv 3) (pa_cons (pv 4) pa_nil))))
    (pss_cons (ps_if (PW.pt (pw_and (pt_cmpR op_eq (pe_call G__law_take (hr.mono (by decide)) (by rfl) T.g__law_take T.F__law_take.kp T.b__law_take .nil pass0 (pa_cons (pv 3) (pa_cons pe_int pa_nil))) pe_int (nomark _)) (pw_and1 (pt_cmpR (op_neD hr.units) (pv 6) (pe_tup pa_nil) (nomark _))))) (pss_one (ps_set (i := 6) sc_law.nd rfl (.inl rfl) (pe_call G__law_spoilt (hr.mono (by decide)) (by rfl) T.g__law_spoilt T.F__law_spoilt.kp T.b__law_spoilt .nil pass0 (pa_cons (pv 3) (pa_cons (pv 6) pa_nil))))) pss_nil)
    (pss_one (ps_if (pt_not (pt_val (pe_call G__law_right (hr.mono (by decide)) (by rfl) T.g__law_right T.F__law_right.kp T.b__law_right .nil pass0 (pa_cons (pv 6) pa_nil)))) (pss_one (ps_ret pe_bl)) pss_nil))))))
    (pss_one ((ps_for PassesOwn.never rfl (pi_tup (pe_tup (pa_cons pe_non (pa_cons pe_bl (pa_cons pe_int (pa_cons pe_str (pa_cons (pe_tup pa_nil) (pa_cons (pe_lst pa_nil) (pa_cons (pe_callTy call_list_of (by rfl) T.m_list bt_list (pa_cons (pv 4) pa_nil)) (pa_cons (pe_tup (pa_cons (pv 4) pa_nil)) (pa_cons (pe_ix ix_tup (pv 4) pe_int (fun _ _ => rfl)) (pa_cons (pe_op op_repA (pv 4) pe_int) (pa_cons (pe_tup (pa_cons (pe_tup pa_nil) pa_nil)) pa_nil))))))))))))) (pg_name (i := 6) sc_law.nd rfl (.inl rfl)) (pss_one (ps_if (pt_not (pt_val (pe_call G__law_right (hr.mono (by decide)) (by rfl) T.g__law_right T.F__law_right.kp T.b__law_right .nil pass0 (pa_cons (pv 6) pa_nil)))) (pss_one (ps_ret pe_bl)) pss_nil)))))))))))
    (pss_one (ps_ret pe_bl)))), ?_⟩
    have hsl : sizeLine = 16777216 := by decide
    have kt0 : KT T H := ⟨⟨g1, g2, g3⟩, g4⟩
    refine ⟨.ref a, rfl, a, ns, 5, rfl, hS, hlen, by decide, by decide, fun H1 c cs s1 nc hc lc => ?_⟩
    have kt1 := kt0.sam (Sam.of s1)
    refine ⟨.ref c, rfl, c, _, rfl, .inl (SqL.mk hc), _, _, rfl, _, rfl, ?_, ?_, for_range (fun i σ H2 => ∃ y2 y3 y4 y5 y6, σ = [some (.ref a), some (.ref c), y2, y3, y4, y5, y6] ∧ Sam H1 H2) ⟨none, none, none, none, none, rfl, Sam.refl H1⟩ ?_ ?_⟩
    · split <;> omega
    · have := List.length_map V.int (as := cs)
      split <;> omega
    rotate_left
    · rintro σ H2 ⟨y2, y3, y4, y5, y6, rfl, s2⟩
      exact q _
    rintro i σ H2 hi ⟨y2, y3, y4, y5, y6, rfl, s2⟩
    have hi2 : i < 1000 := by
      have := List.length_map V.int (as := cs)
      split at hi <;> omega
    refine ⟨.ref c, rfl, .int (0 + (i : Int)), rfl, c, cs, i, by rw [Int.zero_add]; rfl, SqL.mk (s2.lst hc), hi2, fun H3 b s3 nb hB => ?_⟩
    have nb1 : H1 b = none := s2.free nb
    have s13 := s2.trans (Sam.of s3)
    have kt3 := kt1.sam s13
    refine nx_via (fun σ Z => ∃ (t : Addr) (xs : List V) (Ps : List Pie) (n : Nat), σ = [some (.ref a), some (.ref c), some (.int (0 + (i : Int))), some (.ref b), some (.ref t), y5, y6] ∧ But b H3 Z ∧ Bx Z b 40000 ∧ Z t = some (.tup xs) ∧ PisAt Z Ps xs ∧ Ps.length = n ∧ 1 ≤ n ∧ n ≤ 24 ∧ PsOk n Ps) (fun N key => ?_) ?_
    · refine ⟨.ref b, rfl, .ref b, rfl, .ref b, rfl, b, 8, _, rfl, hB, by decide, by decide, by decide, fun H4 r4 c4 B4 l4 u4 => ⟨rfl, _, rfl, ?_⟩⟩
      refine ite2 (fun _ => ?_) (fun _ => ?_)
      all_goals
        refine ⟨b, _, _, rfl, B4, by decide, by decide, by omega, fun H5 r5 c5 B5 l5 u5 => ?_⟩
        obtain ⟨r, rfl⟩ := nat_of l5
        exact ⟨_, _, rfl, rfl, b, _, r + 1, 8, true, congrArg (fun z => [V.ref b, V.int z, V.int 8, V.bl true]) (by omega), B5, by omega, by omega, by omega, by decide, by decide, fun H6 t xs Ps b6 B6 ht hp lp ok => key _ _ ⟨t, xs, Ps, r + 1, rfl, (c4.trans c5).trans b6, B6.mono (by omega), ht, hp, lp, by omega, by omega, ok⟩⟩
    clear y2 y3 y4
    rintro σ Z ⟨t, xs, Ps, n, rfl, bZ, BZ, ht, hp, lp, n1, n24, ok⟩
    have ktZ := kt3.bus hB (Bus.of bZ)
    have bd : Bd 21 7 170000 (.tuple (Ps.map Pie.data)) := (ok.bd (by omega) n24).tup
    have mc := pis_mc ok lp n1 n24
    have tgM : ∀ (F : Hp) (k : Nat), Bx F b k → Bus b Z F → F t = some (.tup xs) ∧ PisAt F Ps xs ∧ Tg (fun q => q = b) F (.ref t) (.tuple (Ps.map Pie.data)) := fun F k B s => by
      have h1 := s.tup BZ ht
      have h2 := hp.keep fun _ _ e => s.tup BZ e
      exact ⟨h1, h2, .tup (B.ne_tup h1) h1 (pis_tg (fun a xs e => B.ne_tup e) h2)⟩
    have hm := (tgM Z _ BZ (Bus.refl b Z)).2.2
    refine ⟨.ref t, rfl, _, .ref t, _, 21, 7, 170000, rfl, hm, bd, by decide, by decide, ktZ, fun Y sY => ⟨_, rfl, iteF ⟨.ref t, rfl, _, .ref t, _, 21, 7, 170000, rfl, hm.sam sY, bd, by decide, (ktZ.sam sY).mt, (ktZ.sam sY).tm, fun X r sX hr => ?_⟩⟩⟩
    obtain rfl : r = true := hr.mpr mc
    refine ⟨_, _, rfl, rfl, _, rfl, iteF ?_⟩
    have sZX := sY.trans sX
    have BX := BZ.sam sZX
    have ktX := ktZ.sam sZX
    clear hr sY sX
    refine ⟨12, rfl, by decide, by decide, for_range (fun j σ F => ∃ y5 y6, σ = [some (.ref a), some (.ref c), some (.int (0 + (i : Int))), some (.ref b), some (.ref t), y5, y6] ∧ Bus b X F ∧ Bx F b (40000 + 400 * j)) ⟨_, _, rfl, Bus.refl b X, BX⟩ ?_ ?_⟩
    · clear y5 y6
      rintro j σ F hj ⟨y5, y6, rfl, sF, BF⟩
      have j2 : j < 12 := hj
      have ktF := ktX.bus BX sF
      obtain ⟨htF, hpF, hmF⟩ := tgM F _ BF ((Bus.sam sZX).trans sF)
      refine ⟨.ref b, rfl, .ref t, rfl, b, _, .ref t, Ps.map Pie.data, 21, 7, 170000, rfl, BF, by omega, hmF, bd, by decide, by decide, by decide, by rw [List.length_map]; omega, Nat.lt_of_le_of_lt bd.dp (by decide), fun F1 v1 ds1 c1 B1 t1 g1 => ?_⟩
      refine nx_via (fun σ W => ∃ (w : V) (ds2 : List PyData), σ = [some (.ref a), some (.ref c), some (.int (0 + (i : Int))), some (.ref b), some (.ref t), some (.int (0 + (j : Int))), some w] ∧ But b F W ∧ Bx W b (40000 + 400 * j + 300) ∧ Tg (fun q => q = b) W w (.tuple ds2) ∧ Bd 29 11 4300000 (.tuple ds2)) (fun N key => ?_) ?_
      · refine ⟨.ref b, rfl, b, 3, _, rfl, B1, by decide, by decide, by omega, fun F2 r2 c2 B2 l2 u2 => ⟨rfl, _, rfl, ?_⟩⟩
        have c12 := c1.trans c2
        have t12 := t1.but c2
        have g1' : Bd 29 11 4300000 (.tuple ds1) := g1.mono (by decide) (by decide) (by decide)
        by_cases z : V.int r2 = V.int 0
        rotate_left
        · rw [decide_eq_false z]
          exact iteF (iteF (key _ _ ⟨v1, ds1, rfl, c12, B2.mono (by omega), t12, g1'⟩))
        rw [decide_eq_true z]
        refine iteT ⟨v1, rfl, Nat.zero_le _, fun tt ntt => ?_⟩
        have s0 := same_upd ntt (o := .tup [])
        refine ⟨.tuple ds1, .tuple [], (t12.same s0).dp, .tup (SqT.mk upd_same) .nil, g1.shaped (by decide), rfl, _, rfl, ?_⟩
        have t12 := t12.same s0
        have B2 := B2.same s0
        have c12 := c12.trans (same_but s0)
        generalize upd F2 tt (.tup []) = F3 at s0 t12 B2 c12 ⊢
        cases ds1 with
        | nil =>
          rw [show PyData.eqv (.tuple []) (.tuple []) = true from rfl]
          exact iteF (key _ _ ⟨v1, [], rfl, c12, B2.mono (by omega), t12, g1'⟩)
        | cons d0 dr =>
          rw [show PyData.eqv (.tuple (d0 :: dr)) (.tuple []) = false from rfl]
          refine iteT ⟨.ref b, rfl, v1, rfl, b, _, v1, d0 :: dr, 25, 9, 850400, rfl, B2, by omega, t12, g1, by decide, by decide, by decide, by rw [List.length_cons]; omega, Nat.lt_of_le_of_lt g1.dp (by decide), fun F4 v4 ds4 c4 B4 t4 g4 => ?_⟩
          exact key _ _ ⟨v4, ds4, rfl, c12.trans c4, B4.mono (by omega), t4, g4.mono (by decide) (by decide) (by decide)⟩
      rintro σ W ⟨w, ds2, rfl, bW, BW, tw, gw⟩
      refine ⟨w, rfl, _, w, .tuple ds2, 29, 11, 4300000, rfl, tw, gw, by decide, by decide, ktF.bus BF (Bus.of bW), fun Y sY => ⟨_, rfl, iteF ?_⟩⟩
      exact ⟨_, _, rfl, sF.trans ((Bus.of bW).trans (Bus.sam sY)), (BW.sam sY).mono (by omega)⟩
    clear y5 y6
    rintro σ F ⟨y5, y6, rfl, sF, BF⟩
    have sZF := (Bus.sam sZX).trans sF
    have ktF := ktX.bus BX sF
    obtain ⟨htF, hpF, hmF⟩ := tgM F _ BF sZF
    obtain ⟨x0, hx0⟩ : ∃ x0, xs[0]? = some x0 := ⟨_, List.getElem?_eq_getElem (by have := hp.len; omega)⟩
    refine ⟨Nat.zero_le _, fun t1 n1' => ?_⟩
    have s1' := same_upd n1' (o := .tup [])
    have B1 := BF.same s1'
    have k1 : Tg (fun q => q = b) (upd F t1 (.tup [])) (.ref t1) (.tuple []) := .tup (ne_new BF n1') upd_same .nil
    generalize upd F t1 (.tup []) = F1 at s1' B1 k1 ⊢
    refine ⟨Nat.zero_le _, fun t2 n2 => ?_⟩
    have s2' := same_upd n2 (o := .lst [])
    have B2 := B1.same s2'
    have k1 := k1.same s2'
    have k2 : Tg (fun q => q = b) (upd F1 t2 (.lst [])) (.ref t2) (.list []) := .lst (ne_new B1 n2) upd_same .nil
    have s2' := s1'.trans s2'
    generalize upd F1 t2 (.lst []) = F2 at s2' B2 k1 k2 ⊢
    have u2 : Bus b Z F2 := sZF.trans (Bus.of (same_but s2'))
    obtain ⟨ht2, hp2, hm2⟩ := tgM F2 _ B2 u2
    refine ⟨.ref t, rfl, t, xs, rfl, .inr (SqT.mk ht2), fun t3 n3 => ?_⟩
    have s3' := same_upd n3 (o := .lst xs)
    have B3 := B2.same s3'
    have k1 := k1.same s3'
    have k2 := k2.same s3'
    have k3 : Tg (fun q => q = b) (upd F2 t3 (.lst xs)) (.ref t3) (.list (Ps.map Pie.data)) := .lst (ne_new B2 n3) upd_same ((pis_tg (fun a xs e => B2.ne_tup e) hp2).same s3')
    have s3' := s2'.trans s3'
    generalize upd F2 t3 (.lst xs) = F3 at s3' B3 k1 k2 k3 ⊢
    obtain ⟨ht3, hp3, hm3⟩ := tgM F3 _ B3 (sZF.trans (Bus.of (same_but s3')))
    refine ⟨.ref t, rfl, (show 1 ≤ sizeLine by decide), fun t4 n4 => ?_⟩
    have s4' := same_upd n4 (o := .tup [.ref t])
    have B4 := B3.same s4'
    have k1 := k1.same s4'
    have k2 := k2.same s4'
    have k3 := k3.same s4'
    have k4 : Tg (fun q => q = b) (upd F3 t4 (.tup [.ref t])) (.ref t4) (.tuple [.tuple (Ps.map Pie.data)]) := .tup (ne_new B3 n4) upd_same (.cons (hm3.same s4') .nil)
    have s4' := s3'.trans s4'
    generalize upd F3 t4 (.tup [.ref t]) = F4 at s4' B4 k1 k2 k3 k4 ⊢
    obtain ⟨ht4, hp4, hm4⟩ := tgM F4 _ B4 (sZF.trans (Bus.of (same_but s4')))
    refine ⟨.ref t, rfl, t, _, _, _, rfl, rfl, SqT.mk ht4, atI_nat (j := 0) hx0, .ref t, rfl, t, 25, xs, rfl, rfl, SqT.mk ht4, ?_, by decide, by have := hp.len; omega, fun z => absurd z (by decide), fun _ t5 n5 => ?_⟩
    · rintro rfl
      cases hx0
    have s5' := same_upd n5 (o := .tup (List.replicate 25 xs).flatten)
    have B5 := B4.same s5'
    have k1 := k1.same s5'
    have k2 := k2.same s5'
    have k3 := k3.same s5'
    have k4 := k4.same s5'
    have k5 : Tg (fun q => q = b) (upd F4 t5 (.tup (List.replicate 25 xs).flatten)) (.ref t5) (.tuple (List.replicate 25 (Ps.map Pie.data)).flatten) := .tup (ne_new B4 n5) upd_same (tgA_rep ((pis_tg (fun a xs e => B4.ne_tup e) hp4).same s5') 25)
    have s5' := s4'.trans s5'
    generalize upd F4 t5 (.tup (List.replicate 25 xs).flatten) = F5 at s5' B5 k1 k2 k3 k4 k5 ⊢
    refine ⟨Nat.zero_le _, fun t6 n6 => ?_⟩
    have s6' := same_upd n6 (o := .tup [])
    have B6 := B5.same s6'
    have k1 := k1.same s6'
    have k2 := k2.same s6'
    have k3 := k3.same s6'
    have k4 := k4.same s6'
    have k5 := k5.same s6'
    have k6 : Tg (fun q => q = b) (upd F5 t6 (.tup [])) (.ref t6) (.tuple []) := .tup (ne_new B5 n6) upd_same .nil
    have s6' := s5'.trans s6'
    generalize upd F5 t6 (.tup []) = F6 at s6' B6 k1 k2 k3 k4 k5 k6 ⊢
    refine ⟨(show 1 ≤ sizeLine by decide), fun t7 n7 => ?_⟩
    have s7' := same_upd n7 (o := .tup [.ref t6])
    have B7 := B6.same s7'
    have k1 := k1.same s7'
    have k2 := k2.same s7'
    have k3 := k3.same s7'
    have k4 := k4.same s7'
    have k5 := k5.same s7'
    have k7 : Tg (fun q => q = b) (upd F6 t7 (.tup [.ref t6])) (.ref t7) (.tuple [.tuple []]) := .tup (ne_new B6 n7) upd_same (.cons (k6.same s7') .nil)
    have s7' := s6'.trans s7'
    generalize upd F6 t7 (.tup [.ref t6]) = F7 at s7' B7 k1 k2 k3 k4 k5 k7 ⊢
    obtain ⟨ht7, hp7, hm7⟩ := tgM F7 _ B7 (sZF.trans (Bus.of (same_but s7')))
    refine ⟨(show 11 ≤ sizeLine by decide), fun tt ntt => ?_⟩
    have s8' := same_upd ntt (o := .tup [.non, .bl true, .int 7, .str "make", .ref t1, .ref t2, .ref t3, .ref t4, x0, .ref t5, .ref t7])
    have htt := upd_same (H := F7) (a := tt) (o := .tup [.non, .bl true, .int 7, .str "make", .ref t1, .ref t2, .ref t3, .ref t4, x0, .ref t5, .ref t7])
    have B8 := B7.same s8'
    have s9 := s7'.trans s8'
    have bI := bd.itemsT.2
    have all : ∀ x, x ∈ [V.non, .bl true, .int 7, .str "make", .ref t1, .ref t2, .ref t3, .ref t4, x0, .ref t5, .ref t7] → ∃ d, Tg (fun q => q = b) (upd F7 tt (.tup [.non, .bl true, .int 7, .str "make", .ref t1, .ref t2, .ref t3, .ref t4, x0, .ref t5, .ref t7])) x d ∧ Bd 21 8 4300000 d := fun x hx => by
      simp only [List.mem_cons, List.not_mem_nil, or_false] at hx
      rcases hx with rfl | rfl | rfl | rfl | rfl | rfl | rfl | rfl | rfl | rfl | rfl
      · exact ⟨_, .non, ⟨rfl, by decide +kernel, by decide +kernel⟩⟩
      · exact ⟨_, .bl _, ⟨rfl, by decide +kernel, by decide +kernel⟩⟩
      · exact ⟨_, .int _, ⟨by decide +kernel, by decide +kernel, by decide +kernel⟩⟩
      · exact ⟨_, .str _, ⟨by decide +kernel, by decide +kernel, by decide +kernel⟩⟩
      · exact ⟨_, k1.same s8', ⟨by decide +kernel, by decide +kernel, by decide +kernel⟩⟩
      · exact ⟨_, k2.same s8', ⟨by decide +kernel, by decide +kernel, by decide +kernel⟩⟩
      · exact ⟨_, k3.same s8', bI.lst.mono (by decide) (by decide) (by decide)⟩
      · exact ⟨_, k4.same s8', (BdA.one bd).tup.mono (by decide) (by decide) (by decide)⟩
      · obtain ⟨d, hd, td⟩ := ((pis_tg (p := fun q => q = b) (fun a xs e => B7.ne_tup e) hp7).same s8').get hx0
        exact ⟨d, td, (bI.get (List.mem_of_getElem? hd)).mono (by decide) (by decide) (by decide)⟩
      · refine ⟨_, k5.same s8', (BdA.mono (bI.sub (es := (List.replicate 25 (Ps.map Pie.data)).flatten) fun y hy => ?_) (Nat.le_refl _) (Nat.le_refl _) ?_).tup.mono (by decide) (by decide) (Nat.le_refl _)⟩
        · obtain ⟨l, h1, h2⟩ := List.mem_flatten.mp hy
          rw [List.eq_of_mem_replicate h1] at h2
          exact h2
        · rw [weiA_rep]
          have := bI.wt
          omega
      · exact ⟨_, k7.same s8', ⟨by decide +kernel, by decide +kernel, by decide +kernel⟩⟩
    generalize upd F7 tt (.tup [.non, .bl true, .int 7, .str "make", .ref t1, .ref t2, .ref t3, .ref t4, x0, .ref t5, .ref t7]) = F8 at htt B8 s9 all ⊢
    have u8 : Bus b X F8 := sF.trans (Bus.of (same_but s9))
    have kt8 := ktF.sam (Sam.of s9)
    refine ⟨tt, rfl, ⟨_, SqT.mk htt⟩, for_it (walk_tup (xs := [V.non, .bl true, .int 7, .str "make", .ref t1, .ref t2, .ref t3, .ref t4, x0, .ref t5, .ref t7])) (fun n σ G => ∃ y6, σ = [some (.ref a), some (.ref c), some (.int (0 + (i : Int))), some (.ref b), some (.ref t), y5, y6] ∧ Sam F8 G) ⟨_, rfl, Sam.refl F8⟩ ?_ ?_ ?_⟩
    · rintro n σ G _ ⟨_, _, sG⟩
      exact SqT.mk (sG.tup htt)
    rotate_left
    · rintro σ G ⟨y6, rfl, sG⟩
      exact ⟨_, _, _, _, _, rfl, bus_same nb1 s13 ((Bus.of bZ).trans ((Bus.sam sZX).trans (u8.trans (Bus.sam sG))))⟩
    rintro n x σ G G' hx ⟨y6, rfl, sG⟩ ⟨rfl, hx2⟩
    obtain ⟨d, tx, gx⟩ := all x (List.mem_of_getElem? hx2)
    refine ⟨x, rfl, _, x, d, 21, 8, 4300000, rfl, tx.sam sG, gx, by decide, by decide, kt8.sam sG, fun Y sY => ⟨_, rfl, iteF ?_⟩⟩
    exact ⟨_, rfl, sG.trans sY⟩
end
def d_is_number : He.DefD := ⟨("is_number", none), "is_number", "is_number", defArgs s_is_number, defBody s_is_number, defScope s_is_number, [], []⟩
def d_is_within : He.DefD := ⟨("is_within", none), "is_within", "is_within", defArgs s_is_within, defBody s_is_within, defScope s_is_within, [], []⟩
def d_common_divisor : He.DefD := ⟨("common_divisor", none), "common_divisor", "common_divisor", defArgs s_common_divisor, defBody s_common_divisor, defScope s_common_divisor, [], []⟩
def d_is_bit : He.DefD := ⟨("is_bit", none), "is_bit", "is_bit", defArgs s_is_bit, defBody s_is_bit, defScope s_is_bit, [], []⟩
def d_is_table : He.DefD := ⟨("is_table", none), "is_table", "is_table", defArgs s_is_table, defBody s_is_table, defScope s_is_table, [], []⟩
def d_is_plain : He.DefD := ⟨("is_plain", none), "is_plain", "is_plain", defArgs s_is_plain, defBody s_is_plain, defScope s_is_plain, [], []⟩
def d_is_around : He.DefD := ⟨("is_around", none), "is_around", "is_around", defArgs s_is_around, defBody s_is_around, defScope s_is_around, [], []⟩
def d_is_maker : He.DefD := ⟨("is_maker", none), "is_maker", "is_maker", defArgs s_is_maker, defBody s_is_maker, defScope s_is_maker, [], []⟩
def d_counter_round : He.DefD := ⟨("counter_round", none), "counter_round", "counter_round", defArgs s_counter_round, defBody s_counter_round, defScope s_counter_round, [], []⟩
def d_last_for_first : He.DefD := ⟨("last_for_first", none), "last_for_first", "last_for_first", defArgs s_last_for_first, defBody s_last_for_first, defScope s_last_for_first, [], []⟩
def d_size_of : He.DefD := ⟨("size_of", none), "size_of", "size_of", defArgs s_size_of, defBody s_size_of, defScope s_size_of, [], []⟩
def d_turned_round : He.DefD := ⟨("turned_round", none), "turned_round", "turned_round", defArgs s_turned_round, defBody s_turned_round, defScope s_turned_round, [], []⟩
def d_odd_ones : He.DefD := ⟨("odd_ones", none), "odd_ones", "odd_ones", defArgs s_odd_ones, defBody s_odd_ones, defScope s_odd_ones, [], []⟩
def d_held_round : He.DefD := ⟨("held_round", none), "held_round", "held_round", defArgs s_held_round, defBody s_held_round, defScope s_held_round, [], []⟩
def d_plain_round : He.DefD := ⟨("plain_round", none), "plain_round", "plain_round", defArgs s_plain_round, defBody s_plain_round, defScope s_plain_round, [], []⟩
def d_round_of : He.DefD := ⟨("round_of", none), "round_of", "round_of", defArgs s_round_of, defBody s_round_of, defScope s_round_of, [], []⟩
def d_asks_of : He.DefD := ⟨("asks_of", none), "asks_of", "asks_of", defArgs s_asks_of, defBody s_asks_of, defScope s_asks_of, [], []⟩
def d_is_ahead : He.DefD := ⟨("is_ahead", none), "is_ahead", "is_ahead", defArgs s_is_ahead, defBody s_is_ahead, defScope s_is_ahead, [], []⟩
def d_is_shaped : He.DefD := ⟨("is_shaped", none), "is_shaped", "is_shaped", defArgs s_is_shaped, defBody s_is_shaped, defScope s_is_shaped, [], []⟩
def d_is_piece : He.DefD := ⟨("is_piece", none), "is_piece", "is_piece", defArgs s_is_piece, defBody s_is_piece, defScope s_is_piece, [], []⟩
def d_is_machine : He.DefD := ⟨("is_machine", none), "is_machine", "is_machine", defArgs s_is_machine, defBody s_is_machine, defScope s_is_machine, [], []⟩
def d__law_box : He.DefD := ⟨("_law_box", none), "_law_box", "_law_box", defArgs s__law_box, defBody s__law_box, defScope s__law_box, [], []⟩
def d__law_take : He.DefD := ⟨("_law_take", none), "_law_take", "_law_take", defArgs s__law_take, defBody s__law_take, defScope s__law_take, [], []⟩
def d__law_folded : He.DefD := ⟨("_law_folded", none), "_law_folded", "_law_folded", defArgs s__law_folded, defBody s__law_folded, defScope s__law_folded, [], []⟩
def d__law_alone : He.DefD := ⟨("_law_alone", none), "_law_alone", "_law_alone", defArgs s__law_alone, defBody s__law_alone, defScope s__law_alone, [], []⟩
def d__law_maker : He.DefD := ⟨("_law_maker", none), "_law_maker", "_law_maker", defArgs s__law_maker, defBody s__law_maker, defScope s__law_maker, [], []⟩
def d__law_machine : He.DefD := ⟨("_law_machine", none), "_law_machine", "_law_machine", defArgs s__law_machine, defBody s__law_machine, defScope s__law_machine, [], []⟩
def d__law_number : He.DefD := ⟨("_law_number", none), "_law_number", "_law_number", defArgs s__law_number, defBody s__law_number, defScope s__law_number, [], []⟩
def d__law_all : He.DefD := ⟨("_law_all", none), "_law_all", "_law_all", defArgs s__law_all, defBody s__law_all, defScope s__law_all, [], []⟩
def d__law_is_piece : He.DefD := ⟨("_law_is_piece", none), "_law_is_piece", "_law_is_piece", defArgs s__law_is_piece, defBody s__law_is_piece, defScope s__law_is_piece, [], []⟩
def d__law_due : He.DefD := ⟨("_law_due", none), "_law_due", "_law_due", defArgs s__law_due, defBody s__law_due, defScope s__law_due, [], []⟩
def d__law_thing : He.DefD := ⟨("_law_thing", none), "_law_thing", "_law_thing", defArgs s__law_thing, defBody s__law_thing, defScope s__law_thing, [], []⟩
def d__law_spoilt : He.DefD := ⟨("_law_spoilt", none), "_law_spoilt", "_law_spoilt", defArgs s__law_spoilt, defBody s__law_spoilt, defScope s__law_spoilt, [], []⟩
def d__law_right : He.DefD := ⟨("_law_right", none), "_law_right", "_law_right", defArgs s__law_right, defBody s__law_right, defScope s__law_right, [], []⟩
def d_law : He.DefD := ⟨("law", none), "law", "law", defArgs s_law, defBody s_law, defScope s_law, [], []⟩
def hfn : List He.DefD := [d_is_number, d_is_within, d_common_divisor, d_is_bit, d_is_table, d_is_plain, d_is_around, d_is_maker, d_counter_round, d_last_for_first, d_size_of, d_turned_round, d_odd_ones, d_held_round, d_plain_round, d_round_of, d_asks_of, d_is_ahead, d_is_shaped, d_is_piece, d_is_machine, d__law_box, d__law_take, d__law_folded, d__law_alone, d__law_maker, d__law_machine, d__law_number, d__law_all, d__law_is_piece, d__law_due, d__law_thing, d__law_spoilt, d__law_right, d_law]
def hfa : List He.Fa := [.glo "is_number", .glo "is_within", .glo "common_divisor", .glo "is_bit", .glo "is_table", .glo "is_plain", .glo "is_around", .glo "is_maker", .glo "counter_round", .glo "last_for_first", .glo "size_of", .glo "turned_round", .glo "odd_ones", .glo "held_round", .glo "plain_round", .glo "round_of", .glo "asks_of", .glo "is_ahead", .glo "is_shaped", .glo "is_piece", .glo "is_machine", .glo "_law_box", .glo "_law_take", .glo "_law_folded", .glo "_law_alone", .glo "_law_maker", .glo "_law_machine", .glo "_law_number", .glo "_law_all", .glo "_law_is_piece", .glo "_law_due", .glo "_law_thing", .glo "_law_spoilt", .glo "_law_right", .glo "law", .free "abs", .free "all", .free "bool", .free "divmod", .free "enumerate", .free "int", .free "isinstance", .free "len", .free "list", .free "max", .free "min", .free "range", .free "str", .free "tuple", .glo "SIDES", .glo "ASKED", .int "LONGEST" 4096, .int "MOST_AROUND" 3, .int "GREATEST_K" 64, .int "MOST_PIECES" 24, .int "MOST_AHEAD" 16, .int "MOST_HELD" 64]
def hts : List He.Tab := [((fun K => He.ga K "SIDES"), ["less", "both", "either", "oneof", "pick"]), ((fun K => He.ga K "ASKED"), ["make", "less", "both", "either", "oneof", "pick", "keep", "late", "keeper"])]
def htf : List He.Defn := [("is_table", none), ("is_ahead", none), ("is_piece", none), ("is_machine", none)]
abbrev Hex (K : PySem.W.Frag) : Prop := (dicB K (He.ga K "SIDES") dl_SIDES = true) ∧ (dicB K (He.ga K "ASKED") dl_ASKED = true)
instance (K : PySem.W.Frag) : Decidable (Hex K) := inferInstance
def hex : PySem.W.Frag → Bool := fun K => decide (Hex K)
abbrev R : PySem.W.OpenRow := PySem.W.OpenLaw.row PySem.Challenge.rw_shareones_k47_what_is_a_machine
abbrev hk : PySem.W.Hook := He.hookX 4 hfa hfn hts htf hex
def ob (s : PySem.W.SharedT) : He.AlX := He.obsX 4 hfa hfn hts htf hex (HandSHeadRun.getT s)
theorem ob_eq (s : PySem.W.SharedT) : ob s = hk.obs s.abs := He.obsX_eq (HandSHeadRun.getT_eq s)
def loose : List Str := "is_number" :: "is_within" :: "common_divisor" :: "is_bit" :: "is_table" :: "is_plain" :: "is_around" :: "is_maker" :: "counter_round" :: "last_for_first" :: "size_of" :: "turned_round" :: "odd_ones" :: "held_round" :: "plain_round" :: "round_of" :: "asks_of" :: "is_ahead" :: "is_shaped" :: "is_piece" :: "is_machine" :: "_law_box" :: "_law_take" :: "_law_folded" :: "_law_alone" :: "_law_maker" :: "_law_machine" :: "_law_number" :: "_law_all" :: "_law_is_piece" :: "_law_due" :: "_law_thing" :: "_law_spoilt" :: "_law_right" :: "LONGEST" :: "MOST_AROUND" :: "GREATEST_K" :: "SIDES" :: "ASKED" :: "MOST_PIECES" :: "MOST_AHEAD" :: "MOST_HELD" :: []
theorem run (w : World) : HandSHeadRun.RunEq R (PySem.W.view R.prog [47]) hk ob 6000 loose w := PySem.W.byRow2 "special-get-raises" (P := fun w => HandSHeadRun.RunEq R (PySem.W.view R.prog [47]) hk ob 6000 loose w) (fun w => by
  intro os
  kernel_rfl) (fun w => by
  intro os
  kernel_rfl) w
theorem codeAt {K : PySem.W.Frag} {p : He.Defn} : CodeAt K (He.fAd K p) (He.cT K p).1 := fun oc od fd osl lk b e => (He.codeOf_eq lk e).symm
theorem facts {l : PySem.W.OpenLaw} {w : World} {K : PySem.W.Frag} {h : Heap} {mg : Str → Option Value} {f : Addr} (X : K.In h) (G : h.Ns mainGlobals mg) (hfa_ : mg ("law" : Str) = some (.ref f)) (cc : He.SaysX hfa hfn hts htf hex w h K) :
    LamX.LawAtS l w K CX0 16 63 "_law_script" mg f h := by
  have c : He.SaysD hfa hfn K := congrArg (fun z : He.AlT => z.1) cc.t
  obtain ⟨fd_is_number, F_is_number⟩ := c.def_ 0 (d := d_is_number) rfl
  obtain ⟨fd_is_within, F_is_within⟩ := c.def_ 1 (d := d_is_within) rfl
  obtain ⟨fd_common_divisor, F_common_divisor⟩ := c.def_ 2 (d := d_common_divisor) rfl
  obtain ⟨fd_is_bit, F_is_bit⟩ := c.def_ 3 (d := d_is_bit) rfl
  obtain ⟨fd_is_table, F_is_table⟩ := c.def_ 4 (d := d_is_table) rfl
  obtain ⟨fd_is_plain, F_is_plain⟩ := c.def_ 5 (d := d_is_plain) rfl
  obtain ⟨fd_is_around, F_is_around⟩ := c.def_ 6 (d := d_is_around) rfl
  obtain ⟨fd_is_maker, F_is_maker⟩ := c.def_ 7 (d := d_is_maker) rfl
  obtain ⟨fd_counter_round, F_counter_round⟩ := c.def_ 8 (d := d_counter_round) rfl
  obtain ⟨fd_last_for_first, F_last_for_first⟩ := c.def_ 9 (d := d_last_for_first) rfl
  obtain ⟨fd_size_of, F_size_of⟩ := c.def_ 10 (d := d_size_of) rfl
  obtain ⟨fd_turned_round, F_turned_round⟩ := c.def_ 11 (d := d_turned_round) rfl
  obtain ⟨fd_odd_ones, F_odd_ones⟩ := c.def_ 12 (d := d_odd_ones) rfl
  obtain ⟨fd_held_round, F_held_round⟩ := c.def_ 13 (d := d_held_round) rfl
  obtain ⟨fd_plain_round, F_plain_round⟩ := c.def_ 14 (d := d_plain_round) rfl
  obtain ⟨fd_round_of, F_round_of⟩ := c.def_ 15 (d := d_round_of) rfl
  obtain ⟨fd_asks_of, F_asks_of⟩ := c.def_ 16 (d := d_asks_of) rfl
  obtain ⟨fd_is_ahead, F_is_ahead⟩ := c.def_ 17 (d := d_is_ahead) rfl
  obtain ⟨fd_is_shaped, F_is_shaped⟩ := c.def_ 18 (d := d_is_shaped) rfl
  obtain ⟨fd_is_piece, F_is_piece⟩ := c.def_ 19 (d := d_is_piece) rfl
  obtain ⟨fd_is_machine, F_is_machine⟩ := c.def_ 20 (d := d_is_machine) rfl
  obtain ⟨fd__law_box, F__law_box⟩ := c.def_ 21 (d := d__law_box) rfl
  obtain ⟨fd__law_take, F__law_take⟩ := c.def_ 22 (d := d__law_take) rfl
  obtain ⟨fd__law_folded, F__law_folded⟩ := c.def_ 23 (d := d__law_folded) rfl
  obtain ⟨fd__law_alone, F__law_alone⟩ := c.def_ 24 (d := d__law_alone) rfl
  obtain ⟨fd__law_maker, F__law_maker⟩ := c.def_ 25 (d := d__law_maker) rfl
  obtain ⟨fd__law_machine, F__law_machine⟩ := c.def_ 26 (d := d__law_machine) rfl
  obtain ⟨fd__law_number, F__law_number⟩ := c.def_ 27 (d := d__law_number) rfl
  obtain ⟨fd__law_all, F__law_all⟩ := c.def_ 28 (d := d__law_all) rfl
  obtain ⟨fd__law_is_piece, F__law_is_piece⟩ := c.def_ 29 (d := d__law_is_piece) rfl
  obtain ⟨fd__law_due, F__law_due⟩ := c.def_ 30 (d := d__law_due) rfl
  obtain ⟨fd__law_thing, F__law_thing⟩ := c.def_ 31 (d := d__law_thing) rfl
  obtain ⟨fd__law_spoilt, F__law_spoilt⟩ := c.def_ 32 (d := d__law_spoilt) rfl
  obtain ⟨fd__law_right, F__law_right⟩ := c.def_ 33 (d := d__law_right) rfl
  obtain ⟨fd_law, F_law⟩ := c.def_ 34 (d := d_law) rfl
  have e := hfa_.symm.trans (He.glo_ok X G (c.fact 34 (f := .glo "law") rfl))
  cases e
  have b := FunD.bindsA (ps := ["_law_script"]) F_law fun _ _ _ _ _ _ us hl => match us, hl with | [_], _ => rfl
  have hm : Hex K := of_decide_eq_true cc.more
  obtain ⟨h0, h1⟩ := hm
  haveI : DW K w := ⟨cc.t.tab 0 rfl, h0, cc.t.tab 1 rfl, h1⟩
  let T : Defs K mg := ⟨_, fd_is_number, F_is_number, (He.glo_ok X G (c.fact 0 (f := .glo "is_number") rfl)), (FunD.bindsN F_is_number fun _ _ _ _ _ _ us hl => match us, hl with | [_], _ => rfl), _, fd_is_within, F_is_within, (He.glo_ok X G (c.fact 1 (f := .glo "is_within") rfl)), (FunD.bindsN F_is_within fun _ _ _ _ _ _ us hl => match us, hl with | [_, _, _], _ => rfl), _, fd_common_divisor, F_common_divisor, (He.glo_ok X G (c.fact 2 (f := .glo "common_divisor") rfl)), (FunD.bindsN F_common_divisor fun _ _ _ _ _ _ us hl => match us, hl with | [_, _], _ => rfl), _, fd_is_bit, F_is_bit, (He.glo_ok X G (c.fact 3 (f := .glo "is_bit") rfl)), (FunD.bindsN F_is_bit fun _ _ _ _ _ _ us hl => match us, hl with | [_], _ => rfl), _, fd_is_table, F_is_table, (He.glo_ok X G (c.fact 4 (f := .glo "is_table") rfl)), (FunD.bindsN F_is_table fun _ _ _ _ _ _ us hl => match us, hl with | [_], _ => rfl), _, fd_is_plain, F_is_plain, (He.glo_ok X G (c.fact 5 (f := .glo "is_plain") rfl)), (FunD.bindsN F_is_plain fun _ _ _ _ _ _ us hl => match us, hl with | [_], _ => rfl), _, fd_is_around, F_is_around, (He.glo_ok X G (c.fact 6 (f := .glo "is_around") rfl)), (FunD.bindsN F_is_around fun _ _ _ _ _ _ us hl => match us, hl with | [_], _ => rfl), _, fd_is_maker, F_is_maker, (He.glo_ok X G (c.fact 7 (f := .glo "is_maker") rfl)), (FunD.bindsN F_is_maker fun _ _ _ _ _ _ us hl => match us, hl with | [_], _ => rfl), _, fd_counter_round, F_counter_round, (He.glo_ok X G (c.fact 8 (f := .glo "counter_round") rfl)), (FunD.bindsN F_counter_round fun _ _ _ _ _ _ us hl => match us, hl with | [_, _, _], _ => rfl), _, fd_last_for_first, F_last_for_first, (He.glo_ok X G (c.fact 9 (f := .glo "last_for_first") rfl)), (FunD.bindsN F_last_for_first fun _ _ _ _ _ _ us hl => match us, hl with | [_, _], _ => rfl), _, fd_size_of, F_size_of, (He.glo_ok X G (c.fact 10 (f := .glo "size_of") rfl)), (FunD.bindsN F_size_of fun _ _ _ _ _ _ us hl => match us, hl with | [_], _ => rfl), _, fd_turned_round, F_turned_round, (He.glo_ok X G (c.fact 11 (f := .glo "turned_round") rfl)), (FunD.bindsN F_turned_round fun _ _ _ _ _ _ us hl => match us, hl with | [_, _], _ => rfl), _, fd_odd_ones, F_odd_ones, (He.glo_ok X G (c.fact 12 (f := .glo "odd_ones") rfl)), (FunD.bindsN F_odd_ones fun _ _ _ _ _ _ us hl => match us, hl with | [_], _ => rfl), _, fd_held_round, F_held_round, (He.glo_ok X G (c.fact 13 (f := .glo "held_round") rfl)), (FunD.bindsN F_held_round fun _ _ _ _ _ _ us hl => match us, hl with | [_, _, _], _ => rfl), _, fd_plain_round, F_plain_round, (He.glo_ok X G (c.fact 14 (f := .glo "plain_round") rfl)), (FunD.bindsN F_plain_round fun _ _ _ _ _ _ us hl => match us, hl with | [_], _ => rfl), _, fd_round_of, F_round_of, (He.glo_ok X G (c.fact 15 (f := .glo "round_of") rfl)), (FunD.bindsN F_round_of fun _ _ _ _ _ _ us hl => match us, hl with | [_], _ => rfl), _, fd_asks_of, F_asks_of, (He.glo_ok X G (c.fact 16 (f := .glo "asks_of") rfl)), (FunD.bindsN F_asks_of fun _ _ _ _ _ _ us hl => match us, hl with | [_], _ => rfl), _, fd_is_ahead, F_is_ahead, (He.glo_ok X G (c.fact 17 (f := .glo "is_ahead") rfl)), (FunD.bindsN F_is_ahead fun _ _ _ _ _ _ us hl => match us, hl with | [_], _ => rfl), _, fd_is_shaped, F_is_shaped, (He.glo_ok X G (c.fact 18 (f := .glo "is_shaped") rfl)), (FunD.bindsN F_is_shaped fun _ _ _ _ _ _ us hl => match us, hl with | [_], _ => rfl), _, fd_is_piece, F_is_piece, (He.glo_ok X G (c.fact 19 (f := .glo "is_piece") rfl)), (FunD.bindsN F_is_piece fun _ _ _ _ _ _ us hl => match us, hl with | [_, _, _], _ => rfl), _, fd_is_machine, F_is_machine, (He.glo_ok X G (c.fact 20 (f := .glo "is_machine") rfl)), (FunD.bindsN F_is_machine fun _ _ _ _ _ _ us hl => match us, hl with | [_], _ => rfl), _, fd__law_box, F__law_box, (He.glo_ok X G (c.fact 21 (f := .glo "_law_box") rfl)), (FunD.bindsN F__law_box fun _ _ _ _ _ _ us hl => match us, hl with | [_, _], _ => rfl), _, fd__law_take, F__law_take, (He.glo_ok X G (c.fact 22 (f := .glo "_law_take") rfl)), (FunD.bindsN F__law_take fun _ _ _ _ _ _ us hl => match us, hl with | [_, _], _ => rfl), _, fd__law_folded, F__law_folded, (He.glo_ok X G (c.fact 23 (f := .glo "_law_folded") rfl)), (FunD.bindsN F__law_folded fun _ _ _ _ _ _ us hl => match us, hl with | [_, _], _ => rfl), _, fd__law_alone, F__law_alone, (He.glo_ok X G (c.fact 24 (f := .glo "_law_alone") rfl)), (FunD.bindsN F__law_alone fun _ _ _ _ _ _ us hl => match us, hl with | [_, _], _ => rfl), _, fd__law_maker, F__law_maker, (He.glo_ok X G (c.fact 25 (f := .glo "_law_maker") rfl)), (FunD.bindsN F__law_maker fun _ _ _ _ _ _ us hl => match us, hl with | [_, _, _], _ => rfl), _, fd__law_machine, F__law_machine, (He.glo_ok X G (c.fact 26 (f := .glo "_law_machine") rfl)), (FunD.bindsN F__law_machine fun _ _ _ _ _ _ us hl => match us, hl with | [_, _, _, _], _ => rfl), _, fd__law_number, F__law_number, (He.glo_ok X G (c.fact 27 (f := .glo "_law_number") rfl)), (FunD.bindsN F__law_number fun _ _ _ _ _ _ us hl => match us, hl with | [_, _, _], _ => rfl), _, fd__law_all, F__law_all, (He.glo_ok X G (c.fact 28 (f := .glo "_law_all") rfl)), (FunD.bindsN F__law_all fun _ _ _ _ _ _ us hl => match us, hl with | [_, _, _], _ => rfl), _, fd__law_is_piece, F__law_is_piece, (He.glo_ok X G (c.fact 29 (f := .glo "_law_is_piece") rfl)), (FunD.bindsN F__law_is_piece fun _ _ _ _ _ _ us hl => match us, hl with | [_, _, _], _ => rfl), _, fd__law_due, F__law_due, (He.glo_ok X G (c.fact 30 (f := .glo "_law_due") rfl)), (FunD.bindsN F__law_due fun _ _ _ _ _ _ us hl => match us, hl with | [_], _ => rfl), _, fd__law_thing, F__law_thing, (He.glo_ok X G (c.fact 31 (f := .glo "_law_thing") rfl)), (FunD.bindsN F__law_thing fun _ _ _ _ _ _ us hl => match us, hl with | [_, _], _ => rfl), _, fd__law_spoilt, F__law_spoilt, (He.glo_ok X G (c.fact 32 (f := .glo "_law_spoilt") rfl)), (FunD.bindsN F__law_spoilt fun _ _ _ _ _ _ us hl => match us, hl with | [_, _], _ => rfl), _, fd__law_right, F__law_right, (He.glo_ok X G (c.fact 33 (f := .glo "_law_right") rfl)), (FunD.bindsN F__law_right fun _ _ _ _ _ _ us hl => match us, hl with | [_], _ => rfl), _, fd_law, F_law, (He.glo_ok X G (c.fact 34 (f := .glo "law") rfl)), (FunD.bindsN F_law fun _ _ _ _ _ _ us hl => match us, hl with | [_], _ => rfl), (He.cT K ("is_table", none)).1, (He.cT K ("is_table", none)).2, codeAt, (He.cT K ("is_ahead", none)).1, (He.cT K ("is_ahead", none)).2, codeAt, (He.cT K ("is_piece", none)).1, (He.cT K ("is_piece", none)).2, codeAt, (He.cT K ("is_machine", none)).1, (He.cT K ("is_machine", none)).2, codeAt, _, (He.glo_ok X G (c.fact 49 (f := .glo "SIDES") rfl)), rfl, _, (He.glo_ok X G (c.fact 50 (f := .glo "ASKED") rfl)), rfl, (He.free_ok X G (c.fact 35 (f := .free "abs") rfl)), (He.free_ok X G (c.fact 36 (f := .free "all") rfl)), (He.free_ok X G (c.fact 37 (f := .free "bool") rfl)), (He.free_ok X G (c.fact 38 (f := .free "divmod") rfl)), (He.free_ok X G (c.fact 39 (f := .free "enumerate") rfl)), (He.free_ok X G (c.fact 40 (f := .free "int") rfl)), (He.free_ok X G (c.fact 41 (f := .free "isinstance") rfl)), (He.free_ok X G (c.fact 42 (f := .free "len") rfl)), (He.free_ok X G (c.fact 43 (f := .free "list") rfl)), (He.free_ok X G (c.fact 44 (f := .free "max") rfl)), (He.free_ok X G (c.fact 45 (f := .free "min") rfl)), (He.free_ok X G (c.fact 46 (f := .free "range") rfl)), (He.free_ok X G (c.fact 47 (f := .free "str") rfl)), (He.free_ok X G (c.fact 48 (f := .free "tuple") rfl)), (He.int_ok X G (c.fact 51 (f := .int "LONGEST" 4096) rfl)), (He.int_ok X G (c.fact 52 (f := .int "MOST_AROUND" 3) rfl)), (He.int_ok X G (c.fact 53 (f := .int "GREATEST_K" 64) rfl)), (He.int_ok X G (c.fact 54 (f := .int "MOST_PIECES" 24) rfl)), (He.int_ok X G (c.fact 55 (f := .int "MOST_AHEAD" 16) rfl)), (He.int_ok X G (c.fact 56 (f := .int "MOST_HELD" 64) rfl))⟩
  refine ⟨fd_law, htf.map (He.cT K), sp_law T, fun p hp => ?_, fun p hp => ?_, fun p hp => ?_, fun s v => b s [v] rfl, fun H a ns hl _ hH hS => ⟨a, ns, rfl, hS, hl, ?_, fun _ => rfl⟩, fun base _ _ TB => ok_law T ?_⟩
  · obtain ⟨q, hq, rfl⟩ := List.mem_map.mp hp
    exact cc.empty q hq
  · obtain ⟨q, hq, rfl⟩ := List.mem_map.mp hp
    exact cc.out q hq
  · obtain ⟨q, hq, rfl⟩ := List.mem_map.mp hp
    exact PySem.W.codeHd_of_K X (cc.hd q hq)
  · exact ⟨⟨#[], hH _ (List.mem_map.mpr ⟨_, List.mem_cons_self, rfl⟩), trip0⟩, ⟨#[], hH _ (List.mem_map.mpr ⟨_, (List.mem_cons_of_mem _ List.mem_cons_self), rfl⟩), trip0⟩, ⟨#[], hH _ (List.mem_map.mpr ⟨_, (List.mem_cons_of_mem _ (List.mem_cons_of_mem _ List.mem_cons_self)), rfl⟩), trip0⟩, ⟨#[], hH _ (List.mem_map.mpr ⟨_, (List.mem_cons_of_mem _ (List.mem_cons_of_mem _ (List.mem_cons_of_mem _ List.mem_cons_self))), rfl⟩), trip0⟩, trivial⟩
  · exact ⟨⟨(TB _ (List.mem_map.mpr ⟨_, List.mem_cons_self, rfl⟩)).code, (TB _ (List.mem_map.mpr ⟨_, List.mem_cons_self, rfl⟩)).bm, (TB _ (List.mem_map.mpr ⟨_, List.mem_cons_self, rfl⟩)).gP⟩, ⟨(TB _ (List.mem_map.mpr ⟨_, (List.mem_cons_of_mem _ List.mem_cons_self), rfl⟩)).code, (TB _ (List.mem_map.mpr ⟨_, (List.mem_cons_of_mem _ List.mem_cons_self), rfl⟩)).bm, (TB _ (List.mem_map.mpr ⟨_, (List.mem_cons_of_mem _ List.mem_cons_self), rfl⟩)).gP⟩, ⟨(TB _ (List.mem_map.mpr ⟨_, (List.mem_cons_of_mem _ (List.mem_cons_of_mem _ List.mem_cons_self)), rfl⟩)).code, (TB _ (List.mem_map.mpr ⟨_, (List.mem_cons_of_mem _ (List.mem_cons_of_mem _ List.mem_cons_self)), rfl⟩)).bm, (TB _ (List.mem_map.mpr ⟨_, (List.mem_cons_of_mem _ (List.mem_cons_of_mem _ List.mem_cons_self)), rfl⟩)).gP⟩, ⟨(TB _ (List.mem_map.mpr ⟨_, (List.mem_cons_of_mem _ (List.mem_cons_of_mem _ (List.mem_cons_of_mem _ List.mem_cons_self))), rfl⟩)).code, (TB _ (List.mem_map.mpr ⟨_, (List.mem_cons_of_mem _ (List.mem_cons_of_mem _ (List.mem_cons_of_mem _ List.mem_cons_self))), rfl⟩)).bm, (TB _ (List.mem_map.mpr ⟨_, (List.mem_cons_of_mem _ (List.mem_cons_of_mem _ (List.mem_cons_of_mem _ List.mem_cons_self))), rfl⟩)).gP⟩⟩
end Fq
open PySem PySem.W PySem.Calls PyProof.Rows
set_option maxHeartbeats 0 in
theorem PySem.Challenge.cw_shareones_k47_what_is_a_machine_holds : PySem.Challenge.rw_shareones_k47_what_is_a_machine.Holds := by
  w_on; o_law
  refine HandSHeadRun.head_any (r := OpenLaw.row PySem.Challenge.rw_shareones_k47_what_is_a_machine) (q := view (OpenLaw.row PySem.Challenge.rw_shareones_k47_what_is_a_machine).prog [47]) (H := Fq.hk) (ob := Fq.ob) (M := 6000) (loose := Fq.loose) (d := HandSHeadRun.topDef (OpenLaw.row PySem.Challenge.rw_shareones_k47_what_is_a_machine).prog 47) (kwd := []) Fq.ob_eq
    (by kernel_rfl) (fun s => by kernel_rfl) Fq.run (by kernel_rfl) (by kernel_rfl) (by kernel_rfl) (by rfl) (by first | assumption | decide +kernel) (by decide +kernel) ⟨rfl, rfl, rfl, rfl, rfl, by decide +kernel⟩ ?hw ?hc
  case hw => w_witness2
  case hc =>
    refine LamX.walk_ofTsE (l := PySem.Challenge.rw_shareones_k47_what_is_a_machine) (n := 63) (k := 16) (x := "_law_script") (CX := fun _ => L2.CX0) rfl (by decide) (by kernel_rfl) ⟨rfl, by decide, by decide⟩ ?F (fun _ _ _ _ _ z => z)
    intro w mg fa h Y G hmg0
    obtain ⟨K, KX, c⟩ := Y
    have hmg : mg ("law" : PySem.Str) = some (.ref fa) := by
      have e : (HandSHeadRun.topDef (OpenLaw.row PySem.Challenge.rw_shareones_k47_what_is_a_machine).prog 47).name = ("law" : PySem.Str) := by kernel_rfl
      rw [← e]
      exact hmg0
    exact ⟨K, KX, Fq.facts KX G hmg c⟩
