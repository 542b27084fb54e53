import PyProof.Rows.All
import Wide.All
import OpenK.AllK
import Wide.FinOn
import KE.KStateDown
import Lean
import HandS.ForMost
import HandS.Wide
import HandS.WideBits
import HandS.IsInst
import HandS.Walk
import HandS.Evl
import HandS.Style
import HandS.NoneIn
import HandS.Defaults
import HandS.Head0
import HandS.Head1
import HandS.Head2
import HandS.HeadEnd
import HandS.HeadHook1
import HandS.HeadHook2
import HandS.AnyAll
import HandS.Comp
import HandS.Conv
import HandS.Deep
import HandS.Dict
import HandS.DictComp
import HandS.EndTab
import HandS.Exc
import HandS.ExcIs
import HandS.ExcOwn
import HandS.Flow
import HandS.ForDict
import HandS.GenBody
import HandS.GenList
import HandS.GenOver
import HandS.HeadHook3
import HandS.HeadHook4
import HandS.HeadWalk
import HandS.Iter
import HandS.Keys
import HandS.MethStar
import HandS.More
import HandS.Set
import HandS.SetBool
import HandS.SetFor
import HandS.Small
import HandS.SortInts
import HandS.SortKw
import HandS.SortRule
import HandS.Star
import HandS.Strs
import HandS.Style
import HandS.TryOnly
import HandS.TupAny
import HandS.TupLen
import HandS.TupMul
import HandS.Walk
import HandS.WordsDict
import HandS.WordsExc
import HandS.Zip
import KE.DataMinMax
import KE.GoesEnum
import KE.GoesMore
import KE.GoesSet
import KE.GoesZip
import KE.KDictKeyed
import KE.KDictWalk
import KE.KDictZip
import KE.KNest
import KE.KStar
import KE.KeyNested
import PyProof.ConsumeS
import PyProof.GenArm
import PyProof.GenComp
import PyProof.GenCompT
import PyProof.GenQ
import PyProof.ReprLen
import PyProof.ReprRoads
import PyProof.Rows.MatchSeqLen
import PyProof.RulesMatch
import PyProof.RulesMatchSeq
import PyProof.TupleOfGen
import PySem.Challenge.RW_shareones_k53_rounds_too_long
set_option Elab.async false
set_option pp.maxSteps 250
set_option linter.all false
set_option maxRecDepth 100000
set_option maxHeartbeats 4000000
namespace Fq
open PySem PySem.Spec PyProof.Rows L2
/-! a dict of the program's top, texts to numbers -/
def entI (e : DictEntry) : Option (Str × Int) := match e.key, e.val with
  | .str x _, .int i _ => some (x, i)
  | _, _ => none
def dicB (K : PySem.W.Frag) (a : Addr) (kvs : List (Str × Int)) : Bool := match K.lookup a with
  | some ⟨_, _, .dict es _, _⟩ => decide (es.toList.map entI = kvs.map some)
  | _ => false
def dl_ASKED : List (Str × Int) := [("make", 0), ("less", 1), ("both", 2), ("either", 2), ("oneof", 2), ("pick", 3), ("keep", 2), ("late", 1), ("keeper", 2)]
class DW (K : PySem.W.Frag) (w : World) : Prop where
  k_ASKED : ∃ es n, KDict K w (He.ga K "ASKED") es n
  v_ASKED : dicB K (He.ga K "ASKED") dl_ASKED = true
section
variable {P : Program} {w : World} {K : PySem.W.Frag} {mg : Str → Option Value} {base : Heap} [DW K w]
def topS (i : Nat) : Stmt := PySem.Challenge.pw_shareones_k53_rounds_too_long.main.body.getD i (.Pass ⟨0, 0, 0, 0⟩)
abbrev FnP (K : PySem.W.Frag) (x : Str) (st : Stmt) (f : Addr) (fd : FuncData) : Prop := FunD K x x (defArgs st) (defBody st) (defScope st) [] [] f fd
abbrev s__wall : Stmt := topS 0
abbrev N__wall : List Str := ["k"]
theorem sc__wall : FnScope N__wall ["k"] (defScope s__wall) := ⟨rfl, rfl, rfl, by decide +kernel, rfl, by decide +kernel, by decide +kernel⟩
abbrev s_common_divisor : Stmt := topS 10
abbrev N_common_divisor : List Str := ["one", "other"]
theorem sc_common_divisor : FnScope N_common_divisor ["one", "other"] (defScope s_common_divisor) := ⟨rfl, rfl, rfl, by decide +kernel, rfl, by decide +kernel, by decide +kernel⟩
abbrev s_fraction : Stmt := topS 11
abbrev N_fraction : List Str := ["top", "bottom", "divisor"]
theorem sc_fraction : FnScope N_fraction ["top", "bottom"] (defScope s_fraction) := ⟨rfl, rfl, rfl, by decide +kernel, rfl, by decide +kernel, by decide +kernel⟩
abbrev s_ones : Stmt := topS 13
abbrev N_ones : List Str := ["row"]
theorem sc_ones : FnScope N_ones ["row"] (defScope s_ones) := ⟨rfl, rfl, rfl, by decide +kernel, rfl, by decide +kernel, by decide +kernel⟩
abbrev s_share_of : Stmt := topS 14
abbrev N_share_of : List Str := ["row"]
theorem sc_share_of : FnScope N_share_of ["row"] (defScope s_share_of) := ⟨rfl, rfl, rfl, by decide +kernel, rfl, by decide +kernel, by decide +kernel⟩
abbrev s_counter_round : Stmt := topS 16
abbrev N_counter_round : List Str := ["size", "step", "start", "t"]
theorem sc_counter_round : FnScope N_counter_round ["size", "step", "start"] (defScope s_counter_round) := ⟨rfl, rfl, rfl, by decide +kernel, rfl, by decide +kernel, by decide +kernel⟩
abbrev s_last_for_first : Stmt := topS 17
abbrev N_last_for_first : List Str := ["number", "wide", "told", "at"]
theorem sc_last_for_first : FnScope N_last_for_first ["number", "wide"] (defScope s_last_for_first) := ⟨rfl, rfl, rfl, by decide +kernel, rfl, by decide +kernel, by decide +kernel⟩
abbrev s_size_of : Stmt := topS 18
abbrev N_size_of : List Str := ["wide"]
theorem sc_size_of : FnScope N_size_of ["wide"] (defScope s_size_of) := ⟨rfl, rfl, rfl, by decide +kernel, rfl, by decide +kernel, by decide +kernel⟩
abbrev s_turned_round : Stmt := topS 19
abbrev N_turned_round : List Str := ["wide", "start", "size", "t"]
theorem sc_turned_round : FnScope N_turned_round ["wide", "start"] (defScope s_turned_round) := ⟨rfl, rfl, rfl, by decide +kernel, rfl, by decide +kernel, by decide +kernel⟩
abbrev s_odd_ones : Stmt := topS 20
abbrev N_odd_ones : List Str := ["number", "odd"]
theorem sc_odd_ones : FnScope N_odd_ones ["number"] (defScope s_odd_ones) := ⟨rfl, rfl, rfl, by decide +kernel, rfl, by decide +kernel, by decide +kernel⟩
abbrev s_held_round : Stmt := topS 21
abbrev N_held_round : List Str := ["wide", "taps", "start", "size", "told", "held"]
theorem sc_held_round : FnScope N_held_round ["wide", "taps", "start"] (defScope s_held_round) := ⟨rfl, rfl, rfl, by decide +kernel, rfl, by decide +kernel, by decide +kernel⟩
abbrev s_plain_round : Stmt := topS 22
abbrev N_plain_round : List Str := ["maker", "size", "step", "start", "wide", "taps", "numbers"]
theorem sc_plain_round : FnScope N_plain_round ["maker"] (defScope s_plain_round) := ⟨rfl, rfl, rfl, by decide +kernel, rfl, by decide +kernel, by decide +kernel⟩
abbrev s_round_of : Stmt := topS 23
abbrev N_round_of : List Str := ["maker", "many", "inner", "length", "by"]
theorem sc_round_of : FnScope N_round_of ["maker"] (defScope s_round_of) := ⟨rfl, rfl, rfl, by decide +kernel, rfl, by decide +kernel, by decide +kernel⟩
abbrev s_innermost : Stmt := topS 24
abbrev N_innermost : List Str := ["maker"]
theorem sc_innermost : FnScope N_innermost ["maker"] (defScope s_innermost) := ⟨rfl, rfl, rfl, by decide +kernel, rfl, by decide +kernel, by decide +kernel⟩
abbrev s_inner_beat : Stmt := topS 25
abbrev N_inner_beat : List Str := ["maker", "t", "word", "many", "inner"]
theorem sc_inner_beat : FnScope N_inner_beat ["maker", "t"] (defScope s_inner_beat) := ⟨rfl, rfl, rfl, by decide +kernel, rfl, by decide +kernel, by decide +kernel⟩
abbrev s_values_at : Stmt := topS 26
abbrev N_values_at : List Str := ["maker", "beats", "numbers", "t"]
theorem sc_values_at : FnScope N_values_at ["maker", "beats"] (defScope s_values_at) := ⟨rfl, rfl, rfl, by decide +kernel, rfl, by decide +kernel, by decide +kernel⟩
abbrev s_value_at : Stmt := topS 27
abbrev N_value_at : List Str := ["maker", "t"]
theorem sc_value_at : FnScope N_value_at ["maker", "t"] (defScope s_value_at) := ⟨rfl, rfl, rfl, by decide +kernel, rfl, by decide +kernel, by decide +kernel⟩
abbrev s_values_of : Stmt := topS 28
abbrev N_values_of : List Str := ["maker", "beats"]
theorem sc_values_of : FnScope N_values_of ["maker", "beats"] (defScope s_values_of) := ⟨rfl, rfl, rfl, by decide +kernel, rfl, by decide +kernel, by decide +kernel⟩
abbrev s_moved : Stmt := topS 30
abbrev N_moved : List Str := ["most", "at", "up", "down"]
theorem sc_moved : FnScope N_moved ["most", "at", "up", "down"] (defScope s_moved) := ⟨rfl, rfl, rfl, by decide +kernel, rfl, by decide +kernel, by decide +kernel⟩
abbrev s_offs_by : Stmt := topS 32
abbrev N_offs_by : List Str := ["row", "many", "length", "offs", "bit"]
theorem sc_offs_by : FnScope N_offs_by ["row", "many", "length"] (defScope s_offs_by) := ⟨rfl, rfl, rfl, by decide +kernel, rfl, by decide +kernel, by decide +kernel⟩
abbrev s_asks_of : Stmt := topS 36
abbrev N_asks_of : List Str := ["piece"]
theorem sc_asks_of : FnScope N_asks_of ["piece"] (defScope s_asks_of) := ⟨rfl, rfl, rfl, by decide +kernel, rfl, by decide +kernel, by decide +kernel⟩
abbrev s_round_numbers : Stmt := topS 37
abbrev N_round_numbers : List Str := ["maker"]
theorem sc_round_numbers : FnScope N_round_numbers ["maker"] (defScope s_round_numbers) := ⟨rfl, rfl, rfl, by decide +kernel, rfl, by decide +kernel, by decide +kernel⟩
abbrev s_numbers_of : Stmt := topS 38
abbrev N_numbers_of : List Str := ["piece", "maker", "k", "a", "b", "most", "at"]
theorem sc_numbers_of : FnScope N_numbers_of ["piece"] (defScope s_numbers_of) := ⟨rfl, rfl, rfl, by decide +kernel, rfl, by decide +kernel, by decide +kernel⟩
abbrev s_common_length : Stmt := topS 39
abbrev N_common_length : List Str := ["lists", "common", "numbers"]
theorem sc_common_length : FnScope N_common_length ["lists"] (defScope s_common_length) := ⟨rfl, rfl, rfl, by decide +kernel, rfl, by decide +kernel, by decide +kernel⟩
abbrev s_held_first : Stmt := topS 40
abbrev N_held_first : List Str := ["piece", "a", "b", "first", "ahead", "maker", "most", "at"]
theorem sc_held_first : FnScope N_held_first ["piece"] (defScope s_held_first) := ⟨rfl, rfl, rfl, by decide +kernel, rfl, by decide +kernel, by decide +kernel⟩
abbrev s_bits_asked : Stmt := topS 41
abbrev N_bits_asked : List Str := ["asks", "bits", "asked"]
theorem sc_bits_asked : FnScope N_bits_asked ["asks", "bits"] (defScope s_bits_asked) := ⟨rfl, rfl, rfl, by decide +kernel, rfl, by decide +kernel, by decide +kernel⟩
abbrev s_bit_of : Stmt := topS 42
abbrev N_bit_of : List Str := ["piece", "number", "held", "asked", "a", "b", "c"]
theorem sc_bit_of : FnScope N_bit_of ["piece", "number", "held", "asked"] (defScope s_bit_of) := ⟨rfl, rfl, rfl, by decide +kernel, rfl, by decide +kernel, by decide +kernel⟩
abbrev s_held_behind : Stmt := topS 43
abbrev N_held_behind : List Str := ["piece", "held", "own", "asked", "a", "b", "up", "down"]
theorem sc_held_behind : FnScope N_held_behind ["piece", "held", "own", "asked"] (defScope s_held_behind) := ⟨rfl, rfl, rfl, by decide +kernel, rfl, by decide +kernel, by decide +kernel⟩
abbrev s_Machine___init__ : Stmt := inClass (topS 44) 0
abbrev N_Machine___init__ : List Str := ["self", "pieces", "piece", "at"]
theorem sc_Machine___init__ : FnScope N_Machine___init__ ["self", "pieces"] (defScope s_Machine___init__) := ⟨rfl, rfl, rfl, by decide +kernel, rfl, by decide +kernel, by decide +kernel⟩
abbrev s_Machine_beat : Stmt := inClass (topS 44) 1
abbrev N_Machine_beat : List Str := ["self", "bits", "at", "piece", "number", "asked"]
theorem sc_Machine_beat : FnScope N_Machine_beat ["self"] (defScope s_Machine_beat) := ⟨rfl, rfl, rfl, by decide +kernel, rfl, by decide +kernel, by decide +kernel⟩
abbrev s_Machine_beats_now : Stmt := inClass (topS 44) 2
abbrev N_Machine_beats_now : List Str := ["self"]
theorem sc_Machine_beats_now : FnScope N_Machine_beats_now ["self"] (defScope s_Machine_beats_now) := ⟨rfl, rfl, rfl, by decide +kernel, rfl, by decide +kernel, by decide +kernel⟩
abbrev s_Machine_ones_now : Stmt := inClass (topS 44) 3
abbrev N_Machine_ones_now : List Str := ["self"]
theorem sc_Machine_ones_now : FnScope N_Machine_ones_now ["self"] (defScope s_Machine_ones_now) := ⟨rfl, rfl, rfl, by decide +kernel, rfl, by decide +kernel, by decide +kernel⟩
abbrev s_Machine_held_now : Stmt := inClass (topS 44) 4
abbrev N_Machine_held_now : List Str := ["self"]
theorem sc_Machine_held_now : FnScope N_Machine_held_now ["self"] (defScope s_Machine_held_now) := ⟨rfl, rfl, rfl, by decide +kernel, rfl, by decide +kernel, by decide +kernel⟩
abbrev s_run_to_settle : Stmt := topS 45
abbrev N_run_to_settle : List Str := ["pieces", "machine", "seen", "told", "held"]
theorem sc_run_to_settle : FnScope N_run_to_settle ["pieces"] (defScope s_run_to_settle) := ⟨rfl, rfl, rfl, by decide +kernel, rfl, by decide +kernel, by decide +kernel⟩
abbrev s_settles : Stmt := topS 46
abbrev N_settles : List Str := ["pieces", "settled", "ahead", "told"]
theorem sc_settles : FnScope N_settles ["pieces"] (defScope s_settles) := ⟨rfl, rfl, rfl, by decide +kernel, rfl, by decide +kernel, by decide +kernel⟩
abbrev s_settled_row : Stmt := topS 47
abbrev N_settled_row : List Str := ["pieces", "number", "settled", "ahead", "told", "row", "bits"]
theorem sc_settled_row : FnScope N_settled_row ["pieces", "number"] (defScope s_settled_row) := ⟨rfl, rfl, rfl, by decide +kernel, rfl, by decide +kernel, by decide +kernel⟩
abbrev s_long_share : Stmt := topS 48
abbrev N_long_share : List Str := ["pieces", "number"]
theorem sc_long_share : FnScope N_long_share ["pieces", "number"] (defScope s_long_share) := ⟨rfl, rfl, rfl, by decide +kernel, rfl, by decide +kernel, by decide +kernel⟩
abbrev s_worst_run : Stmt := topS 49
abbrev N_worst_run : List Str := ["pieces", "number", "begin", "again", "sizes", "worst", "off"]
theorem sc_worst_run : FnScope N_worst_run ["pieces", "number"] (defScope s_worst_run) := ⟨rfl, rfl, rfl, by decide +kernel, rfl, by decide +kernel, by decide +kernel⟩
abbrev s__law_box : Stmt := topS 51
abbrev N__law_box : List Str := ["_law_script", "_law_k", "_law_cell"]
theorem sc__law_box : FnScope N__law_box ["_law_script", "_law_k"] (defScope s__law_box) := ⟨rfl, rfl, rfl, by decide +kernel, rfl, by decide +kernel, by decide +kernel⟩
abbrev s__law_take : Stmt := topS 52
abbrev N__law_take : List Str := ["_law_box_here", "_law_many", "_law_found", "_law_once"]
theorem sc__law_take : FnScope N__law_take ["_law_box_here", "_law_many"] (defScope s__law_take) := ⟨rfl, rfl, rfl, by decide +kernel, rfl, by decide +kernel, by decide +kernel⟩
abbrev s__law_folded : Stmt := topS 53
abbrev N__law_folded : List Str := ["_law_script", "_law_many", "_law_cells", "_law_k", "_law_cell"]
theorem sc__law_folded : FnScope N__law_folded ["_law_script", "_law_many"] (defScope s__law_folded) := ⟨rfl, rfl, rfl, by decide +kernel, rfl, by decide +kernel, by decide +kernel⟩
abbrev s__law_lowest : Stmt := topS 54
abbrev N__law_lowest : List Str := ["_law_top", "_law_bottom", "_law_one", "_law_other"]
theorem sc__law_lowest : FnScope N__law_lowest ["_law_top", "_law_bottom"] (defScope s__law_lowest) := ⟨rfl, rfl, rfl, by decide +kernel, rfl, by decide +kernel, by decide +kernel⟩
abbrev s__law_lcm : Stmt := topS 55
abbrev N__law_lcm : List Str := ["_law_one", "_law_other", "_law_first", "_law_second"]
theorem sc__law_lcm : FnScope N__law_lcm ["_law_one", "_law_other"] (defScope s__law_lcm) := ⟨rfl, rfl, rfl, by decide +kernel, rfl, by decide +kernel, by decide +kernel⟩
abbrev s__law_counter : Stmt := topS 56
abbrev N__law_counter : List Str := ["_law_box_here", "_law_many", "_law_step"]
theorem sc__law_counter : FnScope N__law_counter ["_law_box_here", "_law_many"] (defScope s__law_counter) := ⟨rfl, rfl, rfl, by decide +kernel, rfl, by decide +kernel, by decide +kernel⟩
abbrev s__law_rounds : Stmt := topS 57
abbrev N__law_rounds : List Str := ["_law_box_here", "_law_near", "_law_some", "_law_turn"]
theorem sc__law_rounds : FnScope N__law_rounds ["_law_box_here"] (defScope s__law_rounds) := ⟨rfl, rfl, rfl, by decide +kernel, rfl, by decide +kernel, by decide +kernel⟩
abbrev s__law_refused : Stmt := topS 58
abbrev N__law_refused : List Str := ["_law_call", "_law_pieces", "_law_number", "_law_caught", "e", "_law_others"]
theorem sc__law_refused : FnScope N__law_refused ["_law_call", "_law_pieces", "_law_number"] (defScope s__law_refused) := ⟨rfl, rfl, rfl, by decide +kernel, rfl, by decide +kernel, by decide +kernel⟩
abbrev s__law_ahead : Stmt := topS 59
abbrev N__law_ahead : List Str := ["_law_pieces", "_law_late", "_law_many", "_law_maker", "_law_k", "_law_size", "_law_later", "_law_ahead_here", "_law_place"]
theorem sc__law_ahead : FnScope N__law_ahead ["_law_pieces", "_law_late", "_law_many"] (defScope s__law_ahead) := ⟨rfl, rfl, rfl, by decide +kernel, rfl, by decide +kernel, by decide +kernel⟩
abbrev s__law_worst : Stmt := topS 60
abbrev N__law_worst : List Str := ["_law_maker", "_law_k", "_law_size", "_law_count", "_law_best", "_law_t", "_law_off"]
theorem sc__law_worst : FnScope N__law_worst ["_law_maker", "_law_k"] (defScope s__law_worst) := ⟨rfl, rfl, rfl, by decide +kernel, rfl, by decide +kernel, by decide +kernel⟩
abbrev s__law_shares_right : Stmt := topS 61
abbrev N__law_shares_right : List Str := ["_law_pieces", "_law_rounds_here", "_law_late", "_law_at", "_law_size", "_law_whole"]
theorem sc__law_shares_right : FnScope N__law_shares_right ["_law_pieces", "_law_rounds_here", "_law_late"] (defScope s__law_shares_right) := ⟨rfl, rfl, rfl, by decide +kernel, rfl, by decide +kernel, by decide +kernel⟩
abbrev s_law : Stmt := topS 62
abbrev N_law : List Str := ["_law_script", "_law_cells", "_law_k", "_law_box_here", "_law_rounds_here", "_law_pieces", "_law_many", "_law_size", "_law_slow", "_law_bits", "_law_late", "_law_ahead_here", "_law_turn", "_law_found"]
theorem sc_law : FnScope N_law ["_law_script"] (defScope s_law) := ⟨rfl, rfl, rfl, by decide +kernel, rfl, by decide +kernel, by decide +kernel⟩
/-- the code object of the def at f is the one at c -/
def CodeAt (K : PySem.W.Frag) (f c : Addr) : Prop := ∀ (oc : Value) (od : Option Addr) (fd : FuncData) (osl : Array (Option Value)), K.lookup f = some ⟨oc, od, .func fd, osl⟩ → ∀ b, fd.code = .ref b → b = c
theorem okC {P : Program} {w : World} {K : PySem.W.Frag} {mg : Str → Option Value} {base : Heap} {x : Str} {st : Stmt} {f c : Addr} {fd : FuncData} {N ps : List Str} {k : Nat} {sp : Sp} (F : FnP K x st f fd) (hc : CodeAt K f c) (S : FnScope N ps (defScope st)) (len : ∀ vs H Q E, sp vs H Q E → vs.length = ps.length)
    (hb : ∀ (A : Around) (outer : List Env) (s : Shared) (H : Hp) (vs : List V) (Q : VK) (E : XK), Room k (A.deeper (envOfC x (defScope st) s.heap.objs.size f (.ref c))) → sp vs H Q E →
      ∃ t, PSs (cxOf CX0 P w K mg base N x (defScope st) f (.ref c) A outer s H E) (defBody st) t ∧ t { nx := fun _ H' => Q .non H', rt := Q } (L2.start N vs) H) : FnOk P w K mg base CX0 (k + 1) f fd ps sp := by
  obtain ⟨oc, od, dV, kV, doc, pm, an, cdv, ct, osl, rfl, lk, hcd, _, _⟩ := F.ex
  obtain ⟨b, rfl⟩ := He.codeIn_ref hcd
  have e := hc oc od _ osl lk b rfl
  subst e
  exact fn_of lk hcd S len hb
theorem okX {P : Program} {w : World} {K : PySem.W.Frag} {mg : Str → Option Value} {base : Heap} {x : Str} {st : Stmt} {f : Addr} {fd : FuncData} {N ps : List Str} {k : Nat} {sp : Sp} (F : FnP K x st f fd) (S : FnScope N ps (defScope st)) (len : ∀ vs H Q E, sp vs H Q E → vs.length = ps.length)
    (hb : ∀ (cdv : Value) (A : Around) (outer : List Env) (s : Shared) (H : Hp) (vs : List V) (Q : VK) (E : XK), Room k (A.deeper (envOfC x (defScope st) s.heap.objs.size f cdv)) → sp vs H Q E →
      ∃ t, PSs (cxOf (L2.CX P w) P w K mg base N x (defScope st) f cdv A outer s H E) (defBody st) t ∧ t { nx := fun _ H' => Q .non H', rt := Q } (L2.start N vs) H) : FnOk P w K mg base (L2.CX P w) (k + 1) f fd ps sp := by
  obtain ⟨oc, od, dV, kV, doc, pm, an, cdv, ct, osl, rfl, lk, hcd, _, _⟩ := F.ex
  exact fn_of lk hcd S len fun A outer s H vs Q E hr h => hb cdv A outer s H vs Q E hr h
theorem okXC {P : Program} {w : World} {K : PySem.W.Frag} {mg : Str → Option Value} {base : Heap} {x : Str} {st : Stmt} {f c : Addr} {fd : FuncData} {N ps : List Str} {k : Nat} {sp : Sp} (F : FnP K x st f fd) (hc : CodeAt K f c) (S : FnScope N ps (defScope st)) (len : ∀ vs H Q E, sp vs H Q E → vs.length = ps.length)
    (hb : ∀ (A : Around) (outer : List Env) (s : Shared) (H : Hp) (vs : List V) (Q : VK) (E : XK), Room k (A.deeper (envOfC x (defScope st) s.heap.objs.size f (.ref c))) → sp vs H Q E →
      ∃ t, PSs (cxOf (L2.CX P w) P w K mg base N x (defScope st) f (.ref c) A outer s H E) (defBody st) t ∧ t { nx := fun _ H' => Q .non H', rt := Q } (L2.start N vs) H) : FnOk P w K mg base (L2.CX P w) (k + 1) f fd ps sp := by
  obtain ⟨oc, od, dV, kV, doc, pm, an, cdv, ct, osl, rfl, lk, hcd, _, _⟩ := F.ex
  obtain ⟨b, rfl⟩ := He.codeIn_ref hcd
  have e := hc oc od _ osl lk b rfl
  subst e
  exact fn_of lk hcd S len hb
theorem pe_globI {X : Cx} {x : Str} {i : Int} {pos : Pos} (hg : Gl X x) (hm : ∃ t, X.mg x = some (.int i t)) (hd : (x == ("__debug__" : Str)) = false := by decide) : PE X (.Name x pos) (tC (.int i)) := by
  obtain ⟨t, h⟩ := hm
  exact pe_glob hg h ⟨_, rfl⟩ hd
structure Defs (K : PySem.W.Frag) (mg : Str → Option Value) where
  f__wall : Addr
  fd__wall : FuncData
  F__wall : FnP K "_wall" s__wall f__wall fd__wall
  g__wall : mg "_wall" = some (.ref f__wall)
  b__wall : Binds K fd__wall ["k"] []
  f_common_divisor : Addr
  fd_common_divisor : FuncData
  F_common_divisor : FnP K "common_divisor" s_common_divisor f_common_divisor fd_common_divisor
  g_common_divisor : mg "common_divisor" = some (.ref f_common_divisor)
  b_common_divisor : Binds K fd_common_divisor ["one", "other"] []
  f_fraction : Addr
  fd_fraction : FuncData
  F_fraction : FnP K "fraction" s_fraction f_fraction fd_fraction
  g_fraction : mg "fraction" = some (.ref f_fraction)
  b_fraction : Binds K fd_fraction ["top", "bottom"] []
  f_ones : Addr
  fd_ones : FuncData
  F_ones : FnP K "ones" s_ones f_ones fd_ones
  g_ones : mg "ones" = some (.ref f_ones)
  b_ones : Binds K fd_ones ["row"] []
  f_share_of : Addr
  fd_share_of : FuncData
  F_share_of : FnP K "share_of" s_share_of f_share_of fd_share_of
  g_share_of : mg "share_of" = some (.ref f_share_of)
  b_share_of : Binds K fd_share_of ["row"] []
  f_counter_round : Addr
  fd_counter_round : FuncData
  F_counter_round : FnP K "counter_round" s_counter_round f_counter_round fd_counter_round
  g_counter_round : mg "counter_round" = some (.ref f_counter_round)
  b_counter_round : Binds K fd_counter_round ["size", "step", "start"] []
  f_last_for_first : Addr
  fd_last_for_first : FuncData
  F_last_for_first : FnP K "last_for_first" s_last_for_first f_last_for_first fd_last_for_first
  g_last_for_first : mg "last_for_first" = some (.ref f_last_for_first)
  b_last_for_first : Binds K fd_last_for_first ["number", "wide"] []
  f_size_of : Addr
  fd_size_of : FuncData
  F_size_of : FnP K "size_of" s_size_of f_size_of fd_size_of
  g_size_of : mg "size_of" = some (.ref f_size_of)
  b_size_of : Binds K fd_size_of ["wide"] []
  f_turned_round : Addr
  fd_turned_round : FuncData
  F_turned_round : FnP K "turned_round" s_turned_round f_turned_round fd_turned_round
  g_turned_round : mg "turned_round" = some (.ref f_turned_round)
  b_turned_round : Binds K fd_turned_round ["wide", "start"] []
  f_odd_ones : Addr
  fd_odd_ones : FuncData
  F_odd_ones : FnP K "odd_ones" s_odd_ones f_odd_ones fd_odd_ones
  g_odd_ones : mg "odd_ones" = some (.ref f_odd_ones)
  b_odd_ones : Binds K fd_odd_ones ["number"] []
  f_held_round : Addr
  fd_held_round : FuncData
  F_held_round : FnP K "held_round" s_held_round f_held_round fd_held_round
  g_held_round : mg "held_round" = some (.ref f_held_round)
  b_held_round : Binds K fd_held_round ["wide", "taps", "start"] []
  f_plain_round : Addr
  fd_plain_round : FuncData
  F_plain_round : FnP K "plain_round" s_plain_round f_plain_round fd_plain_round
  g_plain_round : mg "plain_round" = some (.ref f_plain_round)
  b_plain_round : Binds K fd_plain_round ["maker"] []
  f_round_of : Addr
  fd_round_of : FuncData
  F_round_of : FnP K "round_of" s_round_of f_round_of fd_round_of
  g_round_of : mg "round_of" = some (.ref f_round_of)
  b_round_of : Binds K fd_round_of ["maker"] []
  f_innermost : Addr
  fd_innermost : FuncData
  F_innermost : FnP K "innermost" s_innermost f_innermost fd_innermost
  g_innermost : mg "innermost" = some (.ref f_innermost)
  b_innermost : Binds K fd_innermost ["maker"] []
  f_inner_beat : Addr
  fd_inner_beat : FuncData
  F_inner_beat : FnP K "inner_beat" s_inner_beat f_inner_beat fd_inner_beat
  g_inner_beat : mg "inner_beat" = some (.ref f_inner_beat)
  b_inner_beat : Binds K fd_inner_beat ["maker", "t"] []
  f_values_at : Addr
  fd_values_at : FuncData
  F_values_at : FnP K "values_at" s_values_at f_values_at fd_values_at
  g_values_at : mg "values_at" = some (.ref f_values_at)
  b_values_at : Binds K fd_values_at ["maker", "beats"] []
  f_value_at : Addr
  fd_value_at : FuncData
  F_value_at : FnP K "value_at" s_value_at f_value_at fd_value_at
  g_value_at : mg "value_at" = some (.ref f_value_at)
  b_value_at : Binds K fd_value_at ["maker", "t"] []
  f_values_of : Addr
  fd_values_of : FuncData
  F_values_of : FnP K "values_of" s_values_of f_values_of fd_values_of
  g_values_of : mg "values_of" = some (.ref f_values_of)
  b_values_of : Binds K fd_values_of ["maker", "beats"] []
  f_moved : Addr
  fd_moved : FuncData
  F_moved : FnP K "moved" s_moved f_moved fd_moved
  g_moved : mg "moved" = some (.ref f_moved)
  b_moved : Binds K fd_moved ["most", "at", "up", "down"] []
  f_offs_by : Addr
  fd_offs_by : FuncData
  F_offs_by : FnP K "offs_by" s_offs_by f_offs_by fd_offs_by
  g_offs_by : mg "offs_by" = some (.ref f_offs_by)
  b_offs_by : Binds K fd_offs_by ["row", "many", "length"] []
  f_asks_of : Addr
  fd_asks_of : FuncData
  F_asks_of : FnP K "asks_of" s_asks_of f_asks_of fd_asks_of
  g_asks_of : mg "asks_of" = some (.ref f_asks_of)
  b_asks_of : Binds K fd_asks_of ["piece"] []
  f_round_numbers : Addr
  fd_round_numbers : FuncData
  F_round_numbers : FnP K "round_numbers" s_round_numbers f_round_numbers fd_round_numbers
  g_round_numbers : mg "round_numbers" = some (.ref f_round_numbers)
  b_round_numbers : Binds K fd_round_numbers ["maker"] []
  f_numbers_of : Addr
  fd_numbers_of : FuncData
  F_numbers_of : FnP K "numbers_of" s_numbers_of f_numbers_of fd_numbers_of
  g_numbers_of : mg "numbers_of" = some (.ref f_numbers_of)
  b_numbers_of : Binds K fd_numbers_of ["piece"] []
  f_common_length : Addr
  fd_common_length : FuncData
  F_common_length : FnP K "common_length" s_common_length f_common_length fd_common_length
  g_common_length : mg "common_length" = some (.ref f_common_length)
  b_common_length : Binds K fd_common_length ["lists"] []
  f_held_first : Addr
  fd_held_first : FuncData
  F_held_first : FnP K "held_first" s_held_first f_held_first fd_held_first
  g_held_first : mg "held_first" = some (.ref f_held_first)
  b_held_first : Binds K fd_held_first ["piece"] []
  f_bits_asked : Addr
  fd_bits_asked : FuncData
  F_bits_asked : FnP K "bits_asked" s_bits_asked f_bits_asked fd_bits_asked
  g_bits_asked : mg "bits_asked" = some (.ref f_bits_asked)
  b_bits_asked : Binds K fd_bits_asked ["asks", "bits"] []
  f_bit_of : Addr
  fd_bit_of : FuncData
  F_bit_of : FnP K "bit_of" s_bit_of f_bit_of fd_bit_of
  g_bit_of : mg "bit_of" = some (.ref f_bit_of)
  b_bit_of : Binds K fd_bit_of ["piece", "number", "held", "asked"] []
  f_held_behind : Addr
  fd_held_behind : FuncData
  F_held_behind : FnP K "held_behind" s_held_behind f_held_behind fd_held_behind
  g_held_behind : mg "held_behind" = some (.ref f_held_behind)
  b_held_behind : Binds K fd_held_behind ["piece", "held", "own", "asked"] []
  f_Machine___init__ : Addr
  fd_Machine___init__ : FuncData
  F_Machine___init__ : FunD K "__init__" "Machine.__init__" (defArgs s_Machine___init__) (defBody s_Machine___init__) (defScope s_Machine___init__) [] [] f_Machine___init__ fd_Machine___init__
  b_Machine___init__ : Binds K fd_Machine___init__ ["self", "pieces"] []
  f_Machine_beat : Addr
  fd_Machine_beat : FuncData
  F_Machine_beat : FunD K "beat" "Machine.beat" (defArgs s_Machine_beat) (defBody s_Machine_beat) (defScope s_Machine_beat) [] [] f_Machine_beat fd_Machine_beat
  b_Machine_beat : Binds K fd_Machine_beat ["self"] []
  f_Machine_beats_now : Addr
  fd_Machine_beats_now : FuncData
  F_Machine_beats_now : FunD K "beats_now" "Machine.beats_now" (defArgs s_Machine_beats_now) (defBody s_Machine_beats_now) (defScope s_Machine_beats_now) [] [] f_Machine_beats_now fd_Machine_beats_now
  b_Machine_beats_now : Binds K fd_Machine_beats_now ["self"] []
  f_Machine_ones_now : Addr
  fd_Machine_ones_now : FuncData
  F_Machine_ones_now : FunD K "ones_now" "Machine.ones_now" (defArgs s_Machine_ones_now) (defBody s_Machine_ones_now) (defScope s_Machine_ones_now) [] [] f_Machine_ones_now fd_Machine_ones_now
  b_Machine_ones_now : Binds K fd_Machine_ones_now ["self"] []
  f_Machine_held_now : Addr
  fd_Machine_held_now : FuncData
  F_Machine_held_now : FunD K "held_now" "Machine.held_now" (defArgs s_Machine_held_now) (defBody s_Machine_held_now) (defScope s_Machine_held_now) [] [] f_Machine_held_now fd_Machine_held_now
  b_Machine_held_now : Binds K fd_Machine_held_now ["self"] []
  f_run_to_settle : Addr
  fd_run_to_settle : FuncData
  F_run_to_settle : FnP K "run_to_settle" s_run_to_settle f_run_to_settle fd_run_to_settle
  g_run_to_settle : mg "run_to_settle" = some (.ref f_run_to_settle)
  b_run_to_settle : Binds K fd_run_to_settle ["pieces"] []
  f_settles : Addr
  fd_settles : FuncData
  F_settles : FnP K "settles" s_settles f_settles fd_settles
  g_settles : mg "settles" = some (.ref f_settles)
  b_settles : Binds K fd_settles ["pieces"] []
  f_settled_row : Addr
  fd_settled_row : FuncData
  F_settled_row : FnP K "settled_row" s_settled_row f_settled_row fd_settled_row
  g_settled_row : mg "settled_row" = some (.ref f_settled_row)
  b_settled_row : Binds K fd_settled_row ["pieces", "number"] []
  f_long_share : Addr
  fd_long_share : FuncData
  F_long_share : FnP K "long_share" s_long_share f_long_share fd_long_share
  g_long_share : mg "long_share" = some (.ref f_long_share)
  b_long_share : Binds K fd_long_share ["pieces", "number"] []
  f_worst_run : Addr
  fd_worst_run : FuncData
  F_worst_run : FnP K "worst_run" s_worst_run f_worst_run fd_worst_run
  g_worst_run : mg "worst_run" = some (.ref f_worst_run)
  b_worst_run : Binds K fd_worst_run ["pieces", "number"] []
  f__law_box : Addr
  fd__law_box : FuncData
  F__law_box : FnP K "_law_box" s__law_box f__law_box fd__law_box
  g__law_box : mg "_law_box" = some (.ref f__law_box)
  b__law_box : Binds K fd__law_box ["_law_script", "_law_k"] []
  f__law_take : Addr
  fd__law_take : FuncData
  F__law_take : FnP K "_law_take" s__law_take f__law_take fd__law_take
  g__law_take : mg "_law_take" = some (.ref f__law_take)
  b__law_take : Binds K fd__law_take ["_law_box_here", "_law_many"] []
  f__law_folded : Addr
  fd__law_folded : FuncData
  F__law_folded : FnP K "_law_folded" s__law_folded f__law_folded fd__law_folded
  g__law_folded : mg "_law_folded" = some (.ref f__law_folded)
  b__law_folded : Binds K fd__law_folded ["_law_script", "_law_many"] []
  f__law_lowest : Addr
  fd__law_lowest : FuncData
  F__law_lowest : FnP K "_law_lowest" s__law_lowest f__law_lowest fd__law_lowest
  g__law_lowest : mg "_law_lowest" = some (.ref f__law_lowest)
  b__law_lowest : Binds K fd__law_lowest ["_law_top", "_law_bottom"] []
  f__law_lcm : Addr
  fd__law_lcm : FuncData
  F__law_lcm : FnP K "_law_lcm" s__law_lcm f__law_lcm fd__law_lcm
  g__law_lcm : mg "_law_lcm" = some (.ref f__law_lcm)
  b__law_lcm : Binds K fd__law_lcm ["_law_one", "_law_other"] []
  f__law_counter : Addr
  fd__law_counter : FuncData
  F__law_counter : FnP K "_law_counter" s__law_counter f__law_counter fd__law_counter
  g__law_counter : mg "_law_counter" = some (.ref f__law_counter)
  b__law_counter : Binds K fd__law_counter ["_law_box_here", "_law_many"] []
  f__law_rounds : Addr
  fd__law_rounds : FuncData
  F__law_rounds : FnP K "_law_rounds" s__law_rounds f__law_rounds fd__law_rounds
  g__law_rounds : mg "_law_rounds" = some (.ref f__law_rounds)
  b__law_rounds : Binds K fd__law_rounds ["_law_box_here"] []
  f__law_refused : Addr
  fd__law_refused : FuncData
  F__law_refused : FnP K "_law_refused" s__law_refused f__law_refused fd__law_refused
  g__law_refused : mg "_law_refused" = some (.ref f__law_refused)
  b__law_refused : Binds K fd__law_refused ["_law_call", "_law_pieces", "_law_number"] []
  f__law_ahead : Addr
  fd__law_ahead : FuncData
  F__law_ahead : FnP K "_law_ahead" s__law_ahead f__law_ahead fd__law_ahead
  g__law_ahead : mg "_law_ahead" = some (.ref f__law_ahead)
  b__law_ahead : Binds K fd__law_ahead ["_law_pieces", "_law_late", "_law_many"] []
  f__law_worst : Addr
  fd__law_worst : FuncData
  F__law_worst : FnP K "_law_worst" s__law_worst f__law_worst fd__law_worst
  g__law_worst : mg "_law_worst" = some (.ref f__law_worst)
  b__law_worst : Binds K fd__law_worst ["_law_maker", "_law_k"] []
  f__law_shares_right : Addr
  fd__law_shares_right : FuncData
  F__law_shares_right : FnP K "_law_shares_right" s__law_shares_right f__law_shares_right fd__law_shares_right
  g__law_shares_right : mg "_law_shares_right" = some (.ref f__law_shares_right)
  b__law_shares_right : Binds K fd__law_shares_right ["_law_pieces", "_law_rounds_here", "_law_late"] []
  f_law : Addr
  fd_law : FuncData
  F_law : FnP K "law" s_law f_law fd_law
  g_law : mg "law" = some (.ref f_law)
  b_law : Binds K fd_law ["_law_script"] []
  C_Machine : Addr
  g_Machine : mg "Machine" = some (.ref C_Machine)
  cl_Machine : Cls K C_Machine
  mk_Machine : L2.Mk K C_Machine f_Machine___init__
  na_Machine_asks : NoAttr K C_Machine "asks"
  na_Machine_beats : NoAttr K C_Machine "beats"
  na_Machine_common : NoAttr K C_Machine "common"
  na_Machine_counts : NoAttr K C_Machine "counts"
  na_Machine_held : NoAttr K C_Machine "held"
  na_Machine_holding : NoAttr K C_Machine "holding"
  na_Machine_numbers : NoAttr K C_Machine "numbers"
  na_Machine_pieces : NoAttr K C_Machine "pieces"
  mt_Machine_beat : Meth K C_Machine "beat" f_Machine_beat
  mt_Machine_beats_now : Meth K C_Machine "beats_now" f_Machine_beats_now
  mt_Machine_ones_now : Meth K C_Machine "ones_now" f_Machine_ones_now
  mt_Machine_held_now : Meth K C_Machine "held_now" f_Machine_held_now
  c_settled_row : Addr
  P_settled_row : Addr
  k_settled_row : CodeAt K f_settled_row c_settled_row
  C_OnesError : Addr
  g_OnesError : mg "OnesError" = some (.ref C_OnesError)
  C_Unlike : Addr
  g_Unlike : mg "Unlike" = some (.ref C_Unlike)
  C_NoSuch : Addr
  g_NoSuch : mg "NoSuch" = some (.ref C_NoSuch)
  C_NoOne : Addr
  g_NoOne : mg "NoOne" = some (.ref C_NoOne)
  C_NoRound : Addr
  g_NoRound : mg "NoRound" = some (.ref C_NoRound)
  C_BadText : Addr
  g_BadText : mg "BadText" = some (.ref C_BadText)
  C_BadSheet : Addr
  g_BadSheet : mg "BadSheet" = some (.ref C_BadSheet)
  C_ASKED : Addr
  g_ASKED : mg "ASKED" = some (.ref C_ASKED)
  e_ASKED : C_ASKED = He.ga K "ASKED"
  xi_NoRound : PySem.W.excIn K C_NoRound He.veBase "ValueError.__new__" = true
  xk_NoRound : PySem.W.keepIn K (.ref C_NoRound) = true
  xs_NoRound : PySem.W.subIn K (.ref C_NoRound) (.type "BaseException") = some true
  xt_NoRound : PySem.W.typeIn K (.ref C_NoRound) = some (.type "type")
  xc_NoRound : ExcC K C_NoRound
  xm_NoRound : PySem.W.exmOne K (.ref C_NoRound) (.ref C_OnesError) = some true
  xo_NoRound_OnesError : PySem.W.kitOne K (.ref C_NoRound) (.ref C_OnesError) = some true
  xo_NoRound_Unlike : PySem.W.kitOne K (.ref C_NoRound) (.ref C_Unlike) = some false
  xo_NoRound_NoSuch : PySem.W.kitOne K (.ref C_NoRound) (.ref C_NoSuch) = some false
  xo_NoRound_NoOne : PySem.W.kitOne K (.ref C_NoRound) (.ref C_NoOne) = some false
  xo_NoRound_NoRound : PySem.W.kitOne K (.ref C_NoRound) (.ref C_NoRound) = some true
  xo_NoRound_BadText : PySem.W.kitOne K (.ref C_NoRound) (.ref C_BadText) = some false
  xo_NoRound_BadSheet : PySem.W.kitOne K (.ref C_NoRound) (.ref C_BadSheet) = some false
  xv_NoRound : PySem.W.kitOne K (.ref C_NoRound) (.type "ValueError") = some true
  m_ValueError : mg "ValueError" = none
  m_abs : mg "abs" = none
  m_divmod : mg "divmod" = none
  m_enumerate : mg "enumerate" = none
  m_int : mg "int" = none
  m_isinstance : mg "isinstance" = none
  m_len : mg "len" = none
  m_list : mg "list" = none
  m_max : mg "max" = none
  m_range : mg "range" = none
  m_sum : mg "sum" = none
  m_tuple : mg "tuple" = none
  i_MOST_SETTLING : ∃ t, mg "MOST_SETTLING" = some (.int 8192 t)
structure Tabs {K : PySem.W.Frag} {mg : Str → Option Value} (T : Defs K mg) (base : Heap) : Prop where
  t_settled_row : GxR.TabB base mg T.c_settled_row T.P_settled_row
theorem bt_ValueError : bootBuiltins "ValueError" = some (.type "ValueError") := by decide +kernel
theorem bt_abs : bootBuiltins "abs" = some (.builtin "abs") := by decide +kernel
theorem bt_divmod : bootBuiltins "divmod" = some (.builtin "divmod") := by decide +kernel
theorem bt_enumerate : bootBuiltins "enumerate" = some (.type "enumerate") := by decide +kernel
theorem bt_int : bootBuiltins "int" = some (.type "int") := by decide +kernel
theorem bt_isinstance : bootBuiltins "isinstance" = some (.builtin "isinstance") := by decide +kernel
theorem bt_len : bootBuiltins "len" = some (.builtin "len") := by decide +kernel
theorem bt_list : bootBuiltins "list" = some (.type "list") := by decide +kernel
theorem bt_max : bootBuiltins "max" = some (.builtin "max") := by decide +kernel
theorem bt_range : bootBuiltins "range" = some (.type "range") := by decide +kernel
theorem bt_sum : bootBuiltins "sum" = some (.builtin "sum") := by decide +kernel
theorem bt_tuple : bootBuiltins "tuple" = some (.type "tuple") := by decide +kernel
def frT (t b : Int) : Int := (b.sign * t) / (Int.gcd t b : Int)
def frB (t b : Int) : Int := (b.natAbs : Int) / (Int.gcd t b : Int)
theorem fr_ex (t : Int) {b : Int} (hb : b ≠ 0) : ∃ (g : Nat) (x y : Int), 0 < g ∧ Int.gcd t b = g ∧ t = (g : Int) * x ∧ b = (g : Int) * y ∧ y ≠ 0 ∧ Int.gcd x y = 1 := by
  have hg : 0 < Int.gcd t b := Int.gcd_pos_of_ne_zero_right t hb
  obtain ⟨x, hx⟩ := Int.gcd_dvd_left t b
  obtain ⟨y, hy⟩ := Int.gcd_dvd_right t b
  refine ⟨Int.gcd t b, x, y, hg, rfl, hx, hy, fun e => hb (by rw [hy, e, Int.mul_zero]), ?_⟩
  generalize eg : Int.gcd t b = g at hg hx hy
  have e : g = g * Int.gcd x y := by
    rw [← eg]
    conv => lhs; rw [hx, hy, Int.gcd_mul_left]
    rw [Int.natAbs_natCast, eg]
  exact Nat.eq_of_mul_eq_mul_left hg (by rw [← e, Nat.mul_one])
theorem sgn {b : Int} {g : Nat} {y : Int} (hg : 0 < g) (hb : b = (g : Int) * y) : b.sign = y.sign := by
  rw [hb, Int.sign_mul, Int.sign_eq_one_of_pos (by omega), Int.one_mul]
theorem fr_vals {t b : Int} {g : Nat} {x y : Int} (hg : 0 < g) (eg : Int.gcd t b = g) (ht : t = (g : Int) * x) (hb : b = (g : Int) * y) : frT t b = y.sign * x ∧ frB t b = (y.natAbs : Int) := by
  have g0 : (g : Int) ≠ 0 := by omega
  constructor
  · unfold frT
    rw [eg, sgn hg hb, ht, show y.sign * ((g : Int) * x) = (g : Int) * (y.sign * x) by rw [Int.mul_left_comm]]
    exact Int.mul_ediv_cancel_left _ g0
  · unfold frB
    rw [eg, hb, Int.natAbs_mul, Int.natAbs_natCast, Int.natCast_mul]
    exact Int.mul_ediv_cancel_left _ g0
theorem sgn_abs {y : Int} (hy : y ≠ 0) : y.sign.natAbs = 1 := Int.natAbs_sign_of_ne_zero hy
theorem fr_pos (t : Int) {b : Int} (hb : b ≠ 0) : 0 < frB t b := by
  obtain ⟨g, x, y, hg, eg, ht, hy, hy0, h1⟩ := fr_ex t hb
  rw [(fr_vals hg eg ht hy).2]
  omega
theorem fr_gcd (t : Int) {b : Int} (hb : b ≠ 0) : Int.gcd (frT t b) (frB t b) = 1 := by
  obtain ⟨g, x, y, hg, eg, ht, hy, hy0, h1⟩ := fr_ex t hb
  rw [(fr_vals hg eg ht hy).1, (fr_vals hg eg ht hy).2]
  show Nat.gcd (y.sign * x).natAbs ((y.natAbs : Int)).natAbs = 1
  rw [Int.natAbs_mul, sgn_abs hy0, Nat.one_mul, Int.natAbs_natCast]
  exact h1
theorem fr_eq (t : Int) {b : Int} (hb : b ≠ 0) : frT t b * b = t * frB t b := by
  obtain ⟨g, x, y, hg, eg, ht, hy, hy0, h1⟩ := fr_ex t hb
  rw [(fr_vals hg eg ht hy).1, (fr_vals hg eg ht hy).2]
  rw [ht, hy]
  have e : y * y.sign = (y.natAbs : Int) := Int.mul_sign_self y
  rw [← e]
  simp only [Int.mul_comm, Int.mul_left_comm, Int.mul_assoc]
theorem fr_absT (t : Int) {b : Int} (hb : b ≠ 0) : (frT t b).natAbs ≤ t.natAbs := by
  obtain ⟨g, x, y, hg, eg, ht, hy, hy0, h1⟩ := fr_ex t hb
  rw [(fr_vals hg eg ht hy).1, ht, Int.natAbs_mul, sgn_abs hy0, Nat.one_mul, Int.natAbs_mul, Int.natAbs_natCast]
  exact Nat.le_mul_of_pos_left _ hg
theorem fr_absB (t : Int) {b : Int} (hb : b ≠ 0) : (frB t b).natAbs ≤ b.natAbs := by
  obtain ⟨g, x, y, hg, eg, ht, hy, hy0, h1⟩ := fr_ex t hb
  rw [(fr_vals hg eg ht hy).2, hy, Int.natAbs_mul, Int.natAbs_natCast, Int.natAbs_natCast]
  exact Nat.le_mul_of_pos_left _ hg
theorem fr_negT (t b : Int) : frT (-t) (-b) = frT t b := by
  unfold frT
  rw [Int.sign_neg, Int.neg_mul_neg, Int.gcd_neg, Int.neg_gcd]
theorem fr_negB (t b : Int) : frB (-t) (-b) = frB t b := by
  unfold frB
  rw [Int.natAbs_neg, Int.gcd_neg, Int.neg_gcd]
/-- what the program's two ways reckon -/
theorem fd_pos {g : Nat} {x : Int} (hg : 0 < g) : ((g : Int) * x).fdiv (g : Int) = x := by
  rw [Int.fdiv_eq_ediv_of_nonneg _ (by omega)]
  exact Int.mul_ediv_cancel_left _ (by omega)
theorem fd_neg {g : Nat} {x : Int} (hg : 0 < g) : ((g : Int) * x).fdiv (-(g : Int)) = -x := by
  rw [show (g : Int) * x = -(g : Int) * (-x) by rw [Int.neg_mul_neg]]
  exact Int.mul_fdiv_cancel_left _ (by omega)
theorem fr_lt (t : Int) {b : Int} (hb : b < 0) : t.fdiv (-(Int.gcd t b : Int)) = frT t b ∧ b.fdiv (-(Int.gcd t b : Int)) = frB t b := by
  obtain ⟨g, x, y, hg, eg, ht, hy, hy0, h1⟩ := fr_ex t (show b ≠ 0 by omega)
  rw [(fr_vals hg eg ht hy).1, (fr_vals hg eg ht hy).2, eg]
  have yn : y < 0 := by
    rw [hy] at hb
    exact Int.neg_of_mul_neg_right hb (by omega)
  constructor
  · conv => lhs; rw [ht]
    rw [fd_neg hg, Int.sign_eq_neg_one_of_neg yn]
    omega
  · conv => lhs; rw [hy]
    rw [fd_neg hg]
    omega
theorem fr_ge (t : Int) {b : Int} (hb : 0 < b) : t.fdiv (Int.gcd t b : Int) = frT t b ∧ b.fdiv (Int.gcd t b : Int) = frB t b := by
  obtain ⟨g, x, y, hg, eg, ht, hy, hy0, h1⟩ := fr_ex t (show b ≠ 0 by omega)
  rw [(fr_vals hg eg ht hy).1, (fr_vals hg eg ht hy).2, eg]
  have yn : 0 < y := by
    rw [hy] at hb
    exact Int.pos_of_mul_pos_right hb (by omega)
  constructor
  · conv => lhs; rw [ht]
    rw [fd_pos hg, Int.sign_eq_one_of_pos yn]
    omega
  · conv => lhs; rw [hy]
    rw [fd_pos hg]
    omega
/-! sizes -/
def S (n : Nat) (x : Int) : Prop := x.natAbs < 2 ^ n
theorem S.mono {n m : Nat} {x : Int} (h : S n x) (l : n ≤ m) : S m x := Nat.lt_of_lt_of_le h (Nat.pow_le_pow_right (by decide) l)
theorem S.mul {n m : Nat} {x y : Int} (h : S n x) (k : S m y) : S (n + m) (x * y) := by
  unfold S at *
  rw [Int.natAbs_mul, Nat.pow_add]
  exact Nat.mul_lt_mul'' h k
theorem S.add {n : Nat} {x y : Int} (h : S n x) (k : S n y) : S (n + 1) (x + y) := by
  unfold S at *
  rw [Nat.pow_succ]
  omega
theorem S.sub {n : Nat} {x y : Int} (h : S n x) (k : S n y) : S (n + 1) (x - y) := by
  unfold S at *
  rw [Nat.pow_succ]
  omega
theorem S.frT {n : Nat} {t b : Int} (h : S n t) (hb : b ≠ 0) : S n (frT t b) := Nat.lt_of_le_of_lt (fr_absT t hb) h
theorem S.frB {n : Nat} {t b : Int} (h : S n b) (hb : b ≠ 0) : S n (frB t b) := Nat.lt_of_le_of_lt (fr_absB t hb) h
theorem abs_eq (i : Int) : (if i < 0 then -i else i) = (i.natAbs : Int) := by
  split <;> omega
/-! the same rules with the written part by its name: for the inside of comprehensions -/
theorem pg_tupK {X : Cx} {K : PySem.W.Frag} {es : List Expr} {k n : Nat} {pos : Pos} {t : TGs} (h : X.K = K) (hc : X.calm = true) (hg : PGs X es t) (hn : (assignEach es X.env).length = n := by rfl) (hst : (assignEach es X.env).findIdx? (·.1) = none := by rfl) : PG X (.Tuple es k pos) (gTup K n t) := by
  subst h
  exact pg_tup hc hg hn hst
theorem isiK {X : Cx} {K : PySem.W.Frag} (h : X.K = K) : CallR X (.builtin "isinstance") (rIsi K) := by
  subst h
  exact call_isi
theorem ixlK {X : Cx} {K : PySem.W.Frag} (h : X.K = K) : IxR X (rIxL K) := by
  subst h
  exact ix_list
theorem ixtK {X : Cx} {K : PySem.W.Frag} (h : X.K = K) : IxR X (rIxT K) := by
  subst h
  exact ix_tup
theorem lenK {X : Cx} {K : PySem.W.Frag} (h : X.K = K) : CallR X (.builtin "len") (fun xs H Q => ∃ p ys, xs = [.ref p] ∧ (SqL K H p ys ∨ SqT K H p ys) ∧ Q (.int ys.length) H) := by
  subst h
  exact call_len_seq
theorem sumK {X : Cx} {K : PySem.W.Frag} (h : X.K = K) (hc : X.calm = true) : CallR X (.builtin "sum") (rSum K) := by
  subst h
  exact cr_sum hc
theorem yes_ite {σ : L2.St} {H : Hp} {A B : Hp → Prop} (h : A H) : tYes σ H (fun b H3 => if b = true then A H3 else B H3) := by
  show if true = true then A H else B H
  rw [if_pos rfl]
  exact h
/-! heaps -/
theorem same_upd {H : Hp} {p : Addr} {o : HO} (h : H p = none) : Same H (upd H p o) := fun b x e => by
  rw [upd_ne (ne_of_none e h)]
  exact e
def But (p : Addr) (H H' : Hp) : Prop := ∀ b o, b ≠ p → H b = some o → H' b = some o
theorem But.trans {p : Addr} {H H1 H2 : Hp} (a : But p H H1) (b : But p H1 H2) : But p H H2 := fun c o n e => b c o n (a c o n e)
theorem But.refl (p : Addr) (H : Hp) : But p H H := fun _ _ _ e => e
theorem But.put {p : Addr} {H H' : Hp} {o : HO} (a : But p H H') : But p H (L2.upd H' p o) := fun c x n e => by
  rw [upd_ne n]
  exact a c x n e
theorem same_but {p : Addr} {H H' : Hp} (a : Same H H') : But p H H' := fun c x _ e => a c x e
theorem But.new {p q : Addr} {H H' : Hp} {o : HO} (a : But p H H') (n : H' q = none) : But p H (upd H' q o) := fun c x hn e => by
  have e2 := a c x hn e
  rw [upd_ne (ne_of_none e2 n)]
  exact e2
/-- objects made since H may change: what H has stays -/
theorem same_newer {H H' : Hp} {q : Addr} {o : HO} (a : Same H H') (n : H q = none) : Same H (upd H' q o) := fun c x e => by
  rw [upd_ne (ne_of_none e n)]
  exact a c x e
theorem But.same {p : Addr} {H H1 H2 : Hp} (n : H p = none) (a : Same H H1) (b : But p H1 H2) : Same H H2 := fun c x e =>
  b c x (ne_of_none e n) (a c x e)
/-- the box: a rest, a begin, how often -/
def Bx (H : Hp) (p : Addr) (n : Nat) : Prop := ∃ a b c : Int, H p = some (.lst [.int a, .int b, .int c]) ∧ 0 ≤ a ∧ 0 ≤ b ∧ b < 2147483647 ∧ 0 ≤ c ∧ c ≤ n
theorem Bx.same {H H' : Hp} {p : Addr} {n : Nat} (h : Bx H p n) (s : Same H H') : Bx H' p n := by
  obtain ⟨a, b, c, hp, r⟩ := h
  exact ⟨a, b, c, s _ _ hp, r⟩
theorem Bx.mono {H : Hp} {p : Addr} {n m : Nat} (h : Bx H p n) (l : n ≤ m) : Bx H p m := by
  obtain ⟨a, b, c, hp, h1, h2, h3, h4, h5⟩ := h
  exact ⟨a, b, c, hp, h1, h2, h3, h4, by omega⟩
theorem Bx.new {H : Hp} {p q : Addr} {n : Nat} {o : HO} (h : Bx H p n) (nq : H q = none) : Bx (L2.upd H q o) p n := h.same (same_upd nq)
theorem Bx.ne_tup {H : Hp} {p q : Addr} {n : Nat} {xs : List V} (h : Bx H p n) (e : H q = some (.tup xs)) : q ≠ p := by
  obtain ⟨a, b, c, hp, _⟩ := h
  exact ne_of e hp (fun z => by cases z)
/-- an item of a menu of numbers -/
theorem at_menu {Pr : Int → Prop} {xs : List Int} {r : Int} (h0 : 0 ≤ r) (h1 : r < xs.length) (hx : ∀ x, x ∈ xs → Pr x) : ∃ v, atI (xs.map V.int) r = some (V.int v) ∧ Pr v := by
  obtain ⟨j, rfl⟩ := Int.eq_ofNat_of_zero_le h0
  have hj : j < xs.length := by omega
  refine ⟨xs[j], atI_nat (by rw [List.getElem?_map, List.getElem?_eq_getElem hj]; rfl), hx _ (List.getElem_mem hj)⟩
theorem SqL.mk {K : PySem.W.Frag} {H : Hp} {a : Addr} {xs : List V} (h : H a = some (.lst xs)) : SqL K H a xs := .inl (.inl h)
theorem SqT.mk {K : PySem.W.Frag} {H : Hp} {a : Addr} {xs : List V} (h : H a = some (.tup xs)) : SqT K H a xs := .inl (.inl h)
theorem same_tup {K : PySem.W.Frag} {H H' : Hp} {a : Addr} {xs : List V} (e : Same H H') (h : SqT K H a xs) : SqT K H' a xs := by
  rcases h with (h | ⟨o, h⟩) | h
  · exact .inl (.inl (e _ _ h))
  · exact .inl (.inr ⟨o, e _ _ h⟩)
  · exact .inr h
theorem ixn {n j : Nat} (hj : j < n) : ixN n (j : Int) = some j := by
  unfold ixN
  rw [if_pos (by omega), if_pos (by omega)]
  simp
theorem cdivP {a m : Int} (h0 : 0 < m) (h1 : m < 2 ^ 60) : CDivP a m := ⟨h0, PyProof.noPylong_of_log2 (wide_div (i := a) (b := 60) h0 (by omega) (by decide) (by decide)).2⟩
theorem i01 {c : Prop} [Decidable c] : -(2 ^ 64) < (if c then (1 : Int) else 0) ∧ (if c then (1 : Int) else 0) < 2 ^ 64 := by
  split <;> decide
theorem i01n {c : Prop} [Decidable c] : 0 ≤ (if c then (1 : Int) else 0) := by
  split <;> decide
theorem absn (i : Int) : 0 ≤ (if i < 0 then -i else i) := by
  split <;> omega
/-! the box of a cell -/
def sp__law_box (K : PySem.W.Frag) : Sp := fun vs H Q _ => ∃ (a : Addr) (ns : List Int) (k : Nat), vs = [.ref a, .int (k : Nat)] ∧ SqL K H a (ns.map V.int) ∧ k < 1000 ∧
  ∀ H' p, Same H H' → H p = none → Bx H' p 0 → Q (.ref p) H'
theorem ok__law_box (T : Defs K mg) (TT : Tabs T base) : FnOk P w K mg base CX0 1 T.f__law_box T.fd__law_box ["_law_script", "_law_k"] (sp__law_box K) := by
  refine T.F__law_box.ok sc__law_box (fun vs H Q E h => ?_) (fun cdv A outer s H vs Q E hr h => ?_)
  · obtain ⟨a, ns, k, rfl, hS, hk, q⟩ := h
    rfl
  · obtain ⟨a, ns, k, rfl, hS, hk, q⟩ := h
    refine ⟨_, PSs.nox (pss_cons (ps_set (i := 2) sc__law_box.nd rfl (.inl rfl) pe_int)
    (pss_cons (ps_if (pt_cmpR op_lt (pv 1) (pe_callB call_len_seq (by rfl) T.m_len bt_len (pa_cons (pv 0) pa_nil)) (nomark _)) (pss_one (ps_set (i := 2) sc__law_box.nd rfl (.inl rfl) (pe_ix ix_list (pv 0) (pv 1) (fun _ _ => rfl)))) pss_nil)
    (pss_one (ps_ret (pe_lst (pa_cons (pe_op op_mul (pe_callB call_abs (by rfl) T.m_abs bt_abs (pa_cons (pv 2) pa_nil)) (pe_callTy call_int1 (by rfl) T.m_int bt_int (pa_cons (pe_cmpR op_ge (pe_callB call_abs (by rfl) T.m_abs bt_abs (pa_cons (pv 2) pa_nil)) (pe_op op_pow pe_int pe_int) (nomark _)) pa_nil))) (pa_cons (pe_op op_mod (pe_op op_add (pv 2) (pe_op op_mul (pe_op op_mul pe_int (pv 1)) (pv 1))) pe_int) (pa_cons pe_int pa_nil)))))))), ?_⟩
    refine ⟨.int k, rfl, .ref a, rfl, a, _, rfl, .inl hS, _, _, rfl, rfl, _, rfl, ite2 (fun e => ?_) (fun e => ?_)⟩
    · have hl : (k : Int) < ((ns.map V.int).length : Nat) := of_decide_eq_true e
      rw [List.length_map] at hl
      have hj : k < ns.length := by omega
      refine ⟨.ref a, rfl, .int k, rfl, a, _, _, .int ns[k], rfl, rfl, hS, atI_nat (by rw [List.getElem?_map, List.getElem?_eq_getElem hj]; rfl), ?_⟩
      refine ⟨_, rfl, _, rfl, _, rfl, _, rfl, _, _, rfl, rfl, ⟨by decide, by decide, by decide⟩, _, _, rfl, rfl, .inr ⟨_, rfl, _, _, rfl, rfl, .inr i01, _, rfl, .int k, rfl, _, _, rfl, rfl, .inl ⟨by decide, by decide⟩, .int k, rfl, _, _, rfl, rfl, .inr ⟨by omega, by omega⟩, _, _, rfl, rfl, _, _, rfl, rfl, (show (0 : Int) < 2147483647 by decide), (show 3 ≤ sizeLine by decide), fun p np => ?_⟩⟩
      refine q _ p (same_upd np) np ⟨_, _, _, upd_same, ?_, Int.emod_nonneg _ (by decide), Int.emod_lt_of_pos _ (by decide), Int.le_refl 0, Int.le_refl 0⟩
      exact Int.mul_nonneg (absn _) i01n
    · refine ⟨_, rfl, _, rfl, _, rfl, _, rfl, _, _, rfl, rfl, ⟨by decide, by decide, by decide⟩, _, _, rfl, rfl, .inr ⟨_, rfl, _, _, rfl, rfl, .inr i01, _, rfl, .int k, rfl, _, _, rfl, rfl, .inl ⟨by decide, by decide⟩, .int k, rfl, _, _, rfl, rfl, .inr ⟨by omega, by omega⟩, _, _, rfl, rfl, _, _, rfl, rfl, (show (0 : Int) < 2147483647 by decide), (show 3 ≤ sizeLine by decide), fun p np => ?_⟩⟩
      refine q _ p (same_upd np) np ⟨_, _, _, upd_same, ?_, Int.emod_nonneg _ (by decide), Int.emod_lt_of_pos _ (by decide), Int.le_refl 0, Int.le_refl 0⟩
      exact Int.mul_nonneg (absn _) i01n
/-! one number taken -/
def sp__law_take (K : PySem.W.Frag) : Sp := fun vs H Q _ => ∃ (p : Addr) (m : Int) (n : Nat), vs = [.ref p, .int m] ∧ Bx H p n ∧ 0 < m ∧ m < 2 ^ 60 ∧ n < 1000000000000 ∧
  ∀ H' r, But p H H' → Bx H' p (n + 1) → 0 ≤ r → r < m → Q (.int r) H'
theorem ok__law_take (T : Defs K mg) (TT : Tabs T base) : FnOk P w K mg base CX0 1 T.f__law_take T.fd__law_take ["_law_box_here", "_law_many"] (sp__law_take K) := by
  refine T.F__law_take.ok sc__law_take (fun vs H Q E h => ?_) (fun cdv A outer s H vs Q E hr h => ?_)
  · obtain ⟨p, m, n, rfl, ⟨a, b, c, hp, ha, hb, hb2, hc, hc2⟩, h0, h1, hn, q⟩ := h
    rfl
  · obtain ⟨p, m, n, rfl, ⟨a, b, c, hp, ha, hb, hb2, hc, hc2⟩, h0, h1, hn, q⟩ := h
    refine ⟨_, PSs.nox (pss_cons (ps_if (pt_cmpR op_gt (pe_ix ix_list (pv 0) pe_int (fun _ _ => rfl)) pe_int (nomark _)) (pss_cons (ps_asg (pe_callB call_divmodW (by rfl) T.m_divmod bt_divmod (pa_cons (pe_ix ix_list (pv 0) pe_int (fun _ _ => rfl)) (pa_cons (pv 1) pa_nil))) (pg_tup rfl (pgs_cons (pg_sub (pv 0) pe_int set_list) (pgs_cons (pg_name (i := 2) sc__law_take.nd rfl (.inl rfl)) pgs_nil))))
    (pss_one (ps_ret (pv 2)))) pss_nil)
    (pss_cons (ps_asg (pe_op op_add (pe_ix ix_list (pv 0) pe_int (fun _ _ => rfl)) pe_int) (pg_sub (pv 0) pe_int set_list))
    (pss_cons (ps_set (i := 3) sc__law_take.nd rfl (.inl rfl) (pe_op op_mod (pe_op op_pow (pe_op op_add (pe_ix ix_list (pv 0) pe_int (fun _ _ => rfl)) (pe_op op_mul pe_int (pe_ix ix_list (pv 0) pe_int (fun _ _ => rfl)))) pe_int) pe_int))
    (pss_one (ps_ret (pe_op op_mod (pe_op op_fdiv (pe_op op_mod (pe_op op_add (pe_op op_mul (pv 3) pe_int) (pe_op op_mul (pe_op op_mul (pe_ix ix_list (pv 0) pe_int (fun _ _ => rfl)) (pe_ix ix_list (pv 0) pe_int (fun _ _ => rfl))) pe_int)) pe_int) pe_int) (pv 1))))))), ?_⟩
    have SQ : SqL K H p [.int a, .int b, .int c] := SqL.mk hp
    refine ⟨.ref p, rfl, p, _, 0, _, rfl, rfl, SQ, atI_nat (j := 0) rfl, _, _, rfl, rfl, _, rfl, ite2 (fun e => ?_) (fun e => ?_)⟩
    · refine ⟨.ref p, rfl, p, _, 0, _, rfl, rfl, SQ, atI_nat (j := 0) rfl, .int m, rfl, a, m, rfl, cdivP h0 h1, fun t nt => ?_⟩
      have hp1 : (upd H t (.tup [.int (a / m), .int (a % m)])) p = some (.lst [.int a, .int b, .int c]) := by
        rw [upd_ne (ne_of_none hp nt)]
        exact hp
      refine ⟨t, _, rfl, SqT.mk upd_same, rfl, _, _, rfl, .ref p, rfl, p, _, 0, 0, rfl, rfl, hp1, rfl, _, _, rfl, rfl, _, rfl, ?_⟩
      refine q _ _ ((But.refl p H).new nt).put ⟨_, _, _, upd_same, Int.ediv_nonneg ha (by omega), hb, hb2, hc, by omega⟩ (Int.emod_nonneg _ (by omega)) (Int.emod_lt_of_pos _ h0)
    · refine ⟨.ref p, rfl, p, _, 2, _, rfl, rfl, SQ, atI_nat (j := 2) rfl, _, _, rfl, rfl, .ref p, rfl, p, _, 2, 2, rfl, rfl, hp, rfl, ?_⟩
      have SQ1 : SqL K (upd H p (.lst [.int a, .int b, .int (c + 1)])) p [.int a, .int b, .int (c + 1)] := SqL.mk upd_same
      refine ⟨.ref p, rfl, p, _, 1, _, rfl, rfl, SQ1, atI_nat (j := 1) rfl, .ref p, rfl, p, _, 2, _, rfl, rfl, SQ1, atI_nat (j := 2) rfl, _, _, rfl, rfl, .inl ⟨by decide, by decide⟩, _, _, rfl, rfl, _, _, rfl, rfl, ⟨by decide, by decide, by omega⟩, _, _, rfl, rfl, (show (0 : Int) < 2147483647 by decide), ?_⟩
      refine ⟨_, rfl, _, _, rfl, rfl, .inr ⟨by decide, by decide⟩, .ref p, rfl, p, _, 2, _, rfl, rfl, SQ1, atI_nat (j := 2) rfl, .ref p, rfl, p, _, 2, _, rfl, rfl, SQ1, atI_nat (j := 2) rfl, _, _, rfl, rfl, .inl ⟨by omega, by omega⟩, _, _, rfl, rfl, .inr ⟨by decide, by decide⟩, _, _, rfl, rfl, _, _, rfl, rfl, (show (0 : Int) < 2147483629 by decide), _, _, rfl, rfl, ⟨by decide, by decide⟩, .int m, rfl, _, _, rfl, rfl, h0, ?_⟩
      refine q _ _ (But.refl p H).put ⟨_, _, _, upd_same, ha, hb, hb2, by omega, by omega⟩ (Int.emod_nonneg _ (by omega)) (Int.emod_lt_of_pos _ h0)
/-! the folded cells -/
theorem cut_take (ns : List Int) (m : Nat) : cutV (ns.map V.int) none (some (m : Int)) = (ns.take m).map V.int := by
  unfold cutV
  rw [HT.sIx_none, HT.sIx_nat, List.drop_zero, List.length_map, Nat.sub_zero, ← List.map_take]
  congr 1
  by_cases h : m ≤ ns.length
  · rw [Nat.min_eq_left h]
  · rw [Nat.min_eq_right (by omega), List.take_length, List.take_of_length_le (by omega)]
theorem cut_rest (ns : List Int) (m k : Nat) : ∃ ms : List Int, cutV (ns.map V.int) (some (m : Int)) (some (k : Int)) = ms.map V.int ∧ (0 < ms.length → m < ns.length) ∧ ms.length ≤ ns.length := by
  unfold cutV
  rw [HT.sIx_nat, HT.sIx_nat, List.length_map]
  refine ⟨(ns.drop (min m ns.length)).take (min k ns.length - min m ns.length), ?_, fun h => ?_, ?_⟩
  · rw [List.map_take, List.map_drop]
  · rw [List.length_take, List.length_drop] at h
    omega
  · rw [List.length_take, List.length_drop]
    omega
def sp__law_folded (K : PySem.W.Frag) : Sp := fun vs H Q _ => ∃ (a : Addr) (ns : List Int) (m : Nat), vs = [.ref a, .int (m : Nat)] ∧ SqL K H a (ns.map V.int) ∧ ns.length ≤ 63 ∧ 0 < m ∧ m < 64 ∧
  ∀ H' p (cs : List Int), Same H H' → H p = none → H' p = some (.lst (cs.map V.int)) → cs.length ≤ m → Q (.ref p) H'
theorem ok__law_folded (T : Defs K mg) (TT : Tabs T base) : FnOk P w K mg base CX0 1 T.f__law_folded T.fd__law_folded ["_law_script", "_law_many"] (sp__law_folded K) := by
  refine T.F__law_folded.ok sc__law_folded (fun vs H Q E h => ?_) (fun cdv A outer s H vs Q E hr h => ?_)
  · obtain ⟨a, ns, m, rfl, hS, hlen, hm, hm2, q⟩ := h
    rfl
  · obtain ⟨a, ns, m, rfl, hS, hlen, hm, hm2, q⟩ := h
    refine ⟨_, PSs.nox (pss_cons (ps_set (i := 2) sc__law_folded.nd rfl (.inl rfl) (pe_callTy call_list_of (by rfl) T.m_list bt_list (pa_cons (pe_slice sl_list (pv 0) po_none (po_some (pv 1))) pa_nil)))
    (pss_cons ((ps_for PassesOwn.never rfl (pi_enum (by rfl) T.m_enumerate (pa_cons (pe_slice sl_list (pv 0) (po_some (pv 1)) (po_some pe_int)) pa_nil)) (pg_tup rfl (pgs_cons (pg_name (i := 3) sc__law_folded.nd rfl (.inl rfl)) (pgs_cons (pg_name (i := 4) sc__law_folded.nd rfl (.inl rfl)) pgs_nil))) (pss_one (ps_asg (pe_op op_add (pe_ix ix_list (pv 2) (pe_op op_mod (pv 3) (pv 1)) (fun _ _ => rfl)) (pe_op op_mul (pv 4) (pe_op op_add (pv 3) pe_int))) (pg_sub (pv 2) (pe_op op_mod (pv 3) (pv 1)) set_list)))))
    (pss_one (ps_ret (pv 2))))), ?_⟩
    refine ⟨.ref a, rfl, .int m, rfl, m, rfl, a, _, rfl, hS, fun c nc => ?_⟩
    rw [cut_take]
    have s1 : Same H (upd H c (.lst ((ns.take m).map V.int))) := same_upd nc
    refine ⟨c, _, rfl, .inl (SqL.mk upd_same), fun l nl => ?_⟩
    have s2 := s1.trans (same_upd nl (o := .lst ((ns.take m).map V.int)))
    refine ⟨.ref a, rfl, .int m, rfl, m, rfl, 63, rfl, a, _, rfl, s2.seq hS, fun d nd => ?_⟩
    obtain ⟨ms, em, hms, hms2⟩ := cut_rest ns m 63
    rw [show (63 : Int) = ((63 : Nat) : Int) from rfl, em]
    have nl0 : H l = none := s1.free nl
    have nd0 : H d = none := s2.free nd
    have ndl : l ≠ d := fun e => by
      rw [← e, upd_same] at nd
      cases nd
    refine ⟨d, _, rfl, SqL.mk upd_same, for_it (walk_enum (xs := ms.map V.int)) (fun i σ H3 => ∃ y3 y4, ∃ cs : List Int, σ = [some (.ref a), some (.int m), some (.ref l), y3, y4] ∧ Same H H3 ∧ H3 l = some (.lst (cs.map V.int)) ∧ cs.length = (ns.take m).length ∧ H3 d = some (.lst (ms.map V.int))) ⟨none, none, ns.take m, rfl, s2.trans (same_upd nd), ?_, rfl, upd_same⟩ ?_ ?_ ?_⟩
    · rw [upd_ne ndl, upd_same]
    · rintro i σ H3 hi ⟨y3, y4, cs, rfl, s3, hl, hc, hd⟩
      exact SqL.mk hd
    · rintro i x σ H3 H4 hi ⟨y3, y4, cs, rfl, s3, hl, hc, hd⟩ ⟨t, x1, x2, rfl, nt, rfl, e1, e2⟩
      rw [List.length_map] at hi
      have lm : m < ns.length := hms (by omega)
      have lc : cs.length = m := by
        rw [hc, List.length_take]
        omega
      have ex1 : x1 = .int (i : Nat) := (Option.some.inj e1).symm
      have ex2 : x2 = .int ms[i] := by
        have e2 : (ms.map V.int)[i]? = some x2 := e2
        rw [List.getElem?_map, List.getElem?_eq_getElem hi] at e2
        exact (Option.some.inj e2).symm
      subst ex1 ex2
      have hl1 : (upd H3 t (.tup [.int (i : Nat), .int ms[i]])) l = some (.lst (cs.map V.int)) := by
        rw [upd_ne (ne_of_none hl nt)]
        exact hl
      have him : i % m < cs.length := by
        rw [lc]
        exact Nat.mod_lt _ hm
      have eim : ((i : Int) % (m : Int)) = ((i % m : Nat) : Int) := by omega
      refine ⟨t, _, rfl, SqT.mk upd_same, rfl, _, _, rfl, _, _, rfl, rfl, ?_⟩
      refine ⟨.ref l, rfl, .int (i : Nat), rfl, .int m, rfl, _, _, rfl, rfl, (show (0 : Int) < (m : Int) by omega), l, _, _, .int cs[i % m], rfl, rfl, SqL.mk hl1, ?_, .int ms[i], rfl, .int (i : Nat), rfl, _, _, rfl, rfl, _, _, rfl, rfl, .inr ⟨by omega, by omega⟩, _, _, rfl, rfl, .ref l, rfl, .int (i : Nat), rfl, .int m, rfl, _, _, rfl, rfl, (show (0 : Int) < (m : Int) by omega), l, _, _, i % m, rfl, rfl, hl1, ?_, ?_⟩
      · rw [eim]
        exact atI_nat (by rw [List.getElem?_map, List.getElem?_eq_getElem him]; rfl)
      · rw [eim]
        exact ixn (by rw [List.length_map]; exact him)
      · refine ⟨_, _, cs.set (i % m) (cs[i % m] + ms[i] * ((i : Int) + 2)), rfl, same_newer (s3.trans (same_upd nt)) nl0, ?_, by rw [List.length_set, hc], ?_⟩
        · rw [upd_same, List.map_set]
        · rw [upd_ne ndl.symm, upd_ne (ne_of_none hd nt)]
          exact hd
    · rintro σ H3 ⟨y3, y4, cs, rfl, s3, hl, hc, hd⟩
      exact ⟨.ref l, rfl, q H3 l cs s3 nl0 hl (by rw [hc, List.length_take]; omega)⟩
/-! the program's own -/
theorem op_fdivNW {X : Cx} : OpR X (binaryOp .FloorDiv) (rI (fun _ j => j ≠ 0 ∧ j.natAbs.log2 < 9000) fun i j => .int (i.fdiv j)) := opI fun _ _ _ _ _ _ _ hc q => floordiv_int hc.1 q (.inl (PyProof.noPylong_of_log2 hc.2))
theorem gcd_step (x y : Nat) : Nat.gcd y (x % y) = Nat.gcd x y := by
  rw [Nat.gcd_comm y, ← Nat.gcd_rec, Nat.gcd_comm]
theorem gcd_small {t b : Int} (hb : b ≠ 0) (h : S 4000 b) : (Int.gcd t b : Int).natAbs.log2 < 9000 := by
  have h1 : Int.gcd t b ≤ b.natAbs := Nat.le_of_dvd (by omega) (Nat.gcd_dvd_right _ _)
  have h2 : 0 < Int.gcd t b := Int.gcd_pos_of_ne_zero_right t hb
  exact (wide_div (i := 0) (j := (Int.gcd t b : Int)) (b := 4000) (by omega) (by rw [Int.natAbs_natCast]; exact Nat.lt_of_le_of_lt h1 h) (by decide) (by decide)).2
def sp_common_divisor (_ : PySem.W.Frag) : Sp := fun vs H Q _ => ∃ a b : Int, vs = [.int a, .int b] ∧ Q (.int (if (1 : Int) > (Int.gcd a b : Int) then 1 else (Int.gcd a b : Int))) H
theorem ok_common_divisor (T : Defs K mg) (TT : Tabs T base) : FnOk P w K mg base CX0 1 T.f_common_divisor T.fd_common_divisor ["one", "other"] (sp_common_divisor K) := by
  refine T.F_common_divisor.ok sc_common_divisor (fun vs H Q E h => ?_) (fun cdv A outer s H vs Q E hr h => ?_)
  · obtain ⟨a, b, rfl, q⟩ := h
    rfl
  · obtain ⟨a, b, rfl, q⟩ := h
    refine ⟨_, PSs.nox (pss_cons (ps_set (i := 0) sc_common_divisor.nd rfl (.inl rfl) (pe_callB call_abs (by rfl) T.m_abs bt_abs (pa_cons (pv 0) pa_nil)))
    (pss_cons (ps_set (i := 1) sc_common_divisor.nd rfl (.inl rfl) (pe_callB call_abs (by rfl) T.m_abs bt_abs (pa_cons (pv 1) pa_nil)))
    (pss_cons (ps_while PassesOwn.never (pt_cmpR op_gt (pv 1) pe_int (nomark _)) (pss_one (ps_par (i := 0) (j := 1) (by rfl) sc_common_divisor.nd rfl rfl (by decide) rfl rfl (pa_cons (pv 1) (pa_cons (pe_op op_mod (pv 0) (pv 1)) pa_nil)) (by rfl))))
    (pss_one (ps_ret (pe_callB (call_max2 rfl) (by rfl) T.m_max bt_max (pa_cons (pv 0) (pa_cons pe_int pa_nil)))))))), ?_⟩
    refine ⟨.int a, rfl, a, rfl, .int b, rfl, b, rfl, ?_⟩
    refine while_by (fun σ H1 => H1 = H ∧ ∃ x y : Nat, σ = [some (.int (x : Nat)), some (.int (y : Nat))] ∧ Nat.gcd x y = Int.gcd a b) (fun σ _ => match σ with | [_, some (.int y)] => y.toNat | _ => 0) ⟨rfl, a.natAbs, b.natAbs, ?_, rfl⟩ ?_ ?_
    · rw [abs_eq, abs_eq]
      rfl
    · rintro σ H1 ⟨rfl, x, y, rfl, hg⟩
      refine ⟨.int (y : Nat), rfl, _, _, rfl, rfl, _, rfl, ite2 (fun e => ?_) (fun e => ?_)⟩
      · have hy : (0 : Int) < (y : Int) := of_decide_eq_true e
        refine ⟨.int (y : Nat), rfl, .int (x : Nat), rfl, .int (y : Nat), rfl, _, _, rfl, rfl, hy, _, _, rfl, ⟨rfl, y, x % y, ?_, ?_⟩, ?_⟩
        · rfl
        · rw [gcd_step, hg]
        · show ((x : Int) % (y : Int)).toNat < ((y : Int)).toNat
          have := Int.emod_lt_of_pos (x : Int) hy
          have := Int.emod_nonneg (x : Int) (show (y : Int) ≠ 0 by omega)
          omega
      · have hy : ¬ (0 : Int) < (y : Int) := fun z => e (decide_eq_true z)
        have y0 : y = 0 := by omega
        subst y0
        rw [Nat.gcd_zero_right] at hg
        refine ⟨.int (x : Nat), rfl, _, _, rfl, ?_⟩
        rw [hg]
        exact q
    · rintro σ H1 Q1 Q2 hQ ⟨v, hv, i, j, e1, e2, k, e3, h3⟩
      exact ⟨v, hv, i, j, e1, e2, k, e3, hQ _ _ h3⟩
def sp_fraction (_ : PySem.W.Frag) : Sp := fun vs H Q _ => ∃ t b : Int, vs = [.int t, .int b] ∧ b ≠ 0 ∧ S 4000 b ∧ ∀ H' p, Same H H' → H p = none → H' p = some (.tup [.int (frT t b), .int (frB t b)]) → Q (.ref p) H'
theorem ok_fraction (T : Defs K mg) (TT : Tabs T base) : FnOk P w K mg base CX0 2 T.f_fraction T.fd_fraction ["top", "bottom"] (sp_fraction K) := by
  have G_common_divisor : FnOk P w K mg base CX0 1 T.f_common_divisor T.fd_common_divisor ["one", "other"] (sp_common_divisor K) := ok_common_divisor T TT
  refine T.F_fraction.ok sc_fraction (fun vs H Q E h => ?_) (fun cdv A outer s H vs Q E hr h => ?_)
  · obtain ⟨t, b, rfl, hb, hs, q⟩ := h
    rfl
  · obtain ⟨t, b, rfl, hb, hs, q⟩ := h
    refine ⟨_, PSs.nox (pss_cons (ps_set (i := 2) sc_fraction.nd rfl (.inl rfl) (pe_call G_common_divisor (hr.mono (by decide)) (by rfl) T.g_common_divisor T.F_common_divisor.kp T.b_common_divisor .nil pass0 (pa_cons (pv 0) (pa_cons (pv 1) pa_nil))))
    (pss_cons (ps_if (pt_cmpR op_lt (pv 1) pe_int (nomark _)) (pss_one (ps_set (i := 2) sc_fraction.nd rfl (.inl rfl) (pe_un un_neg (pv 2)))) pss_nil)
    (pss_one (ps_ret (pe_tup (pa_cons (pe_op op_fdivNW (pv 0) (pv 2)) (pa_cons (pe_op op_fdivNW (pv 1) (pv 2)) pa_nil))))))), ?_⟩
    have hg : 0 < Int.gcd t b := Int.gcd_pos_of_ne_zero_right t hb
    have hd := gcd_small (t := t) hb hs
    refine ⟨.int t, rfl, .int b, rfl, t, b, rfl, ?_⟩
    rw [if_neg (show ¬ (1 : Int) > (Int.gcd t b : Int) by omega)]
    refine ⟨.int b, rfl, _, _, rfl, rfl, _, rfl, ite2 (fun e => ?_) (fun e => ?_)⟩
    · have hb1 : b < 0 := of_decide_eq_true e
      refine ⟨_, rfl, _, rfl, .int t, rfl, _, rfl, _, _, rfl, rfl, ⟨by omega, by rw [Int.natAbs_neg]; exact hd⟩, .int b, rfl, _, rfl, _, _, rfl, rfl, ⟨by omega, by rw [Int.natAbs_neg]; exact hd⟩, (show 2 ≤ sizeLine by decide), fun p np => ?_⟩
      refine q _ p (same_upd np) np ?_
      rw [upd_same]
      exact congrArg some (by rw [← (fr_lt t hb1).1, ← (fr_lt t hb1).2])
    · have hb1 : ¬ b < 0 := fun z => e (decide_eq_true z)
      refine ⟨.int t, rfl, _, rfl, _, _, rfl, rfl, ⟨by omega, hd⟩, .int b, rfl, _, rfl, _, _, rfl, rfl, ⟨by omega, hd⟩, (show 2 ≤ sizeLine by decide), fun p np => ?_⟩
      refine q _ p (same_upd np) np ?_
      rw [upd_same]
      exact congrArg some (by rw [← (fr_ge t (show 0 < b by omega)).1, ← (fr_ge t (show 0 < b by omega)).2])
/-! match x: case (word, names ..) -/
abbrev TCs := Addr → List V → TS
structure PCs (X : Cx) (cs : List MatchCase) (t : TCs) : Prop where
  run : ∀ (pins : List (Addr × Obj)) (s : Shared) (σ : L2.St) (H : Hp) (D : L2.Ends) (a : Addr) (xs : List V) (first : Bool), Inv X pins σ H s → SqT X.K H a xs → t a xs D σ H →
    wpAny (model X.prog X.w) X.A (matchCases cs X.env (.ref a) first) (SP X pins D) X.xe s
def tMatch (K : PySem.W.Frag) (te : TE) (tc : TCs) : TS := fun D σ H => te σ H fun v H1 => ∃ a xs, v = .ref a ∧ SqT K H1 a xs ∧ tc a xs D σ H1
theorem ps_match {X : Cx} {e : Expr} {cs : List MatchCase} {pos : Pos} {te : TE} {tc : TCs} (he : PE X e te) (hc : PCs X cs tc) : PS X (.Match e cs pos) (tMatch X.K te tc) := by
  refine ⟨fun pins s σ H D I h => ?_⟩
  refine wpAny_Match (thn (he.run pins s σ H _ I h) fun v s1 ⟨x, H1, I1, r1, a, xs, e1, hq, q⟩ => ?_)
  subst e1
  cases r1
  exact hc.run pins s1 σ H1 D a xs true I1 hq q
theorem pcs_nil {X : Cx} : PCs X [] (fun _ _ D σ H => D.nx σ H) := ⟨fun _ _ σ H _ _ _ _ I _ h => wpAny_matchCases_nil ⟨σ, H, I, h⟩⟩
theorem pcs_any {X : Cx} {body : List Stmt} {rest : List MatchCase} {pos : Pos} {tb : TS} (hb : PSs X body tb) : PCs X (⟨.MatchAs none none pos, none, body⟩ :: rest) (fun _ _ => tb) := by
  refine ⟨fun pins s σ H D a xs first I hq h => wpAny_matchCases_cons (wpAny_matchPattern_Capture ?_)⟩
  exact wpAny_assignInOrder_none (hb.run pins s σ H D I h)
/-- the slots i .. get the values .. in turn -/
def sets (σ : L2.St) : List Nat → List V → L2.St
  | i :: is, v :: vs => sets (σ.set i (some v)) is vs
  | _, _ => σ
structure PCap (X : Cx) (ps : List Pattern) (ns : List (Nat × Str)) : Prop where
  each : ∀ (s : Shared) (us : List Value) (Q : Option (List (Str × Value)) → Shared → Prop), us.length = ns.length → Q (some (List.zipWith (fun n u => (n.2, u)) ns us)) s → wpAny (model X.prog X.w) X.A (matchEach ps X.env us) Q X.xe s
  slot : ∀ n, n ∈ ns → X.N[n.1]? = some n.2 ∧ Loc X.env.scope n.2 ∧ (X.fn n.2 = true ∨ X.env.scope.names.lookup n.2 = some .local)
  len : ps.length = ns.length
theorem pcap_nil {X : Cx} : PCap X [] [] := ⟨fun s us Q hl h => wpAny_matchEach_nil (by
  rw [show us = [] from List.eq_nil_of_length_eq_zero hl] at h
  exact h), fun n hn => (by cases hn), rfl⟩
theorem pcap_cons {X : Cx} {i : Nat} {x : Str} {pos : Pos} {ps : List Pattern} {ns : List (Nat × Str)} (hi : X.N[i]? = some x) (hx : Loc X.env.scope x) (h : PCap X ps ns) (hf : X.fn x = true ∨ X.env.scope.names.lookup x = some .local := by first | exact .inl rfl | exact .inr rfl | assumption) :
    PCap X (.MatchAs none (some x) pos :: ps) ((i, x) :: ns) := by
  refine ⟨fun s us Q hl hQ => ?_, fun n hn => ?_, ?_⟩
  · match us, hl with
    | u :: us, hl =>
      refine wpAny_matchEach_cons (wpAny_matchPattern_Capture ?_)
      refine h.each s us _ (Nat.succ.inj hl) ?_
      exact hQ
  · rcases List.mem_cons.mp hn with rfl | hn
    · exact ⟨hi, hx, hf⟩
    · exact h.slot n hn
  · rw [List.length_cons, List.length_cons, h.len]
theorem bind_all {X : Cx} {pins : List (Addr × Obj)} {H : Hp} (hN : X.N.Nodup) : ∀ (ns : List (Nat × Str)) (us : List Value) (vs : List V) (σ : L2.St) (s : Shared) (Q : Unit → Shared → Prop),
    (∀ n, n ∈ ns → X.N[n.1]? = some n.2 ∧ Loc X.env.scope n.2 ∧ (X.fn n.2 = true ∨ X.env.scope.names.lookup n.2 = some .local)) → us.length = ns.length → Vals vs us → Inv X pins σ H s → (∀ s', Inv X pins (sets σ (ns.map Prod.fst) vs) H s' → Q () s') →
    wpAny (model X.prog X.w) X.A (assignInOrder ((List.zipWith (fun (n : Nat × Str) u => (n.2, u)) ns us).map fun (n, _) => bindName X.env n) ((List.zipWith (fun (n : Nat × Str) u => (n.2, u)) ns us).map (·.2))) Q X.xe s
  | [], us, vs, σ, s, Q, _, hl, r, I, q => by
    have e : us = [] := List.eq_nil_of_length_eq_zero hl
    subst e
    cases r
    exact wpAny_assignInOrder_none (q s I)
  | n :: ns, us, vs, σ, s, Q, hs, hl, r, I, q => by
    match us, vs, hl, r with
    | u :: us, v :: vs, hl, .cons r1 r2 =>
      obtain ⟨h1, h2, h3⟩ := hs n List.mem_cons_self
      refine wpAny_assignInOrder_more (wpAny_bindName (store_ok I hN h1 h2 r1 (fun s1 I1 => ?_) h3))
      exact bind_all hN ns us vs _ s1 Q (fun m hm => hs m (List.mem_cons_of_mem _ hm)) (Nat.succ.inj hl) r2 I1 q
def tCase (word : Str) (is : List Nat) (tb : TS) (rest : TCs) : TCs := fun a xs D σ H =>
  (xs.length ≠ is.length + 1 ∧ rest a xs D σ H) ∨ ∃ z ys, xs = .str z :: ys ∧ ys.length = is.length ∧ ((z = word ∧ tb D (sets σ is ys) H) ∨ (z ≠ word ∧ rest a xs D σ H))
theorem pcs_seq {X : Cx} {e : Expr} {word : Str} {vp sp : Pos} {ps : List Pattern} {ns : List (Nat × Str)} {body : List Stmt} {rest : List MatchCase} {tb : TS} {tr : TCs} (hc : X.calm = true) (hN : X.N.Nodup) (hw : PE X e (tC (.str word))) (hcap : PCap X ps ns) (hb : PSs X body tb) (hr : PCs X rest tr)
    (hstar : (.MatchValue e vp :: ps).findIdx? (·.isStar) = none := by rfl) (hwild : ((.MatchValue e vp :: ps).all fun p => p.isWildcard || (p.isStar && p.names.isEmpty)) = false := by rfl) :
    PCs X (⟨.MatchSequence (.MatchValue e vp :: ps) sp, none, body⟩ :: rest) (tCase word (ns.map Prod.fst) tb tr) := by
  refine ⟨fun pins s σ H D a xs first I hq h => ?_⟩
  obtain ⟨its, rv, ht, hz⟩ := I.tuple hq
  have hl := rv.length
  have hsl : sizeLine = 16777216 := by decide
  have hfit : ((its.toArray.size : Nat) : Int) < 2 ^ 63 := by
    rw [List.size_toArray]
    omega
  have lp := hcap.len
  have miss : ∀ s', Inv X pins σ H s' → tr a xs D σ H → wpAny (model X.prog X.w) X.A (matchCases rest X.env (.ref a) false) (SP X pins D) X.xe s' := fun s' I' q => hr.run pins s' σ H D a xs false I' hq q
  refine wpAny_matchCases_cons ?_
  rcases h with ⟨hn, h⟩ | ⟨z, ys, rfl, hn, h⟩
  · rw [List.length_map] at hn
    refine matchSeq_tuple_miss ht hfit (by rw [List.size_toArray, List.length_cons]; omega) ?_ hstar hwild
    exact miss _ (I.kept (t' := s.toks + 1 + 1) fun b o q => q) h
  · rw [List.length_map] at hn
    rw [List.length_cons] at hl
    refine matchSeq_tuple_hit ht hfit (by rw [List.size_toArray, List.length_cons]; omega) ?_ hstar hwild
    have e1 : (Pattern.MatchValue e vp :: ps).length = its.toArray.size := by
      rw [List.size_toArray, List.length_cons]
      omega
    have key : ∀ s2 : Shared, Inv X pins σ H s2 → wpAny (model X.prog X.w) X.A (matchEach (.MatchValue e vp :: ps) X.env its) (fun r s₁ => match r with
        | none => wpAny (model X.prog X.w) X.A (matchCases rest X.env (.ref a) false) (SP X pins D) X.xe s₁
        | some bs => wpAny (model X.prog X.w) X.A (assignInOrder (bs.map fun (n, _) => bindName X.env n) (bs.map (·.2))) (fun _ s₂ => wpAny (model X.prog X.w) X.A (execs body X.env) (SP X pins D) X.xe s₂) X.xe s₁) X.xe s2 := fun s2 I1 => by
      clear e1 hfit hz ht
      match its, rv, hl with
      | u :: us, .cons r1 r2, hl =>
        refine wpAny_matchEach_cons (wpAny_matchPattern_Value ?_)
        refine thn (hw.run pins s2 σ H (fun v H' => v = .str word ∧ H' = H) I1 ⟨rfl, rfl⟩) fun c s3 ⟨x, H3, I3, r3, e3, e4⟩ => ?_
        subst e3 e4
        refine thn (op_eq pins s3 σ H3 (.str z) (.str word) u c (fun v H' => v = .bl (decide (V.str z = V.str word)) ∧ H' = H3) I3 r1 r3 ⟨rfl, rfl, rfl⟩) fun d s4 ⟨y, H4, I4, r4, e5, e6⟩ => ?_
        subst e5 e6
        obtain rfl : d = Value.bool (decide (V.str z = V.str word)) := r4
        refine wpAny_truthy_bool ?_
        rcases h with ⟨rfl, h⟩ | ⟨ne, h⟩
        · rw [if_pos (decide_eq_true rfl)]
          have ul : us.length = ns.length := by
            have := r2.length
            omega
          refine hcap.each s4 us _ ul ?_
          show wpAny _ _ (assignInOrder _ _) _ _ s4
          exact bind_all hN ns us ys σ s4 _ hcap.slot ul r2 I4 fun s5 I5 => hb.run pins s5 _ H4 D I5 h
        · rw [if_neg (fun y => ne (V.str.inj (of_decide_eq_true y)))]
          exact miss s4 I4 h
    rw [e1]
    refine unpackItems_tuple (I.ok.hd hc) ht fun h' hx => ?_
    have I1 : Inv X pins σ H { s with heap := h', toks := s.toks + 1 + 1 } := I.kept (t' := s.toks + 1 + 1) fun b o q => hx b o (Nat.ne_of_lt (Heap.lt_size q)) q
    refine key _ ?_
    exact I1
/-! max(tuple), max(tuple, default=d) -/
def rMaxT (K : PySem.W.Frag) : List V → Hp → VK → Prop := fun vs H Q => ∃ (a : Addr) (ns : List Int), vs = [V.ref a] ∧ SqT K H a (ns.map V.int) ∧ 0 < ns.length ∧ ∀ m, m ∈ ns → (∀ y, y ∈ ns → y ≤ m) → Q (.int m) H
theorem best_in {ns : List Int} (h : 0 < ns.length) : ns.getD (argBest (fun i j => decide (ns.getD i 0 > ns.getD j 0)) (ns.length - 1)) 0 ∈ ns ∧ ∀ y, y ∈ ns → y ≤ ns.getD (argBest (fun i j => decide (ns.getD i 0 > ns.getD j 0)) (ns.length - 1)) 0 := by
  obtain ⟨h1, h2⟩ := argBest_gt (fun i => ns.getD i 0) (ns.length - 1)
  refine ⟨?_, fun y hy => ?_⟩
  · generalize argBest (fun i j => decide (ns.getD i 0 > ns.getD j 0)) (ns.length - 1) = k at h1
    have hk : k < ns.length := by omega
    rw [List.getD_eq_getElem?_getD, List.getElem?_eq_getElem hk]
    exact List.getElem_mem hk
  · obtain ⟨j, hj, rfl⟩ := List.getElem_of_mem hy
    have := h2 j (by omega)
    have e : ns.getD j 0 = ns[j] := by
      rw [List.getD_eq_getElem?_getD, List.getElem?_eq_getElem hj]
      rfl
    rw [← e]
    exact this
theorem ints_at {its : List Value} {ns : List Int} (rv : Vals (ns.map V.int) its) : ∀ (i : Nat) (v : Value), its.toArray[i]? = some v → ∃ t, v = Value.int (ns.getD i 0) t := fun i v hv => by
  have hv2 : its[i]? = some v := by simpa using hv
  have hl := rv.length
  rw [List.length_map] at hl
  have hi : i < ns.length := by
    have := (List.getElem?_eq_some_iff.mp hv2).1
    omega
  obtain ⟨u, hu, ru⟩ := rv.get (show (ns.map V.int)[i]? = some (V.int ns[i]) by rw [List.getElem?_map, List.getElem?_eq_getElem hi]; rfl)
  rw [hv2] at hu
  cases hu
  obtain ⟨t, rfl⟩ := (show ∃ t, v = Value.int ns[i] t from ru)
  exact ⟨t, by
    show Value.int ns[i] t = Value.int (ns.getD i 0) t
    rw [List.getD_eq_getElem?_getD, List.getElem?_eq_getElem hi]
    rfl⟩
theorem cr_maxT {X : Cx} (hc : X.calm = true) : CallR X (.builtin "max") (rMaxT X.K) := by
  intro pins s σ H vs us Q I r h
  obtain ⟨a, ns, rfl, hs, hne, q⟩ := h
  obtain ⟨its, rv, ht, _⟩ := I.tuple hs
  rw [Vals.ref1 r]
  have hh := I.ok.hd hc
  have lta : a < s.heap.objs.size := by
    obtain ⟨o, ho, _⟩ := id ht
    exact Heap.lt_size ho
  have hl := rv.length
  rw [List.length_map] at hl
  have hz : its.toArray.size = ns.length := by rw [List.size_toArray, hl]
  refine call_max_walk (wpAny_pyIter_tuple (show s.heap.IsTuple a its.toArray from ht) ⟨s.heap.objs.size, _, _, _, _, _, fun i j => decide (ns.getD i 0 > ns.getD j 0), rfl, Walks.tuple (A := X.A.in1) hh s.heap.objs.size a (Nat.ne_of_lt lta) its.toArray, ⟨⟨_, Heap.get?_push_size _ rfl, rfl, rfl⟩, (show s.heap.IsTuple a its.toArray from ht).at fun o e => Heap.get?_push_of_some _ e⟩, fun b hb => ?_, by rw [hz]; exact hne, CmpOf.ints_gt (fun i => ns.getD i 0) (ints_at rv), fun v h' tk hP hk => ?_⟩)
  · show b < (s.heap.push _).objs.size
    rw [Heap.size_push]
    rcases List.mem_cons.mp hb with z | z
    · rw [z]
      exact Nat.lt_succ_self _
    · rw [List.mem_singleton.mp z]
      exact Nat.lt_succ_of_lt lta
  · obtain ⟨t, rfl⟩ := ints_at rv _ _ hP
    rw [hz]
    obtain ⟨b1, b2⟩ := best_in hne
    refine ⟨.int _, H, I.kept fun b o e => hk b o (fun z => ?_) (Heap.get?_push_of_some _ e), ⟨_, rfl⟩, q _ b1 b2⟩
    rw [List.mem_singleton] at z
    rw [z] at e
    exact Nat.lt_irrefl _ (Heap.lt_size e)
theorem cr_maxTD {X : Cx} (hc : X.calm = true) : CallRK X (.builtin "max") [Str.ofString "default"] (fun vs zs H Q => (∃ z, zs = [z]) ∧ rMaxT X.K vs H Q) := by
  intro pins s σ H vs zs us ws Q I r rz h
  obtain ⟨⟨z, rfl⟩, a, ns, rfl, hs, hne, q⟩ := h
  obtain ⟨its, rv, ht, _⟩ := I.tuple hs
  rw [Vals.ref1 r]
  match ws, rz with
  | [d], .cons rd .nil =>
    have hh := I.ok.hd hc
    have lta : a < s.heap.objs.size := by
      obtain ⟨o, ho, _⟩ := id ht
      exact Heap.lt_size ho
    have hl := rv.length
    rw [List.length_map] at hl
    have hz : its.toArray.size = ns.length := by rw [List.size_toArray, hl]
    have none : ∀ (b : Addr) (o : Obj), ({ s.heap with objs := #[] } : Heap).get? b = some o → False := fun b o e => by
      have := Heap.lt_size e
      exact Nat.not_lt_zero _ this
    refine call_max_walkD (wpAny_pyIter_tuple (show s.heap.IsTuple a its.toArray from ht) ⟨s.heap.objs.size, _, _, _, _, _, _, { s.heap with objs := #[] }, fun i j => decide (ns.getD i 0 > ns.getD j 0), rfl, (Walks.tuple (A := X.A.in1) hh s.heap.objs.size a (Nat.ne_of_lt lta) its.toArray).toS, ⟨⟨_, Heap.get?_push_size _ rfl, rfl, rfl⟩, (show s.heap.IsTuple a its.toArray from ht).at fun o e => Heap.get?_push_of_some _ e⟩, fun b hb => ?_, fun b o e => (none b o e).elim, fun b o e => (none b o e).elim, fun e => by rw [hz] at e; omega, fun _ => ⟨fun i j vi vj s' Q' E' _ hi hj hq => CmpOf.ints_gt (fun i => ns.getD i 0) (ints_at rv) i j vi vj s' Q' E' hi hj hq, fun v s' hP hm => ?_⟩⟩)
    · show b < (s.heap.push _).objs.size
      rw [Heap.size_push]
      rcases List.mem_cons.mp hb with z | z
      · rw [z]
        exact Nat.lt_succ_self _
      · rw [List.mem_singleton.mp z]
        exact Nat.lt_succ_of_lt lta
    · obtain ⟨t, rfl⟩ := ints_at rv _ _ hP
      rw [hz]
      obtain ⟨b1, b2⟩ := best_in hne
      obtain ⟨h', g', d', t', o'⟩ := s'
      have eg : g' = s.gens := hm.gens
      have ed : d' = s.drawn := hm.drawn
      have eo : o' = s.os := hm.os
      subst eg ed eo
      refine ⟨.int _, H, I.kept (h' := h') (t' := t') fun b o e => hm.heap b o (fun z => ?_) (Heap.get?_push_of_some _ e), ⟨_, rfl⟩, q _ b1 b2⟩
      rw [List.mem_singleton] at z
      rw [z] at e
      exact Nat.lt_irrefl _ (Heap.lt_size e)
/-! sum(tuple) -/
theorem preSum_take (ns : List Int) : ∀ k, preSum (fun i => ns.getD i 0) k = (ns.take k).sum
  | 0 => rfl
  | k + 1 => by
    show preSum (fun i => ns.getD i 0) k + ns.getD k 0 = _
    rw [preSum_take ns k, List.take_add_one, List.getD_eq_getElem?_getD]
    cases ns[k]? with
    | none => simp
    | some x => simp
def rSumT (K : PySem.W.Frag) : List V → Hp → VK → Prop := fun vs H Q => ∃ (a : Addr) (ns : List Int), vs = [V.ref a] ∧ SqT K H a (ns.map V.int) ∧ Q (.int ns.sum) H
theorem cr_sumT {X : Cx} (hc : X.calm = true) : CallR X (.builtin "sum") (rSumT X.K) := by
  intro pins s σ H vs us Q I r h
  obtain ⟨a, ns, rfl, hs, q⟩ := h
  obtain ⟨its, rv, ht, _⟩ := I.tuple hs
  rw [Vals.ref1 r]
  have hh := I.ok.hd hc
  have lta : a < s.heap.objs.size := by
    obtain ⟨o, ho, _⟩ := ht
    exact Heap.lt_size ho
  have hl := rv.length
  rw [List.length_map] at hl
  refine call_sum_walkG (wpAny_pyIter_tuple (show s.heap.IsTuple a its.toArray from ht) ⟨s.heap.objs.size, _, _, _, _, _, fun i => ns.getD i 0, rfl, Walks.tuple (A := X.A.in1) hh s.heap.objs.size a (Nat.ne_of_lt lta) its.toArray, ⟨⟨_, Heap.get?_push_size _ rfl, rfl, rfl⟩, (show s.heap.IsTuple a its.toArray from ht).at fun o e => Heap.get?_push_of_some _ e⟩, fun b hb => ?_, fun i v hv => ?_, fun h' tk t' hk => ?_⟩)
  · show b < (s.heap.push _).objs.size
    rw [Heap.size_push]
    rcases List.mem_cons.mp hb with z | z
    · rw [z]
      exact Nat.lt_succ_self _
    · rw [List.mem_singleton.mp z]
      exact Nat.lt_succ_of_lt lta
  · have hv2 : its[i]? = some v := by simpa using hv
    have hi : i < ns.length := by
      have := (List.getElem?_eq_some_iff.mp hv2).1
      omega
    obtain ⟨u, hu, ru⟩ := rv.get (show (ns.map V.int)[i]? = some (V.int ns[i]) by rw [List.getElem?_map, List.getElem?_eq_getElem hi]; rfl)
    rw [hv2] at hu
    cases hu
    obtain ⟨t, rfl⟩ := (show ∃ t, v = Value.int ns[i] t from ru)
    exact ⟨t, by
      show Value.int ns[i] t = Value.int (ns.getD i 0) t
      rw [List.getD_eq_getElem?_getD, List.getElem?_eq_getElem hi]
      rfl⟩
  · rw [preSum_take, List.take_of_length_le (by rw [List.size_toArray]; omega)]
    refine ⟨.int _, H, I.kept fun b o e => hk b o (fun z => ?_) (Heap.get?_push_of_some _ e), ⟨_, rfl⟩, q⟩
    rw [List.mem_singleton] at z
    rw [z] at e
    exact Nat.lt_irrefl _ (Heap.lt_size e)
theorem sumTK {X : Cx} {K : PySem.W.Frag} (h : X.K = K) (hc : X.calm = true) : CallR X (.builtin "sum") (rSumT K) := by
  subst h
  exact cr_sumT hc
/-! what a register holds -/
def parF : Nat → Nat → Nat
  | 0, _ => 0
  | f + 1, n => (n % 2 + parF f (n / 2)) % 2
def par (n : Nat) : Nat := parF 7 n
def regS (w p x : Nat) : Nat := 2 * x % 2 ^ w + par (x &&& p)
def regA (w p s : Nat) : Nat → Nat
  | 0 => s
  | k + 1 => regS w p (regA w p s k)
def regI (w p z : Nat) : Nat := z / 2 + 2 ^ (w - 1) * ((z % 2 + par ((z / 2) &&& p)) % 2)
theorem par_lt (n : Nat) : par n < 2 := Nat.mod_lt _ (by decide)
theorem regS_lt {w p x : Nat} (hw : 1 ≤ w) : regS w p x < 2 ^ w := by
  unfold regS
  have h1 := par_lt (x &&& p)
  have h2 := Nat.mod_lt (2 * x) (Nat.two_pow_pos w)
  obtain ⟨v, rfl⟩ : ∃ v, w = v + 1 := ⟨w - 1, by omega⟩
  rw [Nat.pow_succ] at *
  have : 2 * x % (2 ^ v * 2) % 2 = 0 := by
    rw [Nat.mod_mul_left_mod]
    omega
  omega
theorem reg_back2 : ∀ p, p < 4 → 2 ≤ p → ∀ x, x < 4 → regI 2 p (regS 2 p x) = x := by decide +kernel
theorem reg_back3 : ∀ p, p < 8 → 4 ≤ p → ∀ x, x < 8 → regI 3 p (regS 3 p x) = x := by decide +kernel
theorem reg_back4 : ∀ p, p < 16 → 8 ≤ p → ∀ x, x < 16 → regI 4 p (regS 4 p x) = x := by decide +kernel
theorem reg_back5 : ∀ p, p < 32 → 16 ≤ p → ∀ x, x < 32 → regI 5 p (regS 5 p x) = x := by decide +kernel
theorem reg_back6 : ∀ p, p < 64 → 32 ≤ p → ∀ x, x < 64 → regI 6 p (regS 6 p x) = x := by decide +kernel
structure RgW (w p : Nat) : Prop where
  lo : 2 ≤ w
  hi : w ≤ 6
  pl : 2 ^ (w - 1) ≤ p
  ph : p < 2 ^ w
theorem reg_back {w p x : Nat} (h : RgW w p) (hx : x < 2 ^ w) : regI w p (regS w p x) = x := by
  obtain ⟨h1, h2, h3, h4⟩ := h
  match w, h1, h2 with
  | 2, _, _ => exact reg_back2 p h4 h3 x hx
  | 3, _, _ => exact reg_back3 p h4 h3 x hx
  | 4, _, _ => exact reg_back4 p h4 h3 x hx
  | 5, _, _ => exact reg_back5 p h4 h3 x hx
  | 6, _, _ => exact reg_back6 p h4 h3 x hx
theorem regA_lt {w p s : Nat} (h : RgW w p) (hs : s < 2 ^ w) : ∀ k, regA w p s k < 2 ^ w
  | 0 => hs
  | _ + 1 => regS_lt (by have := h.lo; omega)
theorem reg_inj {w p x y : Nat} (h : RgW w p) (hx : x < 2 ^ w) (hy : y < 2 ^ w) (e : regS w p x = regS w p y) : x = y := by
  rw [← reg_back h hx, e, reg_back h hy]
theorem regA_back {w p s : Nat} (h : RgW w p) (hs : s < 2 ^ w) : ∀ i d, regA w p s (i + d) = regA w p s i → regA w p s d = s
  | 0, d, e => by rw [Nat.zero_add] at e; exact e
  | i + 1, d, e => by
    rw [show i + 1 + d = (i + d) + 1 by omega] at e
    exact regA_back h hs i d (reg_inj h (regA_lt h hs _) (regA_lt h hs _) e)
theorem regA_zero {w p s : Nat} (h : RgW w p) (hs : s < 2 ^ w) (s0 : 0 < s) : ∀ k, 0 < regA w p s k
  | 0 => s0
  | k + 1 => by
    rcases Nat.eq_zero_or_pos (regA w p s (k + 1)) with z | z
    · exfalso
      have ih := regA_zero h hs s0 k
      have e0 : regS w p 0 = 0 := by
        unfold regS
        rw [Nat.mul_zero, Nat.zero_mod, Nat.zero_and]
        rfl
      have : regA w p s k = 0 := reg_inj h (regA_lt h hs k) (Nat.two_pow_pos w) (by rw [e0]; exact z)
      omega
    · exact z
theorem pigeon : ∀ (n : Nat) (l : List Nat), l.Nodup → (∀ x, x ∈ l → x < n) → l.length ≤ n
  | 0, l, _, h => by
    cases l with
    | nil => exact Nat.le_refl 0
    | cons x r => exact absurd (h x List.mem_cons_self) (Nat.not_lt_zero _)
  | n + 1, l, hd, h => by
    by_cases hm : n ∈ l
    · have h1 := pigeon n (l.erase n) (hd.erase n) fun x hx => by
        have h2 := (hd.mem_erase_iff).mp hx
        have := h x h2.2
        omega
      rw [List.length_erase_of_mem hm] at h1
      omega
    · have h1 := pigeon n l hd fun x hx => by
        have := h x hx
        have : x ≠ n := fun e => hm (e ▸ hx)
        omega
      omega
/-- the first k that comes back -/
structure IsPer (w p s k : Nat) : Prop where
  pos : 1 ≤ k
  le : k ≤ 2 ^ w
  back : regA w p s k = s
  first : ∀ j, 0 < j → j < k → regA w p s j ≠ s
theorem reg_nodup {w p s k : Nat} (h : RgW w p) (hs : s < 2 ^ w) (hf : ∀ j, 0 < j → j < k → regA w p s j ≠ s) : ((List.range k).map (regA w p s)).Nodup := by
  rw [List.nodup_iff_pairwise_ne, List.pairwise_map]
  refine List.pairwise_lt_range.imp_of_mem ?_
  intro a b ha hb hab e
  have hb := List.mem_range.mp hb
  refine hf (b - a) (by omega) (by omega) (regA_back h hs a (b - a) ?_)
  rw [show a + (b - a) = b by omega]
  exact e.symm
theorem per_ex {w p s : Nat} (h : RgW w p) (hs : s < 2 ^ w) : ∃ k, IsPer w p s k := by
  have ex : ∃ k, 1 ≤ k ∧ k ≤ 2 ^ w ∧ regA w p s k = s := by
    apply Classical.byContradiction
    intro hn
    have hf : ∀ j, 0 < j → j < 2 ^ w + 1 → regA w p s j ≠ s := fun j h0 h1 e => hn ⟨j, by omega, by omega, e⟩
    have := pigeon (2 ^ w) _ (reg_nodup h hs hf) fun x hx => by
      obtain ⟨j, _, rfl⟩ := List.mem_map.mp hx
      exact regA_lt h hs j
    rw [List.length_map, List.length_range] at this
    omega
  -- the least such
  have least : ∀ n, ∀ k, k ≤ n → 1 ≤ k → k ≤ 2 ^ w → regA w p s k = s → ∃ k, IsPer w p s k := by
    intro n
    induction n with
    | zero => intro k h1 h2; omega
    | succ n ih =>
      intro k h1 h2 h3 h4
      by_cases hj : ∃ j, 0 < j ∧ j < k ∧ regA w p s j = s
      · obtain ⟨j, j0, jk, je⟩ := hj
        exact ih j (by omega) j0 (by omega) je
      · exact ⟨k, h2, h3, h4, fun j j0 jk je => hj ⟨j, j0, jk, je⟩⟩
  obtain ⟨k, h1, h2, h3⟩ := ex
  exact least k k (Nat.le_refl k) h1 h2 h3
theorem IsPer.uniq {w p s k l : Nat} (h : IsPer w p s k) (g : IsPer w p s l) : k = l := by
  rcases Nat.lt_trichotomy k l with z | z | z
  · exact absurd h.back (g.first k h.pos z)
  · exact z
  · exact absurd g.back (h.first l g.pos z)
noncomputable def per (w p s : Nat) : Nat := @dite Nat (∃ k, IsPer w p s k) (Classical.propDecidable _) (fun h => h.choose) (fun _ => 0)
theorem per_is {w p s : Nat} (h : RgW w p) (hs : s < 2 ^ w) : IsPer w p s (per w p s) := by
  unfold per
  rw [dif_pos (per_ex h hs)]
  exact (per_ex h hs).choose_spec
theorem per_eq {w p s k : Nat} (h : RgW w p) (hs : s < 2 ^ w) (g : IsPer w p s k) : per w p s = k := (per_is h hs).uniq g
/-- the law's odd count -/
def oddL (w x p : Nat) : Int := ((List.range w).map fun j => (((x / 2 ^ j % 2 : Nat) : Int) * ((p / 2 ^ j % 2 : Nat) : Int))).sum % 2
theorem odd2 : ∀ p, p < 4 → ∀ x, x < 4 → oddL 2 x p = ((par (x &&& p) : Nat) : Int) := by decide +kernel
theorem odd3 : ∀ p, p < 8 → ∀ x, x < 8 → oddL 3 x p = ((par (x &&& p) : Nat) : Int) := by decide +kernel
theorem odd4 : ∀ p, p < 16 → ∀ x, x < 16 → oddL 4 x p = ((par (x &&& p) : Nat) : Int) := by decide +kernel
theorem odd5 : ∀ p, p < 32 → ∀ x, x < 32 → oddL 5 x p = ((par (x &&& p) : Nat) : Int) := by decide +kernel
theorem odd6 : ∀ p, p < 64 → ∀ x, x < 64 → oddL 6 x p = ((par (x &&& p) : Nat) : Int) := by decide +kernel
theorem odd_eq {w p x : Nat} (h : RgW w p) (hx : x < 2 ^ w) : oddL w x p = ((par (x &&& p) : Nat) : Int) := by
  obtain ⟨h1, h2, h3, h4⟩ := h
  match w, h1, h2 with
  | 2, _, _ => exact odd2 p h4 x hx
  | 3, _, _ => exact odd3 p h4 x hx
  | 4, _, _ => exact odd4 p h4 x hx
  | 5, _, _ => exact odd5 p h4 x hx
  | 6, _, _ => exact odd6 p h4 x hx
/-! makers -/
inductive Mk where
  | counter (r s t : Nat)
  | table (ns : List Int)
  | turned (w s : Nat)
  | register (w p s : Nat)
  | slow (n : Nat) (m : Mk)
  | slip (n : Nat) (m : Mk)
  | late (n : Nat) (m : Mk)
def Mk.inn : Mk → Mk
  | .slow _ m => m.inn
  | .slip _ m => m.inn
  | .late _ m => m.inn
  | m => m
def Mk.dep : Mk → Nat
  | .slow _ m => m.dep + 1
  | .slip _ m => m.dep + 1
  | .late _ m => m.dep + 1
  | _ => 0
def Mk.bt : Mk → Int → Int
  | .slow n m, t => m.bt (t / n)
  | .slip n m, t => m.bt (t + t / n)
  | .late n m, t => m.bt (t - n)
  | _, t => t
def lff (n : Nat) : Nat → Nat
  | 0 => 0
  | w + 1 => 2 * lff n w + n / 2 ^ w % 2
noncomputable def Mk.pl : Mk → List Int
  | .counter r s t => (List.range r).map fun i => (((t + s * i) % r : Nat) : Int)
  | .table ns => ns
  | .turned w s => (List.range (2 ^ w)).map fun i => ((lff ((s + i) % 2 ^ w) w : Nat) : Int)
  | .register w p s => (List.range (per w p s)).map fun k => ((regA w p s k : Nat) : Int)
  | _ => []
noncomputable def Mk.rnd : Mk → Nat
  | .slow n m => n * m.rnd
  | .slip n m => n * m.rnd / Nat.gcd m.rnd (n + 1)
  | .late _ m => m.rnd
  | m => m.pl.length
def Mk.Pl : Mk → Prop
  | .counter r s t => 1 ≤ r ∧ r ≤ 64 ∧ s ≤ 64 ∧ t < r
  | .table ns => 1 ≤ ns.length ∧ ns.length ≤ 64 ∧ ∀ x, x ∈ ns → 0 ≤ x ∧ x ≤ 63
  | .turned w s => 1 ≤ w ∧ w ≤ 6 ∧ s < 2 ^ w
  | .register w p s => RgW w p ∧ 1 ≤ s ∧ s < 2 ^ w
  | _ => False
def Mk.Ok : Mk → Prop
  | .slow n m => 1 ≤ n ∧ n ≤ 64 ∧ m.Ok
  | .slip n m => 1 ≤ n ∧ n ≤ 64 ∧ m.Ok
  | .late n m => n ≤ 64 ∧ m.Ok
  | m => m.Pl
def Mk.Top : Mk → Int → Prop
  | .counter r _ _, v => v = r
  | .table ns, v => ∃ M, M ∈ ns ∧ (∀ y, y ∈ ns → y ≤ M) ∧ v = M + 1
  | .turned w _, v => v = ((2 ^ w : Nat) : Int)
  | .register w _ _, v => v = ((2 ^ w : Nat) : Int)
  | _, _ => False
theorem Mk.Top.uniq {m : Mk} {v u : Int} (h : m.Top v) (k : m.Top u) : v = u := by
  cases m with
  | counter r s t => exact h.trans k.symm
  | table ns =>
    obtain ⟨M, h1, h2, rfl⟩ := h
    obtain ⟨N, k1, k2, rfl⟩ := k
    have := h2 N k1
    have := k2 M h1
    omega
  | turned w s => exact h.trans k.symm
  | register w p s => exact h.trans k.symm
  | _ => exact h.elim
noncomputable def Mk.val (m : Mk) (t : Int) : Int := m.inn.pl.getD ((m.bt t) % (m.inn.pl.length : Int)).toNat 0
theorem Mk.Ok.inn : ∀ {m : Mk}, m.Ok → m.inn.Pl
  | .slow _ m, h => Mk.Ok.inn (m := m) h.2.2
  | .slip _ m, h => Mk.Ok.inn (m := m) h.2.2
  | .late _ m, h => Mk.Ok.inn (m := m) h.2
  | .counter _ _ _, h => h
  | .table _, h => h
  | .turned _ _, h => h
  | .register _ _ _, h => h
theorem Mk.Pl.len {m : Mk} (h : m.Pl) : 1 ≤ m.pl.length ∧ m.pl.length ≤ 64 := by
  cases m with
  | counter r s t =>
    obtain ⟨h1, h2, _⟩ := h
    simp only [Mk.pl, List.length_map, List.length_range]
    omega
  | table ns => exact ⟨h.1, h.2.1⟩
  | turned w s =>
    obtain ⟨h1, h2, _⟩ := h
    simp only [Mk.pl, List.length_map, List.length_range]
    exact ⟨Nat.one_le_two_pow, Nat.le_trans (Nat.pow_le_pow_right (by decide) h2) (by decide)⟩
  | register w p s =>
    obtain ⟨h1, h2, h3⟩ := h
    have ip := per_is h1 h3
    simp only [Mk.pl, List.length_map, List.length_range]
    exact ⟨ip.pos, Nat.le_trans ip.le (Nat.le_trans (Nat.pow_le_pow_right (by decide) h1.hi) (by decide))⟩
  | _ => exact h.elim
theorem Mk.inn_dep : ∀ m : Mk, m.inn.dep = 0
  | .slow _ m => Mk.inn_dep m
  | .slip _ m => Mk.inn_dep m
  | .late _ m => Mk.inn_dep m
  | .counter _ _ _ => rfl
  | .table _ => rfl
  | .turned _ _ => rfl
  | .register _ _ _ => rfl
theorem Mk.inn_self : ∀ {m : Mk}, m.dep = 0 → m.inn = m
  | .counter _ _ _, _ => rfl
  | .table _, _ => rfl
  | .turned _ _, _ => rfl
  | .register _ _ _, _ => rfl
/-! makers as they stand -/
def MkAt (H : Hp) : Mk → V → Prop
  | .counter r s t, v => ∃ a, v = .ref a ∧ H a = some (.tup [.str "counter", .int (r : Nat), .int (s : Nat), .int (t : Nat)])
  | .table ns, v => ∃ a b, v = .ref a ∧ H a = some (.tup [.str "table", .ref b]) ∧ H b = some (.tup (ns.map V.int))
  | .turned w s, v => ∃ a, v = .ref a ∧ H a = some (.tup [.str "turned", .int (w : Nat), .int (s : Nat)])
  | .register w p s, v => ∃ a, v = .ref a ∧ H a = some (.tup [.str "register", .int (w : Nat), .int (p : Nat), .int (s : Nat)])
  | .slow n m, v => ∃ a x, v = .ref a ∧ H a = some (.tup [.str "slow", .int (n : Nat), x]) ∧ MkAt H m x
  | .slip n m, v => ∃ a x, v = .ref a ∧ H a = some (.tup [.str "slip", .int (n : Nat), x]) ∧ MkAt H m x
  | .late n m, v => ∃ a x, v = .ref a ∧ H a = some (.tup [.str "late", .int (n : Nat), x]) ∧ MkAt H m x
theorem MkAt.keep {H H' : Hp} (s : ∀ a xs, H a = some (.tup xs) → H' a = some (.tup xs)) : ∀ {m : Mk} {v : V}, MkAt H m v → MkAt H' m v
  | .counter _ _ _, _, ⟨a, e, h⟩ => ⟨a, e, s _ _ h⟩
  | .table _, _, ⟨a, b, e, h, k⟩ => ⟨a, b, e, s _ _ h, s _ _ k⟩
  | .turned _ _, _, ⟨a, e, h⟩ => ⟨a, e, s _ _ h⟩
  | .register _ _ _, _, ⟨a, e, h⟩ => ⟨a, e, s _ _ h⟩
  | .slow _ m, _, ⟨a, x, e, h, k⟩ => ⟨a, x, e, s _ _ h, MkAt.keep s (m := m) k⟩
  | .slip _ m, _, ⟨a, x, e, h, k⟩ => ⟨a, x, e, s _ _ h, MkAt.keep s (m := m) k⟩
  | .late _ m, _, ⟨a, x, e, h, k⟩ => ⟨a, x, e, s _ _ h, MkAt.keep s (m := m) k⟩
theorem MkAt.same {H H' : Hp} {m : Mk} {v : V} (h : MkAt H m v) (s : Same H H') : MkAt H' m v := h.keep fun _ _ e => s _ _ e
theorem MkAt.but {H H' : Hp} {m : Mk} {v : V} {p : Addr} {n : Nat} (h : MkAt H m v) (B : Bx H p n) (s : But p H H') : MkAt H' m v := h.keep fun _ _ e => s _ _ (B.ne_tup e) e
def inW (z : Str) : Bool := inV (.str z) [.str "slow", .str "slip", .str "late"]
theorem inW_slow : inW "slow" = true := by decide +kernel
theorem inW_slip : inW "slip" = true := by decide +kernel
theorem inW_late : inW "late" = true := by decide +kernel
theorem inW_counter : inW "counter" = false := by decide +kernel
theorem inW_table : inW "table" = false := by decide +kernel
theorem inW_turned : inW "turned" = false := by decide +kernel
theorem inW_register : inW "register" = false := by decide +kernel
/-- what stands around a maker -/
structure Around1 (m : Mk) (z : Str) (n : Nat) (m' : Mk) : Prop where
  word : (z = "slow" ∧ m = .slow n m') ∨ (z = "slip" ∧ m = .slip n m') ∨ (z = "late" ∧ m = .late n m')
theorem MkAt.shape {H : Hp} {m : Mk} {v : V} (h : MkAt H m v) : (∃ z n m' a x, v = .ref a ∧ H a = some (.tup [.str z, .int (n : Nat), x]) ∧ MkAt H m' x ∧ Around1 m z n m' ∧ inW z = true) ∨ (m.dep = 0 ∧ ∃ a z xs, v = .ref a ∧ H a = some (.tup (.str z :: xs)) ∧ inW z = false) := by
  cases m with
  | counter r s t => obtain ⟨a, e, h⟩ := h; exact .inr ⟨rfl, a, _, _, e, h, inW_counter⟩
  | table ns => obtain ⟨a, b, e, h, _⟩ := h; exact .inr ⟨rfl, a, _, _, e, h, inW_table⟩
  | turned w s => obtain ⟨a, e, h⟩ := h; exact .inr ⟨rfl, a, _, _, e, h, inW_turned⟩
  | register w p s => obtain ⟨a, e, h⟩ := h; exact .inr ⟨rfl, a, _, _, e, h, inW_register⟩
  | slow n m => obtain ⟨a, x, e, h, k⟩ := h; exact .inl ⟨_, n, m, a, x, e, h, k, ⟨.inl ⟨rfl, rfl⟩⟩, inW_slow⟩
  | slip n m => obtain ⟨a, x, e, h, k⟩ := h; exact .inl ⟨_, n, m, a, x, e, h, k, ⟨.inr (.inl ⟨rfl, rfl⟩)⟩, inW_slip⟩
  | late n m => obtain ⟨a, x, e, h, k⟩ := h; exact .inl ⟨_, n, m, a, x, e, h, k, ⟨.inr (.inr ⟨rfl, rfl⟩)⟩, inW_late⟩
theorem Around1.dep {m m' : Mk} {z : Str} {n : Nat} (h : Around1 m z n m') : m.dep = m'.dep + 1 ∧ m.inn = m'.inn := by
  rcases h.word with ⟨_, rfl⟩ | ⟨_, rfl⟩ | ⟨_, rfl⟩ <;> exact ⟨rfl, rfl⟩
def sp_innermost (_ : PySem.W.Frag) : Sp := fun vs H Q _ => ∃ m v, vs = [v] ∧ MkAt H m v ∧ ∀ H' u, Same H H' → MkAt H' m.inn u → Q u H'
theorem ok_innermost (T : Defs K mg) (TT : Tabs T base) : FnOk P w K mg base CX0 1 T.f_innermost T.fd_innermost ["maker"] (sp_innermost K) := by
  refine T.F_innermost.ok sc_innermost (fun vs H Q E h => ?_) (fun cdv A outer s H vs Q E hr h => ?_)
  · obtain ⟨m, v, rfl, hm, q⟩ := h
    rfl
  · obtain ⟨m, v, rfl, hm, q⟩ := h
    refine ⟨_, PSs.nox (pss_cons (ps_while PassesOwn.never (pt_cmpR op_in_seq (pe_ix ix_tup (pv 0) pe_int (fun _ _ => rfl)) (pe_tup (pa_cons pe_str (pa_cons pe_str (pa_cons pe_str pa_nil)))) rfl) (pss_one (ps_set (i := 0) sc_innermost.nd rfl (.inl rfl) (pe_ix ix_tup (pv 0) pe_int (fun _ _ => rfl)))))
    (pss_one (ps_ret (pv 0)))), ?_⟩
    refine ⟨fun n σ H1 => ∃ m' u, m'.dep = n ∧ σ = [some u] ∧ Same H H1 ∧ MkAt H1 m' u ∧ m'.inn = m.inn, ⟨_, m, v, rfl, rfl, Same.refl H, hm, rfl⟩, ?_⟩
    rintro n σ H1 ⟨m', u, rfl, rfl, s1, hm', ei⟩
    rcases hm'.shape with ⟨z, n, m2, a, x, rfl, ha, hx, ar, iw⟩ | ⟨d0, a, z, xs, rfl, ha, iw⟩
    · refine ⟨.ref a, rfl, a, _, 0, _, rfl, rfl, SqT.mk ha, atI_nat (j := 0) rfl, (show 3 ≤ sizeLine by decide), fun t nt => ⟨t, _, rfl, .inr (SqT.mk upd_same), rfl, rfl, _, rfl, ?_⟩⟩
      have s2 := s1.trans (same_upd nt (o := .tup [.str "slow", .str "slip", .str "late"]))
      rw [if_neg Bool.false_ne_true, show inV (.str z) [.str "slow", .str "slip", .str "late"] = true from iw]
      refine iteT ⟨_, fun σ' H' h => h, ?_⟩
      refine ⟨.ref a, rfl, a, _, 2, _, rfl, rfl, SqT.mk ((same_upd nt) _ _ ha), atI_nat (j := 2) rfl, ?_⟩
      exact ⟨m2.dep, by have := ar.dep.1; omega, m2, x, rfl, rfl, s2, hx.same (same_upd nt), by rw [← ar.dep.2, ei]⟩
    · refine ⟨.ref a, rfl, a, _, 0, _, rfl, rfl, SqT.mk ha, atI_nat (j := 0) rfl, (show 3 ≤ sizeLine by decide), fun t nt => ⟨t, _, rfl, .inr (SqT.mk upd_same), rfl, rfl, _, rfl, ?_⟩⟩
      rw [if_neg Bool.false_ne_true, show inV (.str z) [.str "slow", .str "slip", .str "late"] = false from iw]
      refine iteF ?_
      refine ⟨.ref a, rfl, q _ _ (s1.trans (same_upd nt)) ?_⟩
      rw [← ei, Mk.inn_self d0]
      exact hm'.same (same_upd nt)
def sp_inner_beat (_ : PySem.W.Frag) : Sp := fun vs H Q _ => ∃ m v t, vs = [v, .int t] ∧ MkAt H m v ∧ m.Ok ∧ ∀ H', Same H H' → Q (.int (m.bt t)) H'
theorem ok_inner_beat (T : Defs K mg) (TT : Tabs T base) : FnOk P w K mg base CX0 1 T.f_inner_beat T.fd_inner_beat ["maker", "t"] (sp_inner_beat K) := by
  refine T.F_inner_beat.ok sc_inner_beat (fun vs H Q E h => ?_) (fun cdv A outer s H vs Q E hr h => ?_)
  · obtain ⟨m, v, t, rfl, hm, ok, q⟩ := h
    rfl
  · obtain ⟨m, v, t, rfl, hm, ok, q⟩ := h
    refine ⟨_, PSs.nox (pss_cons (ps_while PassesOwn.never (pt_cmpR op_in_seq (pe_ix ix_tup (pv 0) pe_int (fun _ _ => rfl)) (pe_tup (pa_cons pe_str (pa_cons pe_str (pa_cons pe_str pa_nil)))) rfl) (pss_cons (ps_asg (pv 0) (pg_tup rfl (pgs_cons (pg_name (i := 2) sc_inner_beat.nd rfl (.inl rfl)) (pgs_cons (pg_name (i := 3) sc_inner_beat.nd rfl (.inl rfl)) (pgs_cons (pg_name (i := 4) sc_inner_beat.nd rfl (.inl rfl)) pgs_nil)))))
    (pss_cons (ps_if (pt_cmpR op_eq (pv 2) pe_str (nomark _)) (pss_one (ps_set (i := 1) sc_inner_beat.nd rfl (.inl rfl) (pe_op op_fdiv (pv 1) (pe_callB (call_max2 rfl) (by rfl) T.m_max bt_max (pa_cons (pv 3) (pa_cons pe_int pa_nil)))))) (pss_one (ps_if (pt_cmpR op_eq (pv 2) pe_str (nomark _)) (pss_one (ps_set (i := 1) sc_inner_beat.nd rfl (.inl rfl) (pe_op op_add (pv 1) (pe_op op_fdiv (pv 1) (pe_callB (call_max2 rfl) (by rfl) T.m_max bt_max (pa_cons (pv 3) (pa_cons pe_int pa_nil))))))) (pss_one (ps_set (i := 1) sc_inner_beat.nd rfl (.inl rfl) (pe_op op_sub (pv 1) (pv 3)))))))
    (pss_one (ps_set (i := 0) sc_inner_beat.nd rfl (.inl rfl) (pv 4))))))
    (pss_one (ps_ret (pv 1)))), ?_⟩
    refine ⟨fun n σ H1 => ∃ m' u t' y2 y3 y4, m'.dep = n ∧ σ = [some u, some (.int t'), y2, y3, y4] ∧ Same H H1 ∧ MkAt H1 m' u ∧ m'.Ok ∧ m'.bt t' = m.bt t, ⟨_, m, v, t, none, none, none, rfl, rfl, Same.refl H, hm, ok, rfl⟩, ?_⟩
    rintro n σ H1 ⟨m', u, t', y2, y3, y4, rfl, rfl, s1, hm', ok', ei⟩
    rcases hm'.shape with ⟨z, n, m2, a, x, rfl, ha, hx, ar, iw⟩ | ⟨d0, a, z, xs, rfl, ha, iw⟩
    · refine ⟨.ref a, rfl, a, _, 0, _, rfl, rfl, SqT.mk ha, atI_nat (j := 0) rfl, (show 3 ≤ sizeLine by decide), fun tp nt => ⟨tp, _, rfl, .inr (SqT.mk upd_same), rfl, rfl, _, rfl, ?_⟩⟩
      have s2 := s1.trans (same_upd nt (o := .tup [.str "slow", .str "slip", .str "late"]))
      have ha2 := (same_upd nt (o := .tup [.str "slow", .str "slip", .str "late"])) _ _ ha
      have hx2 := hx.same (same_upd nt (o := .tup [.str "slow", .str "slip", .str "late"]))
      rw [if_neg Bool.false_ne_true, show inV (.str z) [.str "slow", .str "slip", .str "late"] = true from iw]
      generalize upd H1 tp (.tup [.str "slow", .str "slip", .str "late"]) = H2 at s2 ha2 hx2 ⊢
      refine iteT ⟨_, fun σ' H' h => h, ?_⟩
      refine ⟨.ref a, rfl, a, _, rfl, SqT.mk ha2, rfl, _, _, rfl, _, _, rfl, _, _, rfl, rfl, ?_⟩
      have dp := ar.dep.1
      rcases ar.word with ⟨rfl, rfl⟩ | ⟨rfl, rfl⟩ | ⟨rfl, rfl⟩
      · have em : (if (1 : Int) > (n : Int) then 1 else (n : Int)) = (n : Int) := by
          have := ok'.1
          split <;> omega
        refine ⟨_, rfl, rfl, _, rfl, ?_⟩
        rw [decide_eq_true rfl]
        refine iteT ?_
        refine ⟨.int t', rfl, .int (n : Nat), rfl, _, _, rfl, _, _, rfl, rfl, ?_, ?_⟩
        · rw [em]
          exact ⟨(show (0 : Int) < (n : Int) by have := ok'.1; omega), (show (n : Int) < 1073741824 by have := ok'.2.1; omega)⟩
        rw [em]
        exact ⟨_, rfl, m2.dep, by omega, m2, x, t' / (n : Int), _, _, _, rfl, rfl, s2, hx2, ok'.2.2, ei⟩
      · have em : (if (1 : Int) > (n : Int) then 1 else (n : Int)) = (n : Int) := by
          have := ok'.1
          split <;> omega
        refine ⟨_, rfl, rfl, _, rfl, ?_⟩
        rw [decide_eq_false (show ¬ (V.str "slip" = V.str "slow") by decide +kernel)]
        refine iteF ?_
        refine ⟨_, rfl, rfl, _, rfl, ?_⟩
        rw [decide_eq_true rfl]
        refine iteT ?_
        refine ⟨.int t', rfl, .int t', rfl, .int (n : Nat), rfl, _, _, rfl, _, _, rfl, rfl, ?_, _, _, rfl, rfl, ?_⟩
        · rw [em]
          exact ⟨(show (0 : Int) < (n : Int) by have := ok'.1; omega), (show (n : Int) < 1073741824 by have := ok'.2.1; omega)⟩
        rw [em]
        exact ⟨_, rfl, m2.dep, by omega, m2, x, t' + t' / (n : Int), _, _, _, rfl, rfl, s2, hx2, ok'.2.2, ei⟩
      · refine ⟨_, rfl, rfl, _, rfl, ?_⟩
        rw [decide_eq_false (show ¬ (V.str "late" = V.str "slow") by decide +kernel)]
        refine iteF ?_
        refine ⟨_, rfl, rfl, _, rfl, ?_⟩
        rw [decide_eq_false (show ¬ (V.str "late" = V.str "slip") by decide +kernel)]
        refine iteF ?_
        refine ⟨.int t', rfl, .int (n : Nat), rfl, _, _, rfl, rfl, ?_⟩
        exact ⟨_, rfl, m2.dep, by omega, m2, x, t' - (n : Int), _, _, _, rfl, rfl, s2, hx2, ok'.2, ei⟩
    · refine ⟨.ref a, rfl, a, _, 0, _, rfl, rfl, SqT.mk ha, atI_nat (j := 0) rfl, (show 3 ≤ sizeLine by decide), fun tp nt => ⟨tp, _, rfl, .inr (SqT.mk upd_same), rfl, rfl, _, rfl, ?_⟩⟩
      rw [if_neg Bool.false_ne_true, show inV (.str z) [.str "slow", .str "slip", .str "late"] = false from iw]
      refine iteF ?_
      have eb : m'.bt t' = t' := by
        cases m' with
        | slow n m => cases d0
        | slip n m => cases d0
        | late n m => cases d0
        | _ => rfl
      rw [eb] at ei
      rw [ei]
      exact ⟨.int _, rfl, q _ (s1.trans (same_upd nt))⟩
/-! the program: numbers of plain makers -/
theorem is_pos {n : Nat} (h : 1 ≤ n) : (0 : Int) < (n : Int) := by omega
def sp_counter_round (_ : PySem.W.Frag) : Sp := fun vs H Q _ => ∃ r s t : Nat, vs = [.int (r : Nat), .int (s : Nat), .int (t : Nat)] ∧ 1 ≤ r ∧ r ≤ 64 ∧ s ≤ 64 ∧ t < r ∧
  ∀ H' p, Same H H' → H p = none → H' p = some (.lst ((Mk.counter r s t).pl.map V.int)) → Q (.ref p) H'
theorem ok_counter_round (T : Defs K mg) (TT : Tabs T base) : FnOk P w K mg base CX0 1 T.f_counter_round T.fd_counter_round ["size", "step", "start"] (sp_counter_round K) := by
  refine T.F_counter_round.ok sc_counter_round (fun vs H Q E h => ?_) (fun cdv A outer s H vs Q E hr h => ?_)
  · obtain ⟨r, s', t, rfl, r1, r2, s2, t2, q⟩ := h
    rfl
  · obtain ⟨r, s', t, rfl, r1, r2, s2, t2, q⟩ := h
    refine ⟨_, PSs.nox (pss_one (ps_ret (pe_lc (own := [("t", 3)]) (g := gName 3) (tt := tYes) rfl sc_counter_round.nd (pi_range1 (by rfl) T.m_range (pa_cons (pv 0) pa_nil)) (blkOk_by (N := N_counter_round) (sc := defScope s_counter_round) (by decide +kernel)) (fun _ _ _ _ _ => (pg_name (i := 3) sc_counter_round.nd rfl (.inl rfl))) (fun _ _ _ _ _ => pts_nil) (fun _ _ _ _ _ => (pe_op op_mod (pe_op op_add (pv 2) (pe_op op_mul (pv 1) (pv 3))) (pv 0)))))), ?_⟩
    have hsl : sizeLine = 16777216 := by decide
    refine ⟨.int (r : Nat), rfl, (r : Nat), rfl, by omega, by omega, fun D nD => ?_⟩
    refine lc_range (fun i H1 => Same H H1 ∧ H1 D = some (.lst (((List.range i).map fun i => (((t + s' * i) % r : Nat) : Int)).map V.int))) ⟨same_upd nD, upd_same⟩ (fun i H1 hi h => ?_) (fun H1 h => ?_)
    · obtain ⟨s1, hD⟩ := h
      have hi : i < r := by omega
      refine ⟨rfl, yes_ite ?_⟩
      refine ⟨.int (t : Nat), rfl, .int (s' : Nat), rfl, _, rfl, _, _, rfl, rfl, .inl ⟨by omega, by omega⟩, _, _, rfl, rfl, .int (r : Nat), rfl, _, _, rfl, rfl, is_pos r1, ?_⟩
      refine ⟨_, hD, by rw [List.length_map, List.length_map, List.length_range]; omega, same_newer s1 nD, ?_⟩
      rw [upd_same, List.range_succ, List.map_append, List.map_append]
      have e : ((t : Int) + (s' : Int) * (0 + (i : Int))) % (r : Int) = (((t + s' * i) % r : Nat) : Int) := by
        rw [Int.zero_add, Int.natCast_emod, Int.natCast_add, Int.natCast_mul]
      dsimp only
      rw [e]
      rfl
    · obtain ⟨s1, hD⟩ := h
      rw [Int.toNat_natCast] at hD
      exact q H1 D s1 nD hD
def sp_last_for_first (_ : PySem.W.Frag) : Sp := fun vs H Q _ => ∃ n w : Nat, vs = [.int (n : Nat), .int (w : Nat)] ∧ w ≤ 64 ∧ Q (.int (lff n w : Nat)) H
theorem bit_and (n i : Nat) : Builtin.bitAnd ((n : Int) / 2 ^ ((0 : Int) + (i : Int)).toNat) 1 = ((n / 2 ^ i % 2 : Nat) : Int) := by
  rw [Int.zero_add, Int.toNat_natCast]
  have h := _root_.Bits.bit_at (x := (n : Int)) i
  rw [Int.fdiv_eq_ediv_of_nonneg _ (by exact Int.le_of_lt (Int.pow_pos (by decide)))] at h
  rw [h]
  have e : ((2 : Int) ^ i) = ((2 ^ i : Nat) : Int) := by rw [Int.natCast_pow]; rfl
  rw [e]
  omega
theorem ok_last_for_first (T : Defs K mg) (TT : Tabs T base) : FnOk P w K mg base CX0 1 T.f_last_for_first T.fd_last_for_first ["number", "wide"] (sp_last_for_first K) := by
  refine T.F_last_for_first.ok sc_last_for_first (fun vs H Q E h => ?_) (fun cdv A outer s H vs Q E hr h => ?_)
  · obtain ⟨n, w', rfl, hw, q⟩ := h
    rfl
  · obtain ⟨n, w', rfl, hw, q⟩ := h
    refine ⟨_, PSs.nox (pss_cons (ps_set (i := 2) sc_last_for_first.nd rfl (.inl rfl) pe_int)
    (pss_cons ((ps_for PassesOwn.never rfl (pi_range1 (by rfl) T.m_range (pa_cons (pv 1) pa_nil)) (pg_name (i := 3) sc_last_for_first.nd rfl (.inl rfl)) (pss_one (ps_set (i := 2) sc_last_for_first.nd rfl (.inl rfl) (pe_op op_add (pe_op op_mul pe_int (pv 2)) (pe_op op_and (pe_op op_shr (pv 0) (pv 3)) pe_int))))))
    (pss_one (ps_ret (pv 2))))), ?_⟩
    refine ⟨.int (w' : Nat), rfl, (w' : Nat), rfl, by omega, by omega, for_range (fun i σ G => ∃ y3, σ = [some (.int (n : Nat)), some (.int (w' : Nat)), some (.int (lff n i : Nat)), y3] ∧ G = H) ⟨none, rfl, rfl⟩ ?_ ?_⟩
    · rintro i σ G hi ⟨y3, rfl, rfl⟩
      refine ⟨_, rfl, _, _, rfl, rfl, .inl ⟨by decide, by decide⟩, .int (n : Nat), rfl, .int (0 + (i : Int)), rfl, _, _, rfl, rfl, (show (0 : Int) ≤ 0 + (i : Int) by omega), _, _, rfl, rfl, _, _, rfl, rfl, some (.int (0 + (i : Int))), ?_, rfl⟩
      try dsimp only
      rw [bit_and]
      rfl
    · rintro σ G ⟨y3, rfl, rfl⟩
      rw [Int.toNat_natCast]
      exact ⟨_, rfl, q⟩
theorem two_pow6 {w : Nat} (h : w ≤ 6) : 1 ≤ 2 ^ w ∧ 2 ^ w ≤ 64 := ⟨Nat.one_le_two_pow, Nat.le_trans (Nat.pow_le_pow_right (by decide) h) (by decide)⟩
theorem shl_one (w : Nat) : (1 : Int) * 2 ^ ((w : Nat) : Int).toNat = ((2 ^ w : Nat) : Int) := by
  rw [Int.toNat_natCast, Int.one_mul, Int.natCast_pow]
  rfl
def sp_size_of (_ : PySem.W.Frag) : Sp := fun vs H Q _ => ∃ w : Nat, vs = [.int (w : Nat)] ∧ w ≤ 6 ∧ Q (.int ((2 ^ w : Nat) : Int)) H
theorem ok_size_of (T : Defs K mg) (TT : Tabs T base) : FnOk P w K mg base CX0 1 T.f_size_of T.fd_size_of ["wide"] (sp_size_of K) := by
  refine T.F_size_of.ok sc_size_of (fun vs H Q E h => ?_) (fun cdv A outer s H vs Q E hr h => ?_)
  · obtain ⟨w', rfl, hw, q⟩ := h
    rfl
  · obtain ⟨w', rfl, hw, q⟩ := h
    refine ⟨_, PSs.nox (pss_one (ps_ret (pe_op op_shl pe_int (pe_callB (call_max2 rfl) (by rfl) T.m_max bt_max (pa_cons (pv 0) (pa_cons pe_int pa_nil)))))), ?_⟩
    have e0 : (if (0 : Int) > (w' : Int) then (0 : Int) else (w' : Int)) = (w' : Int) := if_neg (by omega)
    refine ⟨.int (w' : Nat), rfl, _, _, rfl, ?_⟩
    try dsimp only
    rw [e0]
    refine ⟨_, _, rfl, rfl, ⟨(show (0 : Int) ≤ (w' : Int) by omega), (show (w' : Int) ≤ 1000000 by omega), by decide⟩, ?_⟩
    try dsimp only
    rw [shl_one]
    exact q
def sp_turned_round (_ : PySem.W.Frag) : Sp := fun vs H Q _ => ∃ w s : Nat, vs = [.int (w : Nat), .int (s : Nat)] ∧ 1 ≤ w ∧ w ≤ 6 ∧ s < 2 ^ w ∧
  ∀ H' p, Same H H' → H p = none → H' p = some (.lst ((Mk.turned w s).pl.map V.int)) → Q (.ref p) H'
theorem ok_turned_round (T : Defs K mg) (TT : Tabs T base) : FnOk P w K mg base CX0 2 T.f_turned_round T.fd_turned_round ["wide", "start"] (sp_turned_round K) := by
  have G_size_of : FnOk P w K mg base CX0 1 T.f_size_of T.fd_size_of ["wide"] (sp_size_of K) := ok_size_of T TT
  have G_last_for_first : FnOk P w K mg base CX0 1 T.f_last_for_first T.fd_last_for_first ["number", "wide"] (sp_last_for_first K) := ok_last_for_first T TT
  refine T.F_turned_round.ok sc_turned_round (fun vs H Q E h => ?_) (fun cdv A outer s H vs Q E hr h => ?_)
  · obtain ⟨w', s', rfl, w1, w2, hs, q⟩ := h
    rfl
  · obtain ⟨w', s', rfl, w1, w2, hs, q⟩ := h
    refine ⟨_, PSs.nox (pss_cons (ps_set (i := 2) sc_turned_round.nd rfl (.inr rfl) (pe_call G_size_of (hr.mono (by decide)) (by rfl) T.g_size_of T.F_size_of.kp T.b_size_of .nil pass0 (pa_cons (pv 0) pa_nil)))
    (pss_one (ps_ret (pe_lc (own := [("t", 3)]) (g := gName 3) (tt := tYes) rfl sc_turned_round.nd (pi_range1 (by rfl) T.m_range (pa_cons (pv 2) pa_nil)) (blkOk_by (N := N_turned_round) (sc := defScope s_turned_round) (by decide +kernel)) (fun _ _ _ _ _ => (pg_name (i := 3) sc_turned_round.nd rfl (.inl rfl))) (fun _ _ _ _ _ => pts_nil) (fun _ _ _ _ _ => (pe_call G_last_for_first (hr.mono (by decide)) (by rfl) T.g_last_for_first T.F_last_for_first.kp T.b_last_for_first .nil pass0 (pa_cons (pe_op op_mod (pe_op op_add (pv 1) (pv 3)) (pv 2)) (pa_cons (pv 0) pa_nil)))))))), ?_⟩
    have hsl : sizeLine = 16777216 := by decide
    have tp := two_pow6 w2
    refine ⟨.int (w' : Nat), rfl, w', rfl, w2, ?_⟩
    refine ⟨.int ((2 ^ w' : Nat) : Int), rfl, _, rfl, by omega, by omega, fun D nD => ?_⟩
    refine lc_range (fun i H1 => Same H H1 ∧ H1 D = some (.lst (((List.range i).map fun i => ((lff ((s' + i) % 2 ^ w') w' : Nat) : Int)).map V.int))) ⟨same_upd nD, upd_same⟩ (fun i H1 hi h => ?_) (fun H1 h => ?_)
    · obtain ⟨s1, hD⟩ := h
      have hi : i < 2 ^ w' := by omega
      refine ⟨rfl, yes_ite ?_⟩
      have e : ((s' : Int) + (0 + (i : Int))) % ((2 ^ w' : Nat) : Int) = (((s' + i) % 2 ^ w' : Nat) : Int) := by
        rw [Int.zero_add, Int.natCast_emod, Int.natCast_add]
      refine ⟨.int (s' : Nat), rfl, _, rfl, _, _, rfl, rfl, .int ((2 ^ w' : Nat) : Int), rfl, _, _, rfl, rfl, is_pos tp.1, .int (w' : Nat), rfl, (s' + i) % 2 ^ w', w', congrArg (fun z => [V.int z, V.int ((w' : Nat) : Int)]) e, by omega, ?_⟩
      refine ⟨_, hD, by rw [List.length_map, List.length_map, List.length_range]; omega, same_newer s1 nD, ?_⟩
      rw [upd_same, List.range_succ, List.map_append, List.map_append]
      rfl
    · obtain ⟨s1, hD⟩ := h
      rw [Int.toNat_natCast] at hD
      exact q H1 D s1 nD hD
theorem xor01 {o b : Nat} (ho : o < 2) (hb : b < 2) : Builtin.bitXor (o : Int) (b : Int) = (((o + b) % 2 : Nat) : Int) := by
  match o, b, ho, hb with
  | 0, 0, _, _ => decide
  | 0, 1, _, _ => decide
  | 1, 0, _, _ => decide
  | 1, 1, _, _ => decide
theorem and_one (x : Nat) : Builtin.bitAnd (x : Int) 1 = ((x % 2 : Nat) : Int) := by
  have h := _root_.Bits.bit_at (x := (x : Int)) 0
  rw [Int.pow_zero, Int.fdiv_one] at h
  rw [h, Int.ediv_one]
  omega
theorem parF_zero : ∀ f, parF f 0 = 0
  | 0 => rfl
  | f + 1 => by
    show (0 % 2 + parF f (0 / 2)) % 2 = 0
    rw [Nat.zero_div, parF_zero f]
def sp_odd_ones (_ : PySem.W.Frag) : Sp := fun vs H Q _ => ∃ n : Nat, vs = [.int (n : Nat)] ∧ n < 2 ^ 7 ∧ Q (.int (par n : Nat)) H
theorem ok_odd_ones (T : Defs K mg) (TT : Tabs T base) : FnOk P w K mg base CX0 1 T.f_odd_ones T.fd_odd_ones ["number"] (sp_odd_ones K) := by
  refine T.F_odd_ones.ok sc_odd_ones (fun vs H Q E h => ?_) (fun cdv A outer s H vs Q E hr h => ?_)
  · obtain ⟨n, rfl, hn, q⟩ := h
    rfl
  · obtain ⟨n, rfl, hn, q⟩ := h
    refine ⟨_, PSs.nox (pss_cons (ps_set (i := 1) sc_odd_ones.nd rfl (.inl rfl) pe_int)
    (pss_cons (ps_while PassesOwn.never (pt_cmpR op_gt (pv 0) pe_int (nomark _)) (pss_cons (ps_set (i := 1) sc_odd_ones.nd rfl (.inl rfl) (pe_op op_xor (pv 1) (pe_op op_and (pv 0) pe_int)))
    (pss_one (ps_set (i := 0) sc_odd_ones.nd rfl (.inl rfl) (pe_op op_shr (pv 0) pe_int)))))
    (pss_one (ps_ret (pv 1))))), ?_⟩
    refine ⟨fun k σ H1 => ∃ x o f : Nat, x = k ∧ σ = [some (.int (x : Nat)), some (.int (o : Nat))] ∧ H1 = H ∧ x < 2 ^ f ∧ o < 2 ∧ (o + parF f x) % 2 = par n, ⟨n, n, 0, 7, rfl, rfl, rfl, hn, by decide, by rw [Nat.zero_add]; exact Nat.mod_eq_of_lt (par_lt n)⟩, ?_⟩
    rintro k σ H1 ⟨x, o, f, rfl, rfl, rfl, hx, ho, he⟩
    refine ⟨.int (x : Nat), rfl, _, _, rfl, rfl, _, rfl, ite2 (fun e => ⟨_, fun σ' H' h => h, ?_⟩) (fun e => ?_)⟩
    · have x0 : (0 : Int) < (x : Int) := of_decide_eq_true e
      match f, hx, he with
      | 0, hx, _ =>
        exfalso
        have : x < 1 := hx
        omega
      | f + 1, hx, he =>
        refine ⟨.int (o : Nat), rfl, .int (x : Nat), rfl, _, _, rfl, rfl, _, _, rfl, rfl, ?_⟩
        refine ⟨.int (x : Nat), rfl, _, _, rfl, rfl, (show (0 : Int) ≤ 1 by decide), ?_⟩
        refine ⟨x / 2, by omega, x / 2, (o + x % 2) % 2, f, rfl, ?_, rfl, by rw [Nat.pow_succ] at hx; omega, Nat.mod_lt _ (by decide), ?_⟩
        · have e1 : (x : Int) / 2 ^ (1 : Int).toNat = ((x / 2 : Nat) : Int) := by
            show (x : Int) / 2 ^ 1 = _
            omega
          try dsimp only
          rw [and_one, xor01 ho (Nat.mod_lt _ (by decide)), e1]
          rfl
        · have : (o + (x % 2 + parF f (x / 2)) % 2) % 2 = par n := he
          omega
    · have x0 : x = 0 := by
        have : ¬ (0 : Int) < (x : Int) := fun z => e (decide_eq_true z)
        omega
      subst x0
      rw [parF_zero, Nat.add_zero, Nat.mod_eq_of_lt ho] at he
      subst he
      exact ⟨_, rfl, q⟩
theorem and_nat (x p : Nat) : Builtin.bitAnd (x : Int) (p : Int) = ((x &&& p : Nat) : Int) := by
  rw [PyProof.Rows.bitAnd_pp (by omega) (by omega), Int.toNat_natCast, Int.toNat_natCast]
def sp_held_round (_ : PySem.W.Frag) : Sp := fun vs H Q _ => ∃ w p s : Nat, vs = [.int (w : Nat), .int (p : Nat), .int (s : Nat)] ∧ (Mk.register w p s).Pl ∧
  ∀ H' a, Same H H' → H a = none → H' a = some (.lst ((Mk.register w p s).pl.map V.int)) → Q (.ref a) H'
theorem step_eq {w x p : Nat} : (2 : Int) * (x : Int) % ((2 ^ w : Nat) : Int) + ((par (x &&& p) : Nat) : Int) = ((regS w p x : Nat) : Int) := by
  unfold regS
  rw [Int.natCast_add, Int.natCast_emod, Int.natCast_mul]
  rfl
theorem ok_held_round (T : Defs K mg) (TT : Tabs T base) : FnOk P w K mg base CX0 2 T.f_held_round T.fd_held_round ["wide", "taps", "start"] (sp_held_round K) := by
  have G_size_of : FnOk P w K mg base CX0 1 T.f_size_of T.fd_size_of ["wide"] (sp_size_of K) := ok_size_of T TT
  have G_odd_ones : FnOk P w K mg base CX0 1 T.f_odd_ones T.fd_odd_ones ["number"] (sp_odd_ones K) := ok_odd_ones T TT
  refine T.F_held_round.ok sc_held_round (fun vs H Q E h => ?_) (fun cdv A outer s H vs Q E hr h => ?_)
  · obtain ⟨w', p', s', rfl, ⟨hw, s1, s2⟩, q⟩ := h
    rfl
  · obtain ⟨w', p', s', rfl, ⟨hw, s1, s2⟩, q⟩ := h
    refine ⟨_, PSs.nox (pss_cons (ps_set (i := 3) sc_held_round.nd rfl (.inl rfl) (pe_call G_size_of (hr.mono (by decide)) (by rfl) T.g_size_of T.F_size_of.kp T.b_size_of .nil pass0 (pa_cons (pv 0) pa_nil)))
    (pss_cons (ps_set (i := 4) sc_held_round.nd rfl (.inl rfl) (pe_lst pa_nil))
    (pss_cons (ps_set (i := 5) sc_held_round.nd rfl (.inl rfl) (pv 2))
    (pss_cons (ps_while PassesOwn.never (PW.pt (pw_and (pt_cmpR op_lt (pe_callB call_len_seq (by rfl) T.m_len bt_len (pa_cons (pv 4) pa_nil)) (pv 3) (nomark _)) (pw_and1 (PW.pt (pw_or (pt_cmpR op_ne (pv 5) (pv 2) (nomark _)) (pw_or1 (pt_not (pt_truth (pv 4) (by intro _; rfl))))))))) (pss_cons (ps_expr (pe_bm PySem.F.plainAttrs_list PySem.F.slot_list_append PySem.F.type_list_append mt_append (pv 4) (pa_cons (pv 5) pa_nil)))
    (pss_one (ps_set (i := 5) sc_held_round.nd rfl (.inl rfl) (pe_op op_add (pe_op op_mod (pe_op op_mul pe_int (pv 5)) (pv 3)) (pe_call G_odd_ones (hr.mono (by decide)) (by rfl) T.g_odd_ones T.F_odd_ones.kp T.b_odd_ones .nil pass0 (pa_cons (pe_op op_and (pv 5) (pv 1)) pa_nil)))))))
    (pss_one (ps_ret (pv 4))))))), ?_⟩
    have hsl : sizeLine = 16777216 := by decide
    have tp := two_pow6 hw.hi
    have ip := per_is hw s2
    refine ⟨.int (w' : Nat), rfl, w', rfl, hw.hi, ?_⟩
    obtain ⟨n, hn⟩ : ∃ n, 2 ^ w' = n := ⟨_, rfl⟩
    rw [hn] at tp ⊢
    refine ⟨Nat.zero_le _, fun l nl => ?_⟩
    refine ⟨.int (s' : Nat), rfl, ?_⟩
    refine ⟨fun m σ H1 => ∃ k : Nat, m = n - k ∧ k ≤ n ∧ σ = [some (.int (w' : Nat)), some (.int (p' : Nat)), some (.int (s' : Nat)), some (.int (n : Nat)), some (.ref l), some (.int (regA w' p' s' k : Nat))] ∧ Same H H1 ∧ H1 l = some (.lst (((List.range k).map fun k => ((regA w' p' s' k : Nat) : Int)).map V.int)) ∧ ∀ j, 0 < j → j < k → regA w' p' s' j ≠ s', ⟨n, 0, by omega, by omega, rfl, same_upd nl, upd_same, fun j h0 h1 => by omega⟩, ?_⟩
    rintro m σ H1 ⟨k, rfl, hk, rfl, sH, hl, hf⟩
    have ll : (((List.range k).map fun k => ((regA w' p' s' k : Nat) : Int)).map V.int).length = k := by rw [List.length_map, List.length_map, List.length_range]
    have done : IsPer w' p' s' k → Q (.ref l) H1 := fun h => q H1 l sH nl (by
      rw [hl]
      show _ = some (HO.lst (((List.range (per w' p' s')).map fun k => ((regA w' p' s' k : Nat) : Int)).map V.int))
      rw [per_eq hw s2 h])
    have alt : regA w' p' s' k < 2 ^ w' := regA_lt hw s2 k
    have go : k < n → ∃ v, some (V.ref l) = some v ∧ True := fun _ => ⟨_, rfl, trivial⟩
    clear go
    refine ⟨.ref l, rfl, l, _, rfl, .inl (SqL.mk hl), .int (n : Nat), rfl, _, _, rfl, rfl, _, rfl, ?_⟩
    rw [ll]
    have body : ∀ (b : Prop), k < n → b → k < n := fun _ h _ => h
    clear body
    by_cases kn : k < n
    · rw [decide_eq_true (show (k : Int) < (n : Int) by omega)]
      refine iteT ?_
      refine ⟨_, rfl, .int (s' : Nat), rfl, rfl, _, rfl, ?_⟩
      by_cases es : regA w' p' s' k = s'
      · rw [show (!decide (V.int ((regA w' p' s' k : Nat) : Int) = V.int ((s' : Nat) : Int))) = false by rw [es, decide_eq_true rfl]; rfl]
        refine iteF ?_
        refine ⟨.ref l, rfl, _, .inl ⟨_, SqL.mk hl, rfl⟩, ?_⟩
        match k, kn, hk, hl, hf, done, alt, es with
        | 0, kn, hk, hl, hf, done, alt, es =>
          refine iteT ⟨_, fun σ' H' h => h, ?_⟩
          refine ⟨.ref l, rfl, .inl ⟨rfl, _, SqL.mk hl⟩, _, rfl, l, _, _, rfl, rfl, hl, (show 0 < sizeLine by decide), ?_⟩
          refine ⟨_, rfl, _, _, rfl, rfl, .inl ⟨by decide, by decide⟩, .int (n : Nat), rfl, _, _, rfl, rfl, is_pos tp.1, _, rfl, .int (p' : Nat), rfl, _, _, rfl, rfl, (regA w' p' s' 0 &&& p'), congrArg (fun z => [V.int z]) (and_nat _ _), Nat.lt_of_le_of_lt Nat.and_le_left (Nat.lt_of_lt_of_le alt (Nat.pow_le_pow_right (by decide) (by have := hw.hi; omega))), _, _, rfl, rfl, ?_⟩
          refine ⟨n - 1, by omega, 1, rfl, by omega, ?_, same_newer sH nl, by rw [upd_same]; rfl, fun j h0 h1 => by omega⟩
          try dsimp only
          rw [← hn, step_eq]
          rfl
        | k + 1, kn, hk, hl, hf, done, alt, es =>
          have nz : (!(((List.range (k + 1)).map fun k => ((regA w' p' s' k : Nat) : Int)).map V.int).isEmpty) = true := by
            rw [List.range_succ_eq_map]
            rfl
          rw [nz]
          refine iteF ?_
          exact ⟨.ref l, rfl, done ⟨by omega, by omega, es, hf⟩⟩
      · rw [show (!decide (V.int ((regA w' p' s' k : Nat) : Int) = V.int ((s' : Nat) : Int))) = true by
          rw [decide_eq_false (fun z => es (by have := V.int.inj z; omega))]
          rfl]
        refine iteT (iteT ⟨_, fun σ' H' h => h, ?_⟩)
        refine ⟨.ref l, rfl, .inl ⟨rfl, _, SqL.mk hl⟩, _, rfl, l, _, _, rfl, rfl, hl, by rw [ll]; omega, ?_⟩
        refine ⟨_, rfl, _, _, rfl, rfl, .inl ⟨by decide, by decide⟩, .int (n : Nat), rfl, _, _, rfl, rfl, is_pos tp.1, _, rfl, .int (p' : Nat), rfl, _, _, rfl, rfl, (regA w' p' s' k &&& p'), congrArg (fun z => [V.int z]) (and_nat _ _), Nat.lt_of_le_of_lt Nat.and_le_left (Nat.lt_of_lt_of_le alt (Nat.pow_le_pow_right (by decide) (by have := hw.hi; omega))), _, _, rfl, rfl, ?_⟩
        refine ⟨n - (k + 1), by omega, k + 1, rfl, by omega, ?_, same_newer sH nl, ?_, fun j h0 h1 => ?_⟩
        · try dsimp only
          rw [← hn, step_eq]
          rfl
        · rw [upd_same, List.range_succ, List.map_append, List.map_append]
          rfl
        · by_cases z : j = k
          · rw [z]
            exact es
          · exact hf j h0 (by omega)
    · rw [decide_eq_false (show ¬ (k : Int) < (n : Int) by omega)]
      refine iteF (iteF ?_)
      have kp : per w' p' s' = k := by
        have h1 := ip.le
        have h2 : ¬ per w' p' s' < k := fun z => hf _ ip.pos z ip.back
        omega
      refine ⟨.ref l, rfl, done ?_⟩
      rw [← kp]
      exact ip
def sp_plain_round (_ : PySem.W.Frag) : Sp := fun vs H Q _ => ∃ m v, vs = [v] ∧ MkAt H m v ∧ m.Pl ∧
  ∀ H' p, Same H H' → H p = none → H' p = some (.lst (m.pl.map V.int)) → Q (.ref p) H'
theorem ok_plain_round (T : Defs K mg) (TT : Tabs T base) : FnOk P w K mg base CX0 3 T.f_plain_round T.fd_plain_round ["maker"] (sp_plain_round K) := by
  have G_counter_round : FnOk P w K mg base CX0 1 T.f_counter_round T.fd_counter_round ["size", "step", "start"] (sp_counter_round K) := ok_counter_round T TT
  have G_turned_round : FnOk P w K mg base CX0 2 T.f_turned_round T.fd_turned_round ["wide", "start"] (sp_turned_round K) := ok_turned_round T TT
  have G_held_round : FnOk P w K mg base CX0 2 T.f_held_round T.fd_held_round ["wide", "taps", "start"] (sp_held_round K) := ok_held_round T TT
  refine T.F_plain_round.ok sc_plain_round (fun vs H Q E h => ?_) (fun cdv A outer s H vs Q E hr h => ?_)
  · obtain ⟨m, v, rfl, hm, pl, q⟩ := h
    rfl
  · obtain ⟨m, v, rfl, hm, pl, q⟩ := h
    refine ⟨_, PSs.nox (pss_one (ps_match (pv 0) (pcs_seq rfl sc_plain_round.nd pe_str (pcap_cons (i := 1) rfl (.inl rfl) (pcap_cons (i := 2) rfl (.inl rfl) (pcap_cons (i := 3) rfl (.inl rfl) pcap_nil))) (pss_one (ps_ret (pe_call G_counter_round (hr.mono (by decide)) (by rfl) T.g_counter_round T.F_counter_round.kp T.b_counter_round .nil pass0 (pa_cons (pv 1) (pa_cons (pv 2) (pa_cons (pv 3) pa_nil))))))
    (pcs_seq rfl sc_plain_round.nd pe_str (pcap_cons (i := 4) rfl (.inl rfl) (pcap_cons (i := 3) rfl (.inl rfl) pcap_nil)) (pss_one (ps_ret (pe_call G_turned_round (hr.mono (by decide)) (by rfl) T.g_turned_round T.F_turned_round.kp T.b_turned_round .nil pass0 (pa_cons (pv 4) (pa_cons (pv 3) pa_nil)))))
    (pcs_seq rfl sc_plain_round.nd pe_str (pcap_cons (i := 4) rfl (.inl rfl) (pcap_cons (i := 5) rfl (.inl rfl) (pcap_cons (i := 3) rfl (.inl rfl) pcap_nil))) (pss_one (ps_ret (pe_call G_held_round (hr.mono (by decide)) (by rfl) T.g_held_round T.F_held_round.kp T.b_held_round .nil pass0 (pa_cons (pv 4) (pa_cons (pv 5) (pa_cons (pv 3) pa_nil))))))
    (pcs_seq rfl sc_plain_round.nd pe_str (pcap_cons (i := 6) rfl (.inl rfl) pcap_nil) (pss_one (ps_ret (pe_callTy call_list_of (by rfl) T.m_list bt_list (pa_cons (pv 6) pa_nil))))
    pcs_nil)))))), ?_⟩
    cases m with
    | counter r s' t =>
      obtain ⟨a, rfl, ha⟩ := hm
      refine ⟨.ref a, rfl, a, _, rfl, SqT.mk ha, .inr ⟨_, _, rfl, rfl, .inl ⟨rfl, ?_⟩⟩⟩
      exact ⟨.int (r : Nat), rfl, .int (s' : Nat), rfl, .int (t : Nat), rfl, r, s', t, rfl, pl.1, pl.2.1, pl.2.2.1, pl.2.2.2, q⟩
    | turned w' s' =>
      obtain ⟨a, rfl, ha⟩ := hm
      refine ⟨.ref a, rfl, a, _, rfl, SqT.mk ha, .inl ⟨by simp, .inr ⟨_, _, rfl, rfl, .inl ⟨rfl, ?_⟩⟩⟩⟩
      exact ⟨.int (w' : Nat), rfl, .int (s' : Nat), rfl, w', s', rfl, pl.1, pl.2.1, pl.2.2, q⟩
    | table ns =>
      obtain ⟨a, b, rfl, ha, hb⟩ := hm
      refine ⟨.ref a, rfl, a, _, rfl, SqT.mk ha, .inl ⟨by simp, .inl ⟨by simp, .inl ⟨by simp, .inr ⟨_, _, rfl, rfl, .inl ⟨rfl, ?_⟩⟩⟩⟩⟩⟩
      exact ⟨.ref b, rfl, b, _, rfl, .inr (SqT.mk hb), fun l nl => q _ l (same_upd nl) nl upd_same⟩
    | register w' p' s' =>
      obtain ⟨a, rfl, ha⟩ := hm
      refine ⟨.ref a, rfl, a, _, rfl, SqT.mk ha, .inr ⟨_, _, rfl, rfl, .inr ⟨by decide +kernel, .inl ⟨by simp, .inr ⟨_, _, rfl, rfl, .inl ⟨rfl, ?_⟩⟩⟩⟩⟩⟩
      exact ⟨.int (w' : Nat), rfl, .int (p' : Nat), rfl, .int (s' : Nat), rfl, w', p', s', rfl, pl, q⟩
    | _ => exact pl.elim
/-! the program: rounds, tops, numbers at beats -/
def spr_round_of (d : Nat) (_ : PySem.W.Frag) : Sp := fun vs H Q _ => ∃ m v, vs = [v] ∧ MkAt H m v ∧ m.Ok ∧ m.dep < d ∧ ∀ H', Same H H' → Q (.int (m.rnd : Nat)) H'
theorem no_round_of {K : PySem.W.Frag} {vs : List V} {H : Hp} {Q : VK} {E : XK} (h : spr_round_of 0 K vs H Q E) : False := by
  obtain ⟨m, v, _, _, _, z, _⟩ := h
  exact Nat.not_lt_zero _ z
theorem gcd_le {a n : Nat} : 1 ≤ Nat.gcd a (n + 1) ∧ Nat.gcd a (n + 1) ≤ n + 1 := ⟨Nat.gcd_pos_of_pos_right _ (by omega), Nat.le_of_dvd (by omega) (Nat.gcd_dvd_right _ _)⟩
theorem okr_round_of (T : Defs K mg) (TT : Tabs T base) : ∀ d : Nat, FnOk P w K mg base CX0 (4 + d) T.f_round_of T.fd_round_of ["maker"] (spr_round_of d K)
  | 0 => ⟨fun _ _ _ _ z => (no_round_of z).elim, fun _ _ _ _ _ _ _ _ _ _ _ _ _ z => (no_round_of z).elim⟩
  | d + 1 => by
    have G_round_of : FnOk P w K mg base CX0 (4 + d) T.f_round_of T.fd_round_of ["maker"] (spr_round_of d K) := okr_round_of T TT d
    have G_common_divisor : FnOk P w K mg base CX0 1 T.f_common_divisor T.fd_common_divisor ["one", "other"] (sp_common_divisor K) := ok_common_divisor T TT
    have G_plain_round : FnOk P w K mg base CX0 3 T.f_plain_round T.fd_plain_round ["maker"] (sp_plain_round K) := ok_plain_round T TT
    show FnOk P w K mg base CX0 ((4 + d) + 1) T.f_round_of T.fd_round_of ["maker"] (spr_round_of (d + 1) K)
    refine T.F_round_of.ok sc_round_of (fun vs H Q E h => ?_) (fun cdv A outer s H vs Q E hr h => ?_)
    · obtain ⟨m, v, rfl, hm, ok, dp, q⟩ := h
      rfl
    · obtain ⟨m, v, rfl, hm, ok, dp, q⟩ := h
      refine ⟨_, PSs.nox (pss_one (ps_match (pv 0) (pcs_seq rfl sc_round_of.nd pe_str (pcap_cons (i := 1) rfl (.inl rfl) (pcap_cons (i := 2) rfl (.inl rfl) pcap_nil)) (pss_one (ps_ret (pe_op op_mul (pv 1) (pe_call G_round_of (hr.mono (by omega)) (by rfl) T.g_round_of T.F_round_of.kp T.b_round_of .nil pass0 (pa_cons (pv 2) pa_nil)))))
    (pcs_seq rfl sc_round_of.nd pe_str (pcap_cons (i := 1) rfl (.inl rfl) (pcap_cons (i := 2) rfl (.inl rfl) pcap_nil)) (pss_cons (ps_set (i := 3) sc_round_of.nd rfl (.inl rfl) (pe_call G_round_of (hr.mono (by omega)) (by rfl) T.g_round_of T.F_round_of.kp T.b_round_of .nil pass0 (pa_cons (pv 2) pa_nil)))
    (pss_one (ps_ret (pe_op op_fdiv (pe_op op_mul (pv 1) (pv 3)) (pe_call G_common_divisor (hr.mono (by omega)) (by rfl) T.g_common_divisor T.F_common_divisor.kp T.b_common_divisor .nil pass0 (pa_cons (pv 3) (pa_cons (pe_op op_add (pv 1) pe_int) pa_nil)))))))
    (pcs_seq rfl sc_round_of.nd pe_str (pcap_cons (i := 4) rfl (.inl rfl) (pcap_cons (i := 2) rfl (.inl rfl) pcap_nil)) (pss_one (ps_ret (pe_call G_round_of (hr.mono (by omega)) (by rfl) T.g_round_of T.F_round_of.kp T.b_round_of .nil pass0 (pa_cons (pv 2) pa_nil))))
    (pcs_any (pss_one (ps_ret (pe_callB call_len_seq (by rfl) T.m_len bt_len (pa_cons (pe_call G_plain_round (hr.mono (by omega)) (by rfl) T.g_plain_round T.F_plain_round.kp T.b_plain_round .nil pass0 (pa_cons (pv 0) pa_nil)) pa_nil)))))))))), ?_⟩
      cases m with
      | slow n m =>
        obtain ⟨a, x, rfl, ha, hx⟩ := hm
        have dp : m.dep + 1 < d + 1 := dp
        refine ⟨.ref a, rfl, a, _, rfl, SqT.mk ha, .inr ⟨_, _, rfl, rfl, .inl ⟨rfl, ?_⟩⟩⟩
        refine ⟨.int (n : Nat), rfl, x, rfl, m, x, rfl, hx, ok.2.2, by omega, fun H1 s1 => ?_⟩
        refine ⟨_, _, rfl, rfl, .inl ⟨(show -(2 ^ 64) < (n : Int) by omega), (show (n : Int) < 2 ^ 64 by have := ok.2.1; omega)⟩, ?_⟩
        have e : (n : Int) * (m.rnd : Int) = (((Mk.slow n m).rnd : Nat) : Int) := (Int.natCast_mul n m.rnd).symm
        try dsimp only
        rw [e]
        exact q H1 s1
      | slip n m =>
        obtain ⟨a, x, rfl, ha, hx⟩ := hm
        have dp : m.dep + 1 < d + 1 := dp
        refine ⟨.ref a, rfl, a, _, rfl, SqT.mk ha, .inr ⟨_, _, rfl, rfl, .inr ⟨by decide +kernel, .inr ⟨_, _, rfl, rfl, .inl ⟨rfl, ?_⟩⟩⟩⟩⟩
        refine ⟨x, rfl, m, x, rfl, hx, ok.2.2, by omega, fun H1 s1 => ?_⟩
        refine ⟨.int (n : Nat), rfl, .int (m.rnd : Nat), rfl, _, _, rfl, rfl, .inl ⟨(show -(2 ^ 64) < (n : Int) by omega), (show (n : Int) < 2 ^ 64 by have := ok.2.1; omega)⟩, .int (m.rnd : Nat), rfl, .int (n : Nat), rfl, _, _, rfl, rfl, _, _, rfl, ?_⟩
        have g := gcd_le (a := m.rnd) (n := n)
        have eg : Int.gcd (m.rnd : Int) ((n : Int) + 1) = Nat.gcd m.rnd (n + 1) := rfl
        have ef : (if (1 : Int) > (Int.gcd (m.rnd : Int) ((n : Int) + 1) : Int) then 1 else (Int.gcd (m.rnd : Int) ((n : Int) + 1) : Int)) = ((Nat.gcd m.rnd (n + 1) : Nat) : Int) := by
          rw [eg]
          split <;> omega
        rw [ef]
        have n2 := ok.2.1
        refine ⟨_, _, rfl, rfl, ⟨(show (0 : Int) < ((Nat.gcd m.rnd (n + 1) : Nat) : Int) by omega), (show ((Nat.gcd m.rnd (n + 1) : Nat) : Int) < 1073741824 by omega)⟩, ?_⟩
        have e : (n : Int) * (m.rnd : Int) / ((Nat.gcd m.rnd (n + 1) : Nat) : Int) = (((Mk.slip n m).rnd : Nat) : Int) := by
          rw [← Int.natCast_mul, ← Int.natCast_ediv]
          rfl
        try dsimp only
        rw [e]
        exact q H1 s1
      | late n m =>
        obtain ⟨a, x, rfl, ha, hx⟩ := hm
        have dp : m.dep + 1 < d + 1 := dp
        refine ⟨.ref a, rfl, a, _, rfl, SqT.mk ha, .inr ⟨_, _, rfl, rfl, .inr ⟨by decide +kernel, .inr ⟨_, _, rfl, rfl, .inr ⟨by decide +kernel, .inr ⟨_, _, rfl, rfl, .inl ⟨rfl, ?_⟩⟩⟩⟩⟩⟩⟩
        exact ⟨x, rfl, m, x, rfl, hx, ok.2, by omega, fun H1 s1 => q H1 s1⟩
      | counter r s' t =>
        obtain ⟨a, rfl, ha⟩ := id hm
        refine ⟨.ref a, rfl, a, _, rfl, SqT.mk ha, .inl ⟨by simp, .inl ⟨by simp, .inl ⟨by simp, ?_⟩⟩⟩⟩
        refine ⟨.ref a, rfl, .counter r s' t, _, rfl, hm, ok, fun H1 p s1 np hp => ⟨p, _, rfl, .inl (SqL.mk hp), ?_⟩⟩
        rw [List.length_map]
        exact q H1 s1
      | turned w' s' =>
        obtain ⟨a, rfl, ha⟩ := id hm
        refine ⟨.ref a, rfl, a, _, rfl, SqT.mk ha, .inr ⟨_, _, rfl, rfl, .inr ⟨by decide +kernel, .inr ⟨_, _, rfl, rfl, .inr ⟨by decide +kernel, .inr ⟨_, _, rfl, rfl, .inr ⟨by decide +kernel, ?_⟩⟩⟩⟩⟩⟩⟩
        refine ⟨.ref a, rfl, .turned w' s', _, rfl, hm, ok, fun H1 p s1 np hp => ⟨p, _, rfl, .inl (SqL.mk hp), ?_⟩⟩
        rw [List.length_map]
        exact q H1 s1
      | table ns =>
        obtain ⟨a, b, rfl, ha, hb⟩ := id hm
        refine ⟨.ref a, rfl, a, _, rfl, SqT.mk ha, .inl ⟨by simp, .inl ⟨by simp, .inl ⟨by simp, ?_⟩⟩⟩⟩
        refine ⟨.ref a, rfl, .table ns, _, rfl, hm, ok, fun H1 p s1 np hp => ⟨p, _, rfl, .inl (SqL.mk hp), ?_⟩⟩
        rw [List.length_map]
        exact q H1 s1
      | register w' p s' =>
        obtain ⟨a, rfl, ha⟩ := id hm
        refine ⟨.ref a, rfl, a, _, rfl, SqT.mk ha, .inl ⟨by simp, .inl ⟨by simp, .inl ⟨by simp, ?_⟩⟩⟩⟩
        refine ⟨.ref a, rfl, .register w' p s', _, rfl, hm, ok, fun H1 p s1 np hp => ⟨p, _, rfl, .inl (SqL.mk hp), ?_⟩⟩
        rw [List.length_map]
        exact q H1 s1
def sp_round_of (K : PySem.W.Frag) : Sp := spr_round_of 5 K
theorem ok_round_of (T : Defs K mg) (TT : Tabs T base) : FnOk P w K mg base CX0 9 T.f_round_of T.fd_round_of ["maker"] (sp_round_of K) := okr_round_of T TT 5
def sp_top_of (_ : PySem.W.Frag) : Sp := fun vs H Q _ => ∃ m v, vs = [v] ∧ MkAt H m v ∧ m.Ok ∧ ∀ H' z, Same H H' → m.inn.Top z → Q (.int z) H'
theorem pl_at {m : Mk} (h : m.Pl) (t : Int) : atI (m.pl.map V.int) (t % (m.pl.length : Int)) = some (.int (m.pl.getD (t % (m.pl.length : Int)).toNat 0)) := by
  have hl := h.len
  have h1 := Int.emod_nonneg t (show (m.pl.length : Int) ≠ 0 by omega)
  have h2 := Int.emod_lt_of_pos t (show (0 : Int) < (m.pl.length : Int) by omega)
  obtain ⟨j, hj⟩ := Int.eq_ofNat_of_zero_le h1
  rw [hj] at h2 ⊢
  have hj2 : j < m.pl.length := by omega
  refine atI_nat ?_
  rw [List.getElem?_map, List.getElem?_eq_getElem hj2, Int.toNat_natCast, List.getD_eq_getElem?_getD, List.getElem?_eq_getElem hj2]
  rfl
def sp_values_at (_ : PySem.W.Frag) : Sp := fun vs H Q _ => ∃ m v b ts, vs = [v, .ref b] ∧ MkAt H m v ∧ m.Ok ∧ H b = some (.lst ((ts : List Int).map V.int)) ∧ ts.length ≤ 100000 ∧
  ∀ H' p, Same H H' → H p = none → H' p = some (.lst ((ts.map m.val).map V.int)) → Q (.ref p) H'
theorem ok_values_at (T : Defs K mg) (TT : Tabs T base) : FnOk P w K mg base CX0 4 T.f_values_at T.fd_values_at ["maker", "beats"] (sp_values_at K) := by
  have G_plain_round : FnOk P w K mg base CX0 3 T.f_plain_round T.fd_plain_round ["maker"] (sp_plain_round K) := ok_plain_round T TT
  have G_innermost : FnOk P w K mg base CX0 1 T.f_innermost T.fd_innermost ["maker"] (sp_innermost K) := ok_innermost T TT
  have G_inner_beat : FnOk P w K mg base CX0 1 T.f_inner_beat T.fd_inner_beat ["maker", "t"] (sp_inner_beat K) := ok_inner_beat T TT
  refine T.F_values_at.ok sc_values_at (fun vs H Q E h => ?_) (fun cdv A outer s H vs Q E hr h => ?_)
  · obtain ⟨m, v, b, ts, rfl, hm, ok, hb, hl, q⟩ := h
    rfl
  · obtain ⟨m, v, b, ts, rfl, hm, ok, hb, hl, q⟩ := h
    refine ⟨_, PSs.nox (pss_cons (ps_set (i := 2) sc_values_at.nd rfl (.inr rfl) (pe_orT (pe_call G_plain_round (hr.mono (by decide)) (by rfl) T.g_plain_round T.F_plain_round.kp T.b_plain_round .nil pass0 (pa_cons (pe_call G_innermost (hr.mono (by decide)) (by rfl) T.g_innermost T.F_innermost.kp T.b_innermost .nil pass0 (pa_cons (pv 0) pa_nil)) pa_nil)) (pe_one (pe_lst (pa_cons pe_int pa_nil)))))
    (pss_one (ps_ret (pe_lc (own := [("t", 3)]) (g := gName 3) (tt := tYes) rfl sc_values_at.nd (pi_list (pv 1)) (blkOk_by (N := N_values_at) (sc := defScope s_values_at) (by decide +kernel)) (fun _ _ _ _ _ => (pg_name (i := 3) sc_values_at.nd rfl (.inl rfl))) (fun _ _ _ _ _ => pts_nil) (fun _ _ _ _ _ => (pe_ix (ixlK (K := K) rfl) (pv 2) (pe_op op_mod (pe_call G_inner_beat (hr.mono (by decide)) (by rfl) T.g_inner_beat T.F_inner_beat.kp T.b_inner_beat .nil pass0 (pa_cons (pv 0) (pa_cons (pv 3) pa_nil))) (pe_callB (lenK (K := K) rfl) (by rfl) T.m_len bt_len (pa_cons (pv 2) pa_nil))) (fun _ _ => rfl))))))), ?_⟩
    have hsl : sizeLine = 16777216 := by decide
    refine ⟨v, rfl, m, v, rfl, hm, fun H1 u s1 hu => ?_⟩
    refine ⟨m.inn, u, rfl, hu, ok.inn, fun H2 p s2 np hp => ?_⟩
    have ll := ok.inn.len
    refine ⟨true, .inl ⟨_, SqL.mk hp, ?_⟩, ?_⟩
    · cases e : m.inn.pl with
      | nil =>
        rw [e] at ll
        exact absurd ll.1 (by decide)
      | cons x r => rfl
    refine iteT ?_
    have s12 := s1.trans s2
    refine ⟨.ref b, rfl, b, rfl, ⟨_, SqL.mk (s12 _ _ hb)⟩, fun D nD => ?_⟩
    refine lc_list (xs := ts.map V.int) (fun i H3 => Same H2 H3 ∧ H3 D = some (.lst (((ts.take i).map m.val).map V.int))) ⟨same_upd nD, upd_same⟩ (fun i H3 _ h => SqL.mk (h.1 _ _ (s12 _ _ hb))) (fun i x H3 hx h => ?_) (fun H3 h => ?_)
    · obtain ⟨s3, hD⟩ := h
      rw [List.getElem?_map] at hx
      obtain ⟨t, ht, rfl⟩ := Option.map_eq_some_iff.mp hx
      have hi := (List.getElem?_eq_some_iff.mp ht).1
      refine ⟨rfl, yes_ite ?_⟩
      refine ⟨.ref p, rfl, v, rfl, _, rfl, m, v, t, rfl, (hm.same s12).same s3, ok, fun H4 s4 => ?_⟩
      have hp4 := s4 _ _ (s3 _ _ hp)
      refine ⟨.ref p, rfl, p, _, rfl, .inl (SqL.mk hp4), _, _, rfl, rfl, by rw [List.length_map]; exact is_pos ll.1, p, _, _, .int (m.val t), rfl, rfl, SqL.mk hp4, ?_, ?_⟩
      · rw [List.length_map]
        exact pl_at ok.inn (m.bt t)
      · refine ⟨_, s4 _ _ hD, by rw [List.length_map, List.length_map, List.length_take]; omega, same_newer (s3.trans s4) nD, ?_⟩
        rw [upd_same, List.take_add_one, ht, List.map_append, List.map_append]
        rfl
    · obtain ⟨s3, hD⟩ := h
      rw [List.length_map, List.take_length] at hD
      exact q H3 D (s12.trans s3) (s12.free nD) hD
def sp_value_at (_ : PySem.W.Frag) : Sp := fun vs H Q _ => ∃ m v t, vs = [v, .int t] ∧ MkAt H m v ∧ m.Ok ∧ ∀ H', Same H H' → Q (.int (m.val t)) H'
theorem ok_value_at (T : Defs K mg) (TT : Tabs T base) : FnOk P w K mg base CX0 5 T.f_value_at T.fd_value_at ["maker", "t"] (sp_value_at K) := by
  have G_values_at : FnOk P w K mg base CX0 4 T.f_values_at T.fd_values_at ["maker", "beats"] (sp_values_at K) := ok_values_at T TT
  refine T.F_value_at.ok sc_value_at (fun vs H Q E h => ?_) (fun cdv A outer s H vs Q E hr h => ?_)
  · obtain ⟨m, v, t, rfl, hm, ok, q⟩ := h
    rfl
  · obtain ⟨m, v, t, rfl, hm, ok, q⟩ := h
    refine ⟨_, PSs.nox (pss_one (ps_ret (pe_ix ix_list (pe_call G_values_at (hr.mono (by decide)) (by rfl) T.g_values_at T.F_values_at.kp T.b_values_at .nil pass0 (pa_cons (pv 0) (pa_cons (pe_lst (pa_cons (pv 1) pa_nil)) pa_nil))) pe_int (fun _ _ => rfl)))), ?_⟩
    refine ⟨v, rfl, .int t, rfl, (show 1 ≤ sizeLine by decide), fun l nl => ?_⟩
    refine ⟨m, v, l, [t], rfl, hm.same (same_upd nl), ok, upd_same, (show 1 ≤ 100000 by decide), fun H1 p s1 np hp => ?_⟩
    exact ⟨p, _, 0, _, rfl, rfl, SqL.mk hp, atI_nat (j := 0) rfl, q H1 ((same_upd nl).trans s1)⟩
def sp_values_of (_ : PySem.W.Frag) : Sp := fun vs H Q _ => ∃ m v, ∃ n : Nat, vs = [v, .int (n : Nat)] ∧ MkAt H m v ∧ m.Ok ∧ n ≤ 100000 ∧
  ∀ H' p, Same H H' → H p = none → H' p = some (.lst (((List.range n).map fun (i : Nat) => m.val i).map V.int)) → Q (.ref p) H'
theorem ok_values_of (T : Defs K mg) (TT : Tabs T base) : FnOk P w K mg base CX0 5 T.f_values_of T.fd_values_of ["maker", "beats"] (sp_values_of K) := by
  have G_values_at : FnOk P w K mg base CX0 4 T.f_values_at T.fd_values_at ["maker", "beats"] (sp_values_at K) := ok_values_at T TT
  refine T.F_values_of.ok sc_values_of (fun vs H Q E h => ?_) (fun cdv A outer s H vs Q E hr h => ?_)
  · obtain ⟨m, v, n, rfl, hm, ok, hn, q⟩ := h
    rfl
  · obtain ⟨m, v, n, rfl, hm, ok, hn, q⟩ := h
    refine ⟨_, PSs.nox (pss_one (ps_ret (pe_call G_values_at (hr.mono (by decide)) (by rfl) T.g_values_at T.F_values_at.kp T.b_values_at .nil pass0 (pa_cons (pv 0) (pa_cons (pe_listRg rfl (by rfl) T.m_list (prg_1 (by rfl) T.m_range (pv 1))) pa_nil))))), ?_⟩
    refine ⟨v, rfl, .int (n : Nat), rfl, (n : Nat), rfl, RgOk.of_le (Int.le_refl 0) (by omega) (by decide) (by omega), fun l nl => ?_⟩
    refine ⟨m, v, l, (List.range n).map fun (i : Nat) => (i : Int), rfl, hm.same (same_upd nl), ok, ?_, by rw [List.length_map, List.length_range]; exact hn, fun H1 p s1 np hp => ?_⟩
    · rw [upd_same]
      unfold rgV
      rw [List.map_map, show ((n : Int) - 0).toNat = n by omega]
      congr 2
      apply List.map_congr_left
      intro i _
      show V.int (0 + (i : Int)) = V.int (i : Int)
      rw [Int.zero_add]
    · refine q H1 p ((same_upd nl).trans s1) ((same_upd nl).free np) ?_
      rw [hp]
      simp only [List.map_map]
      rfl
/-! the law's own divisor -/
def sp__law_divisor (_ : PySem.W.Frag) : Sp := fun vs H Q _ => ∃ a b : Int, vs = [.int a, .int b] ∧ Q (.int (Int.gcd a b : Int)) H
/-! where a number stands first -/
theorem flat_ints (xs : List Int) : (xs.map V.int).all flatV = true := by
  rw [List.all_eq_true]
  intro x hx
  obtain ⟨i, _, rfl⟩ := List.mem_map.mp hx
  rfl
theorem in_ints (xs : List Int) (k : Int) : inV (.int k) (xs.map V.int) = decide (k ∈ xs) := by
  unfold inV
  rw [Bool.eq_iff_iff, List.any_eq_true, decide_eq_true_iff]
  constructor
  · rintro ⟨y, hy, e⟩
    obtain ⟨i, hi, rfl⟩ := List.mem_map.mp hy
    have : i = k := by
      have e : (i == k) = true := e
      exact eq_of_beq e
    rw [← this]
    exact hi
  · intro h
    exact ⟨_, List.mem_map.mpr ⟨k, h, rfl⟩, show (k == k) = true from beq_self_eq_true k⟩
theorem first_of {xs : List Int} {k : Int} : k ∈ xs → ∃ j : Nat, xs[j]? = some k ∧ ∀ m, m < j → xs[m]? ≠ some k := by
  induction xs with
  | nil => intro h; cases h
  | cons x r ih =>
    intro h
    by_cases e : x = k
    · exact ⟨0, by rw [e]; rfl, fun m hm => by omega⟩
    · rcases List.mem_cons.mp h with h | h
      · exact absurd h.symm e
      · obtain ⟨j, h1, h2⟩ := ih h
        refine ⟨j + 1, h1, fun m hm => ?_⟩
        cases m with
        | zero => exact fun z => e (Option.some.inj z)
        | succ m => exact h2 m (by omega)
/-! counters, tables, turned ones -/
def Mk.Bs : Mk → Prop
  | .counter _ _ _ => True
  | .table _ => True
  | .turned _ _ => True
  | .register _ _ _ => True
  | _ => False
theorem bnd64 {z : Nat} (h : z ≤ 64) : -(2 ^ 64) < (z : Int) ∧ (z : Int) < 2 ^ 64 := by omega
def pows : List Int := [1, 2, 4, 8, 16, 32, 64]
def powP (w : Nat) : List Int := (List.range w).map fun j => ((2 ^ j : Nat) : Int)
def powR (w : Nat) : List Int := (List.range w).map fun j => ((2 ^ (w - 1 - j) : Nat) : Int)
theorem six {P : Nat → Prop} {w : Nat} (h : w ≤ 6) (h0 : P 0) (h1 : P 1) (h2 : P 2) (h3 : P 3) (h4 : P 4) (h5 : P 5) (h6 : P 6) : P w := by
  match w, h with
  | 0, _ => exact h0
  | 1, _ => exact h1
  | 2, _ => exact h2
  | 3, _ => exact h3
  | 4, _ => exact h4
  | 5, _ => exact h5
  | 6, _ => exact h6
theorem pow_take {w : Nat} (h : w ≤ 6) : pows.take w = powP w := six (P := fun w => pows.take w = powP w) h (by decide) (by decide) (by decide) (by decide) (by decide) (by decide) (by decide)
theorem pow_rev {w : Nat} (h : w ≤ 6) : (powP w).reverse = powR w := six (P := fun w => (powP w).reverse = powR w) h (by decide) (by decide) (by decide) (by decide) (by decide) (by decide) (by decide)
theorem pow_at {w : Nat} (h : w ≤ 6) : pows[w]? = some ((2 ^ w : Nat) : Int) := six (P := fun w => pows[w]? = some ((2 ^ w : Nat) : Int)) h (by decide) (by decide) (by decide) (by decide) (by decide) (by decide) (by decide)
theorem at_pow {w : Nat} (h : w ≤ 6) : atI (pows.map V.int) ((w : Nat) : Int) = some (.int ((2 ^ w : Nat) : Int)) := atI_nat (by rw [List.getElem?_map, pow_at h]; rfl)
theorem powP_len (w : Nat) : (powP w).length = w := by
  unfold powP
  rw [List.length_map, List.length_range]
theorem powR_len (w : Nat) : (powR w).length = w := by
  unfold powR
  rw [List.length_map, List.length_range]
theorem powP_at {w k : Nat} {y : V} (h : ((powP w).map V.int)[k]? = some y) : k < w ∧ y = .int ((2 ^ k : Nat) : Int) := by
  have hk := (List.getElem?_eq_some_iff.mp h).1
  rw [List.length_map, powP_len] at hk
  unfold powP at h
  rw [List.getElem?_map, List.getElem?_map, List.getElem?_range hk] at h
  cases h
  exact ⟨hk, rfl⟩
theorem powR_at {w k : Nat} {y : V} (h : ((powR w).map V.int)[k]? = some y) : k < w ∧ y = .int ((2 ^ (w - 1 - k) : Nat) : Int) := by
  have hk := (List.getElem?_eq_some_iff.mp h).1
  rw [List.length_map, powR_len] at hk
  unfold powR at h
  rw [List.getElem?_map, List.getElem?_map, List.getElem?_range hk] at h
  cases h
  exact ⟨hk, rfl⟩
theorem sum_two (f : Nat → Int) : ∀ k : Nat, ((List.range k).map fun j => 2 * f j).sum = 2 * ((List.range k).map f).sum
  | 0 => rfl
  | k + 1 => by
    rw [List.range_succ, List.map_append, List.sum_append, List.map_append, List.sum_append, sum_two f k]
    simp
    omega
theorem lff_sum (x : Nat) : ∀ w : Nat, ((List.range w).map fun j => ((x / 2 ^ j % 2 : Nat) : Int) * ((2 ^ (w - 1 - j) : Nat) : Int)).sum = ((lff x w : Nat) : Int)
  | 0 => rfl
  | w + 1 => by
    rw [List.range_succ, List.map_append, List.sum_append]
    have e : (List.range w).map (fun j => ((x / 2 ^ j % 2 : Nat) : Int) * ((2 ^ (w + 1 - 1 - j) : Nat) : Int)) = (List.range w).map fun j => 2 * (((x / 2 ^ j % 2 : Nat) : Int) * ((2 ^ (w - 1 - j) : Nat) : Int)) := by
      apply List.map_congr_left
      intro j hj
      have hj := List.mem_range.mp hj
      show _ = 2 * (_ * _)
      rw [show w + 1 - 1 - j = (w - 1 - j) + 1 by omega, Nat.pow_succ, Int.natCast_mul, Int.mul_comm ((2 ^ (w - 1 - j) : Nat) : Int), Int.mul_left_comm]
      rfl
    rw [e, sum_two (fun j => ((x / 2 ^ j % 2 : Nat) : Int) * ((2 ^ (w - 1 - j) : Nat) : Int)) w, lff_sum x w]
    show 2 * ((lff x w : Nat) : Int) + (_ * ((2 ^ (w + 1 - 1 - w) : Nat) : Int) + 0) = ((2 * lff x w + x / 2 ^ w % 2 : Nat) : Int)
    rw [show w + 1 - 1 - w = 0 by omega]
    omega
def sp__law_powers (_ : PySem.W.Frag) : Sp := fun vs H Q _ => vs = [] ∧ ∀ H' p, Same H H' → H p = none → H' p = some (.lst (pows.map V.int)) → Q (.ref p) H'
def sp__law_base (_ : PySem.W.Frag) : Sp := fun vs H Q _ => ∃ m v, vs = [v] ∧ MkAt H m v ∧ m.Pl ∧ m.Bs ∧
  ∀ H' p, Same H H' → H p = none → H' p = some (.lst (m.pl.map V.int)) → Q (.ref p) H'
theorem ne_table_counter : ¬ (V.str "counter" = V.str "table") := by decide +kernel
/-! heaps with tables -/
theorem trip0 : TriplesOk (#[] : Array Value).toList := trivial
structure Sam (H H' : Hp) : Prop where
  obj : ∀ b o, (∀ ps, o ≠ .tbl ps) → H b = some o → H' b = some o
  tab : ∀ b ps, H b = some (.tbl ps) → ∃ ps', H' b = some (.tbl ps') ∧ (TriplesOk ps.toList → TriplesOk ps'.toList)
theorem Sam.of {H H' : Hp} (s : Same H H') : Sam H H' := ⟨fun b o _ e => s b o e, fun b ps e => ⟨ps, s b _ e, fun z => z⟩⟩
theorem Sam.refl (H : Hp) : Sam H H := .of (Same.refl H)
theorem Sam.trans {H H1 H2 : Hp} (a : Sam H H1) (b : Sam H1 H2) : Sam H H2 := ⟨fun c o n e => b.obj c o n (a.obj c o n e), fun c ps e => by
  obtain ⟨p1, e1, t1⟩ := a.tab c ps e
  obtain ⟨p2, e2, t2⟩ := b.tab c p1 e1
  exact ⟨p2, e2, fun z => t2 (t1 z)⟩⟩
theorem Sam.tabG {H H' : Hp} {P : Addr} (a : Sam H H') (t : GxR.TabG H P) : GxR.TabG H' P := by
  obtain ⟨ps, e, z⟩ := t
  obtain ⟨p1, e1, t1⟩ := a.tab P ps e
  exact ⟨p1, e1, t1 z⟩
theorem Sam.tup {H H' : Hp} {a : Addr} {xs : List V} (s : Sam H H') (h : H a = some (.tup xs)) : H' a = some (.tup xs) := s.obj _ _ (fun _ z => by cases z) h
theorem Sam.lst {H H' : Hp} {a : Addr} {xs : List V} (s : Sam H H') (h : H a = some (.lst xs)) : H' a = some (.lst xs) := s.obj _ _ (fun _ z => by cases z) h
theorem Sam.free {H H' : Hp} (s : Sam H H') {l : Addr} (h : H' l = none) : H l = none := by
  cases q : H l with
  | none => rfl
  | some o =>
    cases o with
    | tbl ps =>
      obtain ⟨p1, e1, _⟩ := s.tab l ps q
      rw [e1] at h
      cases h
    | _ =>
      rw [s.obj l _ (fun _ z => by cases z) q] at h
      cases h
theorem Sam.tabbed {P : Addr} {H H' : Hp} (g : GxR.TabG H P) (t : GxR.Tabbed P H H') : Sam H H' := by
  obtain ⟨⟨p1, e1, z1⟩, k⟩ := t
  obtain ⟨p0, e0, _⟩ := g
  refine ⟨fun b o n e => ?_, fun b ps e => ?_⟩
  · by_cases hb : b = P
    · rw [hb, e0] at e
      exact absurd (Option.some.inj e).symm (n p0)
    · rw [k b hb]
      exact e
  · by_cases hb : b = P
    · rw [hb]
      exact ⟨p1, e1, fun _ => z1⟩
    · exact ⟨ps, by rw [k b hb]; exact e, fun z => z⟩
theorem sam_newer {H H' : Hp} {q : Addr} {o : HO} (a : Sam H H') (n : H q = none) : Sam H (upd H' q o) := ⟨fun c x hx e => by
    rw [upd_ne (ne_of_none e n)]
    exact a.obj c x hx e, fun c ps e => by
    obtain ⟨p1, e1, t1⟩ := a.tab c ps e
    exact ⟨p1, by rw [upd_ne (ne_of_none e n)]; exact e1, t1⟩⟩
/-- all but the box stays, tables grow -/
structure Bus (p : Addr) (H H' : Hp) : Prop where
  obj : ∀ b o, b ≠ p → (∀ ps, o ≠ .tbl ps) → H b = some o → H' b = some o
  tab : ∀ b ps, b ≠ p → H b = some (.tbl ps) → ∃ ps', H' b = some (.tbl ps') ∧ (TriplesOk ps.toList → TriplesOk ps'.toList)
theorem Bus.of {p : Addr} {H H' : Hp} (s : But p H H') : Bus p H H' := ⟨fun b o n _ e => s b o n e, fun b ps n e => ⟨ps, s b _ n e, fun z => z⟩⟩
theorem Bus.sam {p : Addr} {H H' : Hp} (s : Sam H H') : Bus p H H' := ⟨fun b o _ n e => s.obj b o n e, fun b ps _ e => s.tab b ps e⟩
theorem Bus.refl (p : Addr) (H : Hp) : Bus p H H := .of (But.refl p H)
theorem Bus.trans {p : Addr} {H H1 H2 : Hp} (a : Bus p H H1) (b : Bus p H1 H2) : Bus p H H2 := ⟨fun c o h n e => b.obj c o h n (a.obj c o h n e), fun c ps h e => by
  obtain ⟨p1, e1, t1⟩ := a.tab c ps h e
  obtain ⟨p2, e2, t2⟩ := b.tab c p1 h e1
  exact ⟨p2, e2, fun z => t2 (t1 z)⟩⟩
theorem Bus.tup {p : Addr} {H H' : Hp} {n : Nat} {a : Addr} {xs : List V} (s : Bus p H H') (B : Bx H p n) (h : H a = some (.tup xs)) : H' a = some (.tup xs) := s.obj _ _ (B.ne_tup h) (fun _ z => by cases z) h
theorem Bus.lst {p : Addr} {H H' : Hp} {a : Addr} {xs : List V} (s : Bus p H H') (ne : a ≠ p) (h : H a = some (.lst xs)) : H' a = some (.lst xs) := s.obj _ _ ne (fun _ z => by cases z) h
theorem Bus.tabG {p : Addr} {H H' : Hp} {n : Nat} {P : Addr} (s : Bus p H H') (B : Bx H p n) (t : GxR.TabG H P) : GxR.TabG H' P := by
  obtain ⟨ps, e, z⟩ := t
  obtain ⟨a, b, c, hp, _⟩ := B
  obtain ⟨p1, e1, t1⟩ := s.tab P ps (ne_of e hp (fun z => by cases z)) e
  exact ⟨p1, e1, t1 z⟩
theorem Bus.new {p q : Addr} {H H' : Hp} {o : HO} (a : Bus p H H') (n : H' q = none) : Bus p H (upd H' q o) := a.trans (.of ((But.refl p H').new n))
/-- a thing made since H may change -/
theorem bus_newer {p q : Addr} {H H' : Hp} {o : HO} (a : Bus p H H') (n : H q = none) : Bus p H (upd H' q o) := ⟨fun c x h hx e => by
    rw [upd_ne (ne_of_none e n)]
    exact a.obj c x h hx e, fun c ps h e => by
    obtain ⟨p1, e1, t1⟩ := a.tab c ps h e
    exact ⟨p1, by rw [upd_ne (ne_of_none e n)]; exact e1, t1⟩⟩
theorem Bus.free {p : Addr} {H H' : Hp} {n : Nat} (s : Bus p H H') (B : Bx H p n) (B' : ∃ m, Bx H' p m) {l : Addr} (h : H' l = none) : H l = none := by
  cases q : H l with
  | none => rfl
  | some o =>
    have nl : l ≠ p := fun z => by
      obtain ⟨m, _, _, _, hp, _⟩ := B'
      rw [z, hp] at h
      cases h
    cases o with
    | tbl ps =>
      obtain ⟨p1, e1, _⟩ := s.tab l ps nl q
      rw [e1] at h
      cases h
    | _ =>
      rw [s.obj l _ nl (fun _ z => by cases z) q] at h
      cases h
theorem Bx.sam {H H' : Hp} {p : Addr} {n : Nat} (h : Bx H p n) (s : Sam H H') : Bx H' p n := by
  obtain ⟨a, b, c, hp, r⟩ := h
  exact ⟨a, b, c, s.lst hp, r⟩
theorem bus_same {p : Addr} {H H1 H2 : Hp} (n : H p = none) (a : Sam H H1) (b : Bus p H1 H2) : Sam H H2 := ⟨fun c x h e => b.obj c x (ne_of_none e n) h (a.obj c x h e), fun c ps e => by
  obtain ⟨p1, e1, t1⟩ := a.tab c ps e
  obtain ⟨p2, e2, t2⟩ := b.tab c p1 (ne_of_none e n) e1
  exact ⟨p2, e2, fun z => t2 (t1 z)⟩⟩
theorem ne_new {H : Hp} {p q : Addr} {n : Nat} (B : Bx H p n) (nq : H q = none) : q ≠ p := fun e => by
  obtain ⟨_, _, _, hp, _⟩ := B
  rw [e, hp] at nq
  cases nq
theorem nat_of {x : Int} (h : 0 ≤ x) : ∃ m : Nat, x = (m : Nat) := Int.eq_ofNat_of_zero_le h
theorem listK {X : Cx} {K : PySem.W.Frag} {tg e : Expr} {t : TE} (h : X.K = K) (he : PE X e t) : PI X tg e (iList K t) := by
  subst h
  exact pi_list he
theorem nx_via {t u : TS} {D : Ends} {r : VK} {k c : L2.St → Hp → Prop} {σ : L2.St} {H : Hp} (R : L2.St → Hp → Prop) (h1 : ∀ N : L2.St → Hp → Prop, (∀ σ H, R σ H → N σ H) → t { D with nx := N } σ H) (h2 : ∀ σ H, R σ H → u D σ H) : Ends.nx { nx := tSeq t u D, rt := r, bk := k, ct := c } σ H := h1 _ h2
theorem seq_via {t u : TS} {D : Ends} {σ : L2.St} {H : Hp} (R : L2.St → Hp → Prop) (h1 : ∀ N : L2.St → Hp → Prop, (∀ σ H, R σ H → N σ H) → t { D with nx := N } σ H) (h2 : ∀ σ H, R σ H → u D σ H) : tSeq t u D σ H := h1 _ h2
theorem u1 {k : Nat} {A : Around} (r : Room k A) : A.units + 1 < cLine := by
  have := r.un
  omega
theorem lcK {X : Cx} {K : PySem.W.Frag} (h : X.K = K) : MtR X "list.count" (rCntI K) := by
  subst h
  exact mt_lcount
theorem pe_bmK {X : Cx} {K : PySem.W.Frag} {T id : String} {name : Str} {r : V → List V → Hp → VK → Prop} {o e : Expr} {es : List Expr} {to : TE} {t : TA} {apos cpos : Pos} (pa : PlainAttrs T) (slot : Slot T name id) (hty : typeOf (.builtin id) = pure (.type "method_descriptor")) (hm : MtR X id r) (ho : PE X o to) (ha : PA X (e :: es) t) (hk : X.K = K := by rfl)
    (hbase : attributeBase o name X.env (eval o X.env) = eval o X.env := by rfl)
    (hfew : ((backTo cpos (starEach (e :: es) X.env)).all (fun x => !x.1) && (backToKw cpos (keywordEach [] X.env)).all (fun x => x.1.isSome) && decide ((e :: es).length + ([] : List Keyword).length + (if ([] : List Keyword).isEmpty then 0 else 1) < 30)) = true := by rfl)
    (hline : (apos.endLine == cpos.line) = true := by rfl) (hs : starEach (e :: es) X.env = (false, eval e X.env) :: starEach es X.env := by rfl) (hplain : (backTo cpos (starEach es X.env)).any (·.1) = false := by rfl) :
    PE X (.Call (.Attribute o name apos) (e :: es) [] cpos) (tBM K T r to t) := by
  subst hk
  exact pe_bm pa slot hty hm ho ha hbase hfew hline hs hplain
/-! generator expressions whose element is anything that PE serves: the generator's own frame as a context -/
abbrev Cx.gblk (X : Cx) (s : Shared) (H : Hp) (scope : Scope) (C : Addr) (code : Value) (fp : List Addr) : Cx :=
  { X with A := X.A.in1.in1.in1.in1.deeper (genEnv scope (cloFrom X.env.cells scope.names []) C code builtinsNs X.env), s_0 := s, H_0 := H, env := genEnv scope (cloFrom X.env.cells scope.names []) C code builtinsNs X.env, outer := X.stack, stack := (genEnv scope (cloFrom X.env.cells scope.names []) C code builtinsNs X.env) :: X.stack, ex := fp, fn := fun x => scope.names.lookup x == some .cell, pn := [], xe := fun _ _ => False }
theorem over_gen {A : Around} {elt : Expr} {gs : List Comprehension} {sc : Scope} {pos : Pos} {it acc : Value} {env : Env} : A.over (.compLoop (.GeneratorExp elt gs sc pos) 0 it acc env) [] = A.deeper env := by
  first
    | rfl
    | (obtain ⟨hd, d, fr, gd, u⟩ := A; simp [Around.over, Around.deeper, marksOver, frameCount, unitsOf, envsOf, guardsOf, pushEnvs, pushGuards, Code.envs, Code.env?, Code.isFrame, Code.guards, Code.isGuard, Code.weight, Code.frames, Code.isCreation, Code.isCaller, Code.cUnits])
theorem over_gen0 {A : Around} {elt : Expr} {gs : List Comprehension} {sc : Scope} {pos : Pos} {it acc : Value} {env : Env} : A.over (.compStart (.GeneratorExp elt gs sc pos) 0 it acc env) [] = A.deeper env := by
  first
    | rfl
    | (obtain ⟨hd, d, fr, gd, u⟩ := A; simp [Around.over, Around.deeper, marksOver, frameCount, unitsOf, envsOf, guardsOf, pushEnvs, pushGuards, Code.envs, Code.env?, Code.isFrame, Code.guards, Code.isGuard, Code.weight, Code.frames, Code.isCreation, Code.isCaller, Code.cUnits])
theorem Room.gen {k : Nat} {A : Around} (r : Room (k + 1) A) (env : Env) : Room k (A.in1.in1.in1.in1.deeper env) :=
  ⟨r.hd, by have := r.dp; show A.depth + 1 + 3 * k + 5 < _; omega, by have := r.un; show A.units + 1 + 1 + 1 + 1 + 3 + 16 * k + 200 < _; omega⟩
/-- the names of a generator expression: as a block's, none of them a cell of its own -/
structure GenOk (N : List Str) (sc scope : Scope) (own : List (Str × Nat)) : Prop where
  blk : BlkOk N sc scope own
  co : scope.isCoroutine = false
  cel : ∀ y ∈ scope.names, y.2 ≠ .cell
  dot : scope.names.lookup (".0" : Str) = some NameKind.local
theorem genOk_by {N : List Str} {sc scope : Scope} {own : List (Str × Nat)} (h : blkC N sc scope own = true) (co : scope.isCoroutine = false) (cel : (scope.names.all fun y => y.2 != .cell) = true) (dot : scope.names.lookup (".0" : Str) = some NameKind.local) : GenOk N sc scope own := by
  refine ⟨blkOk_by h, co, fun y hy e => ?_, dot⟩
  have := List.all_eq_true.mp cel y hy
  rw [e] at this
  cases this
section
variable {X : Cx} {pins : List (Addr × Obj)} {σ : L2.St} {H : Hp} {s : Shared}
theorem gen_start {scope : Scope} {own : List (Str × Nat)} {fp : List Addr} {code : Value} {h' : Heap} {go : Obj} {G : Array GenState} {tk : Nat} {it : Value} (I : Inv X pins σ H s) (ok : GenOk X.N X.env.scope scope own) (hN : X.N.Nodup) (hfp : ∀ b ∈ fp, FpOk X pins H b ∧ b < s.heap.objs.size)
    (hns : h'.Ns s.heap.objs.size (fun y => if y = ".0" then some it else none)) (sb : Heap.SameBut s.heap.objs.size (s.heap.push { cls := .type "frame", data := .dict #[] }) h') (hG : AllBare G) (hgo : (h'.push go).get? h'.objs.size = some go) (hgd : ∀ v, go.data ≠ .cell v) :
    Inv (Cx.gblk X s H scope s.heap.objs.size code fp) [(h'.objs.size, go)] (wipe σ (own.map (·.2))) H { s with gens := G, toks := tk, heap := h'.push go } := by
  have hfree : ∀ y ∈ scope.names, y.2 = .free → ∃ c, X.env.cells.lookup y.1 = some c := fun y hy e => by
    rcases ok.blk.free y hy e with k | k
    · exact I.ok.has _ (.inl k)
    · exact I.ok.has _ (.inr k)
  have szh : h'.objs.size = s.heap.objs.size + 1 := by rw [sb.1, Heap.size_push]
  have kp : ∀ b o, s.heap.get? b = some o → (h'.push go).get? b = some o := fun b o e => Heap.get?_push_of_some _ (sb.extBut b o (Nat.ne_of_lt (Heap.lt_size e)) (Heap.get?_push_of_some _ e))
  have cm : ∀ {y c}, (cloFrom X.env.cells scope.names []).lookup y = some c → X.env.cells.lookup y = some c ∧ c < s.heap.objs.size ∧ (y, NameKind.free) ∈ scope.names := fun {y c} e => by
    rcases cloFrom_mem (PySem.mem_of_lookup e) with hm | ⟨h1, rfl⟩
    · cases hm
    · obtain ⟨c, hc⟩ := hfree _ h1 rfl
      rw [hc]
      obtain ⟨w, z⟩ := I.cell _ _ hc
      exact ⟨rfl, z.lt, h1⟩
  have look : ∀ {y}, scope.names.lookup y = some .free → ∃ c, (cloFrom X.env.cells scope.names []).lookup y = some c ∧ X.env.cells.lookup y = some c := fun {y} hl => by
    have hy : (y, NameKind.free) ∈ scope.names := PySem.mem_of_lookup hl
    obtain ⟨c', e'⟩ := mem_lookup (cloFrom_has (cells := X.env.cells) (acc := []) hy)
    exact ⟨c', e', (cm e').1⟩
  have okB : (Cx.gblk X s H scope s.heap.objs.size code fp).Ok := by
    refine ⟨I.ok.mod, ok.blk.kind, I.ok.glob, rfl, Nat.le_refl _, fun y z c e1 e2 => I.ok.inj y z c (cm e1).1 (cm e2).1, fun y hy => ?_, fun y c z e => ?_, I.ok.hd, ?_, .inr ⟨rfl, rfl⟩, fun b hb => ⟨?_, fun y c e z => ?_⟩, I.bs, Nat.le_trans I.ok.bsz I.sz, fun b o e hb => ?_, fun b hb z => ?_, I.stack, I.stkFree⟩
    · rcases hy with hy | hy
      · have hy : scope.names.lookup y = some .cell := hy
        exact absurd rfl (ok.cel _ (PySem.mem_of_lookup hy))
      · obtain ⟨c, h1, _⟩ := look (y := y) hy
        exact ⟨c, h1⟩
    · have z : (scope.names.lookup y == some NameKind.cell) = true := z
      have z : scope.names.lookup y = some .cell := by simpa using z
      exact absurd rfl (ok.cel _ (PySem.mem_of_lookup z))
    · show (X.A.frames.map (_ :: ·)) = some (_ :: X.stack)
      rw [I.ok.frames]
      rfl
    · exact Nat.ne_of_lt (hfp b hb).2
    · exact (hfp b hb).1.2.2.2.2.1 y c (cm e).1 z
    · rcases (hfp b hb).1.2.2.2.1 with z | z
      · exact I.ok.noex b o e z
      · exact absurd (Nat.lt_of_lt_of_le (Heap.lt_size e) (Nat.le_trans I.ok.bsz z)) (Nat.lt_irrefl _)
    · rcases List.mem_cons.mp (I.stkSub b z) with z | z
      · exact (hfp b hb).1.2.1 z
      · exact (hfp b hb).1.2.2.1 z
  refine ⟨okB, rfl, hG, Un.kept kp, ⟨_, hns.push go, fun i y av e1 e2 e3 => ?_⟩, fun y c e => ?_, I.hok.fresh (Nat.le_refl _), fun y c e => I.freeC y c (cm e).1, fun p hp => ?_, I.hok.kept kp, by rw [wipe_length]; exact I.len⟩
  · obtain ⟨e2, hne⟩ := wipe_some e2
    have e3 : Vis scope y := e3
    have hfr : scope.names.lookup y = some .free := by
      have no : ∀ k, scope.names.lookup y = some k → (k = .local ∨ k = .cell) → False := fun k e hh => by
        rcases ok.blk.own _ (PySem.mem_of_lookup e) hh with e' | e'
        · obtain ⟨p, hp, hpy⟩ := List.mem_map.mp e'
          have e3 := ok.blk.ix p hp
          have : p.1 = y := hpy
          rw [this] at e3
          exact hne (List.mem_map.mpr ⟨p, hp, nodup_ix hN e3 e1⟩)
        · exact e' (List.mem_of_getElem? e1)
      rcases e3 with e3 | e3 | e3
      · exact (no _ e3 (.inl rfl)).elim
      · exact (no _ e3 (.inr rfl)).elim
      · exact e3
    obtain ⟨m, hn, hl⟩ := I.loc
    have hvis : Vis X.env.scope y := (ok.blk.free _ (PySem.mem_of_lookup hfr) rfl).elim (fun k => .inr (.inl k)) (fun k => .inr (.inr k))
    obtain ⟨w, r, q⟩ := hl i y av e1 e2 hvis
    refine ⟨w, r, .inr ⟨.inr hfr, ?_⟩⟩
    obtain ⟨c, h1, h2⟩ := look hfr
    rcases q with ⟨k, _⟩ | ⟨_, c', e', z⟩
    · have k : X.env.scope.names.lookup y = some .local := k
      rcases ok.blk.free _ (PySem.mem_of_lookup hfr) rfl with k' | k' <;> rw [show X.env.scope.names.lookup y = _ from k'] at k <;> cases k
    · rw [h2] at e'; cases e'
      exact ⟨c, h1, z.keeps kp⟩
  · obtain ⟨w, z⟩ := I.cell y c (cm e).1
    exact ⟨w, z.keeps kp⟩
  · have hp : p = (h'.objs.size, go) := by simpa using hp
    subst hp
    have ge : s.heap.objs.size ≤ h'.objs.size := by omega
    refine ⟨hgo, I.hok.fresh ge, by show h'.objs.size ≠ s.heap.objs.size; omega, fun z => ?_, hgd⟩
    rcases List.mem_cons.mp (I.stkSub _ z) with z | z
    · have z : h'.objs.size = X.env.locals := z
      exact Nat.ne_of_lt (Nat.lt_of_lt_of_le I.lt ge) z.symm
    · exact I.nofs ge z
end
section
/-- what the consumer holds beside, what it is told, where it goes on, the end -/
structure GPar where
  ext : List V → List (Addr × Obj) → Prop
  yld : List V → V → Hp → Prop
  go : List V → V → Hp → Prop
  fin : List V → Hp → Prop
def YG (Y : Cx) (ga : Addr) (go : Obj) (p : GPar) : Protocol := fun _ _ v s kap => ∃ (ys : List V) (y : V) (H' : Hp) (ps pf : List (Addr × Obj)) (σ' : L2.St), RelV y v ∧ p.ext ys ps ∧ (∀ q ∈ pf, q.1 < Y.env.locals) ∧ Inv Y (((ga, go) :: ps) ++ pf) σ' H' s ∧ p.yld ys y H' ∧
  ∀ s' ps', p.ext (ys ++ [y]) ps' → Inv Y (((ga, go) :: ps') ++ pf) σ' H' s' → p.go ys y H' → kap (.send .none) s'
def RG (Y : Cx) (ga : Addr) (go : Obj) (p : GPar) : Shared → Prop := fun s => ∃ (ys : List V) (H' : Hp) (ps : List (Addr × Obj)) (σ' : L2.St), p.ext ys ps ∧ Inv Y ((ga, go) :: ps) σ' H' s ∧ p.fin ys H'
theorem gen_loop {Y : Cx} {A : Around} {ga : Addr} {go : Obj} {p : GPar} {elt tg iter : Expr} {ifs : List Expr} {scope : Scope} {pos : Pos} {it : Addr} {fp : List Addr} {tn : Nat → Heap → Prop} {J : It} {g : TG} {tt : TT} {te : TE} {σ : L2.St} {vs : List Nat} {W : List V → Nat → Nat → Hp → Prop}
    (hcal : Y.calm = true) (hpn : Y.pn = []) (T : Turn Y.prog Y.w Y.K tg J fp it tn) (hpg : PG Y tg g) (hpt : PTs Y ifs tt) (hpe : PE Y elt te) (hxe : Y.xe = fun _ _ => False)
    (hA : A.over (.compLoop (.GeneratorExp elt [⟨tg, iter, ifs, 0⟩] scope pos) 0 (.ref it) .none Y.env) [] = Y.A) (hex : ∀ b ∈ fp, b ∈ Y.ex) (hga : ∀ b ∈ fp, ga ≠ b) (hext : ∀ ys ps, p.ext ys ps → ∀ q ∈ ps, ∀ b ∈ fp, q.1 ≠ b) (hco : Y.env.scope.isCoroutine = false) (hfl : ∀ b ∈ fp, b < Y.env.locals)
    (step : ∀ ys i m H, W ys i m H → (J.stop i H ∧ p.fin ys H) ∨ (J.go i H ∧ ∃ Nx : List V → Hp → Prop, (∀ ys' H', Nx ys' H' → ∃ m', m' < m ∧ W ys' (i + 1) m' H') ∧ ∀ x H', J.yld i H x H' → g x (wipe σ vs) H' fun σ2 H2 => wipe σ2 vs = wipe σ vs ∧ tt σ2 H2 fun b H3 =>
      if b = true then te σ2 H3 fun y H4 => p.yld ys y H4 ∧ (p.go ys y H4 → Nx (ys ++ [y]) H4) else Nx ys H3)) :
    ∀ (m n i : Nat) (ys : List V) (H : Hp) (ps : List (Addr × Obj)) (s₀ s : Shared), m < n → W ys i m H → p.ext ys ps → Inv Y ((ga, go) :: ps) (wipe σ vs) H s → tn i s.heap → (∀ b ∈ fp, H b = none) →
      Seg (model Y.prog Y.w) A (fun n s₀ r s₁ => r = .ok .next ∧ (fun _ _ s => RG Y ga go p s) n s₀ s₁) (YG Y ga go p) n s₀ (.compLoop (.GeneratorExp elt [⟨tg, iter, ifs, 0⟩] scope pos) 0 (.ref it) .none Y.env)
        ((model Y.prog Y.w).den (.compLoop (.GeneratorExp elt [⟨tg, iter, ifs, 0⟩] scope pos) 0 (.ref it) .none Y.env)) [] s := by
  intro m
  induction m using Nat.strongRecOn with
  | ind m ih =>
  intro n i ys H ps s₀ s hmn w0 ex0 I0 st0 n0
  have stat : ∀ {σ' : L2.St} {H' : Hp} {s' : Shared} {ys' ps'}, p.ext ys' ps' → Inv Y ((ga, go) :: ps') σ' H' s' → (∀ b ∈ fp, H' b = none) → ∀ b ∈ fp, FpOk Y ((ga, go) :: ps') H' b := fun {σ' H' s' ys' ps'} e' I' hn b hb =>
    ⟨hn b hb, (I'.ok.exf b (hex b hb)).1, I'.ok.exfs b (hex b hb), .inl (hex b hb), fun x c e => (I'.ok.exf b (hex b hb)).2 x c e, fun q hq => by
      rw [hpn, List.nil_append] at hq
      rcases List.mem_cons.mp hq with z | z
      · rw [z]; exact hga b hb
      · exact hext _ _ e' q z b hb⟩
  show Seg _ A _ _ _ s₀ _ ((compTurn (.GeneratorExp elt [⟨tg, iter, ifs, 0⟩] scope pos) 0 (.ref it) .none Y.env).onRaise (leaving Y.env)) [] s
  rw [compTurn_gen, Sem.onRaise_eq_wrap]
  refine seg_bind_wrap (wpAny_standAt ?_)
  rcases step ys i m H w0 with ⟨stop, qf⟩ | ⟨gon, Nx, hNx, turn⟩
  · refine seg_bind_wrap ?_
    rw [hA]
    refine thnF (T.done Y rfl rfl rfl hcal i _ s _ H (fun _ _ => False) I0 (stat ex0 I0 n0) st0 stop) fun r s6 ⟨hr, I6⟩ => ?_
    subst hr
    exact seg_end (.ok .next) ⟨rfl, ys, H, ps, _, ex0, I6, qf⟩
  · refine seg_bind_wrap ?_
    rw [hA]
    refine thnF (T.item Y rfl rfl rfl hcal i _ s _ H (fun _ _ => False) I0 (stat ex0 I0 n0) st0 gon) fun r s6 ⟨u, hr, h6⟩ => ?_
    subst hr
    refine seg_bind_wrap ?_
    rw [hA]
    refine thnF h6 fun _ s7 ⟨x, H7, I7, r7, y7, st7, n7⟩ => ?_
    have I7' := I7.pinned (stat ex0 I7 n7) (T.obj _ _ st7)
    refine seg_bind_wrap ?_
    rw [hA]
    have fx : ∀ {α : Type} {t : Sem α} {Q : α → Shared → Prop} {s : Shared}, wpAny (model Y.prog Y.w) Y.A t Q Y.xe s → wpAny (model Y.prog Y.w) Y.A t Q (fun _ _ => False) s := fun h => by rw [hxe] at h; exact h
    refine thnF (fx (hpg.run _ s7 _ H7 x u _ I7' r7 (turn x H7 y7))) fun _ s8 ⟨σ8, H8, I8, hw8, q8⟩ => ?_
    refine seg_bind_wrap ?_
    rw [hA]
    refine thnF (fx (hpt.run _ s8 σ8 H8 _ I8 q8)) fun b s9 ⟨H9, I9, q9⟩ => ?_
    have fin : ∀ {s' : Shared} {H' : Hp} {ys' ps' m'}, m' < m → ∀ {n' : Nat} {s₀' : Shared}, m' < n' → p.ext ys' ps' → Inv Y (((ga, go) :: ps') ++ pinsAt fp s7.heap) σ8 H' s' → W ys' (i + 1) m' H' → Seg (model Y.prog Y.w) A (fun n s₀ r s₁ => r = .ok .next ∧ (fun _ _ s => RG Y ga go p s) n s₀ s₁) (YG Y ga go p) n' s₀' (.compLoop (.GeneratorExp elt [⟨tg, iter, ifs, 0⟩] scope pos) 0 (.ref it) .none Y.env)
        ((model Y.prog Y.w).den (.compLoop (.GeneratorExp elt [⟨tg, iter, ifs, 0⟩] scope pos) 0 (.ref it) .none Y.env)) [] s' := fun {s' H' ys' ps' m'} hm {n' s₀'} hn e' I' w' => by
      have pin' : ∀ b ∈ fp, ∀ o, s7.heap.get? b = some o → s'.heap.get? b = some o ∧ H' b = none := fun b hb o e =>
        let z := I'.pin (b, o) (List.mem_append_right _ (List.mem_append_right _ (mem_pinsAt hb e)))
        ⟨z.1, z.2.1⟩
      have hl : (wipe σ vs).length = σ8.length := by rw [← hw8, wipe_length]
      have I2 : Inv Y ((ga, go) :: ps') σ8 H' s' := I'.pins_of fun q hq => I'.pin q (List.mem_append_right _ (List.mem_append_left _ hq))
      refine ih m' hm n' (i + 1) ys' H' ps' s₀' s' hn w' e' (I2.weak hl fun j v e => ?_) (T.keep _ _ _ st7 fun b hb o e => (pin' b hb o e).1) fun b hb => ?_
      · rw [← hw8] at e
        exact (wipe_some e).1
      · obtain ⟨o, e, _⟩ := T.obj _ _ st7 b hb
        exact (pin' b hb o e).2
    cases b with
    | false =>
      simp only [Bool.false_eq_true, if_false] at q9 ⊢
      obtain ⟨m', hm, w'⟩ := hNx _ _ q9
      exact seg_again rfl (fin hm (by omega) ex0 I9 w')
    | true =>
      simp only [if_true] at q9 ⊢
      have hy : ∀ v, yieldOut Y.env v = yieldValue v := fun v => by simp only [yieldOut, hco, Bool.false_eq_true, if_false]
      simp only [hy]
      rw [Sem.bind_eq_wrap', Sem.bind_eq_wrap', Sem.wrap_wrap, Sem.wrap_wrap]
      refine seg_wrap ?_
      rw [hA]
      refine thnF (fx (hpe.run _ s9 σ8 H9 _ I9 q9)) fun z s10 ⟨yv, H10, I10, r10, yl, cont⟩ => ?_
      obtain ⟨n, rfl⟩ : ∃ k, n = k + 1 := ⟨n - 1, by omega⟩
      refine seg_at (seg_yield rfl rfl rfl ⟨ys, yv, H10, ps, pinsAt fp s7.heap, σ8, r10, ex0, fun q hq => hfl _ (of_pinsAt hq).1, I10, yl, fun s' ps' e' I' go' => ?_⟩)
      obtain ⟨m', hm, w'⟩ := hNx _ _ (cont go')
      exact seg_again rfl (fin hm (by omega) e' I' w')
theorem gen_begin {Y : Cx} {A : Around} {elt tg iter : Expr} {ifs : List Expr} {scope : Scope} {pos : Pos} {it : Addr} {R : GenEnd} {Yp : Protocol} {n : Nat} {s₀ s : Shared} {cenv : Env}
    (self : ∀ (B : Around) (Q : Value → Shared → Prop) (E : Value → Shared → Prop), Q (.ref it) s → wpAny (model Y.prog Y.w) B (pyIter (.ref it)) Q E s)
    (loop : Seg (model Y.prog Y.w) A R Yp n s₀ (.compLoop (.GeneratorExp elt [⟨tg, iter, ifs, 0⟩] scope pos) 0 (.ref it) .none cenv) ((model Y.prog Y.w).den (.compLoop (.GeneratorExp elt [⟨tg, iter, ifs, 0⟩] scope pos) 0 (.ref it) .none cenv)) [] s) :
    Seg (model Y.prog Y.w) A R Yp n s₀ (.compStart (.GeneratorExp elt [⟨tg, iter, ifs, 0⟩] scope pos) 0 (.ref it) .none cenv) ((model Y.prog Y.w).den (.compStart (.GeneratorExp elt [⟨tg, iter, ifs, 0⟩] scope pos) 0 (.ref it) .none cenv)) [] s := by
  show Seg _ A _ _ _ s₀ _ ((compStart (.GeneratorExp elt [⟨tg, iter, ifs, 0⟩] scope pos) 0 (.ref it) .none cenv).onRaise (leaving cenv)) [] s
  unfold compStart
  rw [Sem.onRaise_eq_wrap]
  show Seg _ A _ _ _ s₀ _ ((ask >>= _).wrap _ _ _ _) [] s
  refine seg_bind_wrap (wpAny_askSetting ?_)
  split
  · exact seg_again rfl loop
  · first
      | exact seg_bind_wrap (wpAny_rule (seg_bind_wrap (wpAny_standAt (seg_bind_wrap (self _ _ _ (seg_again rfl loop))))))
      | (refine seg_bind_wrap (wpAny_rule ?_); show Seg _ A _ _ _ s₀ _ ((standAt iter.pos >>= _).wrap _ _ _ _) [] s; exact seg_bind_wrap (wpAny_standAt (seg_bind_wrap (self _ _ _ (seg_again rfl loop)))))
end
section
def GAt (X Y : Cx) (ga : Addr) (gi : Nat) (go : Obj) (p : GPar) (n : Nat) (s : Shared) : Prop := s.heap.IsGen ga gi ∧ s.heap.NoLimit ∧ ∃ gs, s.gens[gi]? = some gs ∧
  gs.Goes (model X.prog X.w) X.A.in1.in1.in1.in1 (fun n s₀ r s₁ => r = .ok .next ∧ (fun _ _ s => RG Y ga go p s) n s₀ s₁) (YG Y ga go p) n (.send .none) (s.setGen gi .running)
theorem inv_gens {Y : Cx} {pins : List (Addr × Obj)} {σ : L2.St} {H : Hp} {s : Shared} {G : Array GenState} (I : Inv Y pins σ H s) (hG : AllBare G) : Inv Y pins σ H { s with gens := G } :=
  I.call (g' := G) (t' := s.toks) (d' := s.drawn) (ch := []) Un.refl I.hok hG (fun b z => by simp at z)
theorem inv_setGen {Y : Cx} {pins : List (Addr × Obj)} {σ : L2.St} {H : Hp} {s : Shared} {gi : Nat} {x : GenState} (I : Inv Y pins σ H s) (hx : x.bare = true) : Inv Y pins σ H (s.setGen gi x) :=
  inv_gens I (allBare_setGen I.bare hx)
theorem gat_next {X Y : Cx} {ga : Addr} {gi : Nat} {go : Obj} {p : GPar} {n : Nat} {s : Shared} {E : Value → Shared → Prop} (hh : X.A.handled = none) (hroom : X.A.depth < recursionLimit) (hpr : Y.prog = X.prog) (hw : Y.w = X.w)
    (hgo : ∀ h : Heap, h.get? ga = some go → h.IsGen ga gi) (h : GAt X Y ga gi go p n s) :
    wpAny (model X.prog X.w) X.A.in1.in1.in1 (pyNext (.ref ga)) (fun r s' =>
      (∃ v, r = some v ∧ ∃ (ys : List V) (y : V) (H' : Hp) (ps pf : List (Addr × Obj)) (σ' : L2.St), RelV y v ∧ p.ext ys ps ∧ (∀ q ∈ pf, q.1 < Y.env.locals) ∧ Inv Y (((ga, go) :: ps) ++ pf) σ' H' s' ∧ p.yld ys y H' ∧
        ∀ s'' ps', p.ext (ys ++ [y]) ps' → Inv Y (((ga, go) :: ps') ++ pf) σ' H' s'' → s''.gens = s'.gens → p.go ys y H' → ∃ m, n = m + 1 ∧ GAt X Y ga gi go p m s'') ∨
      (r = none ∧ RG Y ga go p s')) E s := by
  obtain ⟨hg, hl, gs, hgs, hgoes⟩ := h
  have hgl : gi < s.gens.size := (Array.getElem?_eq_some_iff.mp hgs).1
  refine wpAny_mono (GenW.wpAny_gsz (n := gi + 1) hgl (wpAny_pyNext_genexpQ (A := X.A.in1.in1.in1) (P := fun _ _ s => RG Y ga go p s) (Q := fun r s' => gi + 1 ≤ s'.gens.size → _) hh hl hroom hg hgs hgoes (fun v s₁ gs' hb hv => ?_) (fun s₁ hp h' hk => ?_))) (fun r s' z => z) (fun _ _ z => z)
  · intro hsz
    obtain ⟨ys, y, H', ps, pf, σ', rv, ex, pl, I, yl, kap⟩ := hv
    refine .inl ⟨v, rfl, ys, y, H', ps, pf, σ', rv, ex, pl, inv_setGen I hb, yl, fun s'' ps' ex' I' eg go' => ?_⟩
    have hsz1 : gi < s₁.gens.size := by
      have q : (s₁.setGen gi gs').gens.size = s₁.gens.size := GenW.setGen_size _ _ _
      have hsz' : gi + 1 ≤ (s₁.setGen gi gs').gens.size := hsz
      omega
    have k := kap (s''.setGen gi .running) ps' ex' (inv_setGen I' rfl) go'
    cases n with
    | zero => exact k.elim
    | succ m =>
      refine ⟨m, rfl, hgo _ (I'.pin (ga, go) (List.mem_append_right _ (List.mem_append_left _ List.mem_cons_self))).1, I'.nolimit, gs', ?_, k⟩
      rw [eg]
      exact setGen_at hsz1
  · intro _
    obtain ⟨ys, H', ps, σ', ex, I, fi⟩ := hp
    refine .inr ⟨rfl, ys, H', ps, σ', ex, ?_, fi⟩
    exact I.call' (s' := { s₁.setGen gi .finished with heap := h' }) (ch := []) rfl (Un.kept hk) (I.hok.kept hk) (allBare_setGen I.bare rfl) (fun b z => by simp at z)
theorem entry_all2 : entryFor table "all" = some Builtin.«all» := PySem.F.entry_all
/-- all(g): the consumer's loop -/
theorem all_loop {X Y : Cx} {ga : Addr} {gi : Nat} {go : Obj} {p : GPar} {R : Result → Shared → Prop} (hh : X.A.handled = none) (hroom : X.A.depth < recursionLimit) (hpr : Y.prog = X.prog) (hw : Y.w = X.w) (hgo : ∀ h : Heap, h.get? ga = some go → h.IsGen ga gi)
    (hext : ∀ ys, p.ext ys []) (hext2 : ∀ ys ps, p.ext ys ps → ps = []) (hy : ∀ ys y H, p.yld ys y H → ∃ b, y = .bl b ∧ (b = true → p.go ys y H))
    (hno : ∀ ys H' pf σ' s', p.yld ys (.bl false) H' → Inv Y ((ga, go) :: pf) σ' H' s' → R (.ok (.ret (.bool false))) s') (hyes : ∀ ys H' σ' s', p.fin ys H' → Inv Y [(ga, go)] σ' H' s' → R (.ok (.ret (.bool true))) s') :
    ∀ (n : Nat) (s : Shared), GAt X Y ga gi go p n s → codeAny (model X.prog X.w) X.A (.builtin "all.loop" ⟨[.ref ga], []⟩) R s := by
  intro n
  induction n with
  | zero =>
    intro s h
    refine codeAny_builtin PySem.F.entry_all_loop ?_
    rw [Around.under_plainId PySem.F.plain_all_loop _]
    show wpAny _ X.A.in1 (pyNext (.ref ga) >>= _) _ _ s
    refine wpAny_bind (wpAny_of_in1 (wpAny_of_in1 (wpAny_mono (gat_next hh hroom hpr hw hgo h) (fun r s' z => ?_) fun _ _ e => e)))
    rcases z with ⟨v, rfl, ys, y, H', ps, pf, σ', rv, ex, _, I, yl, k⟩ | ⟨rfl, ys, H', ps, σ', ex, I, fi⟩
    · obtain ⟨b, rfl, gob⟩ := hy _ _ _ yl
      obtain rfl : v = Value.bool b := rv
      obtain rfl := hext2 _ _ ex
      refine wpAny_bind (wpAny_holding (wpAny_truthy_bool ?_))
      refine wpAny_bind (wpAny_letGo ?_)
      cases b with
      | true =>
        obtain ⟨m, hm, _⟩ := k s' [] (hext _) I rfl (gob rfl)
        exact absurd hm (by omega)
      | false =>
        simp only [Bool.false_eq_true, if_false]
        exact wpAny_bind (wpAny_rule (wpAny_pure (hno _ _ _ _ _ yl I)))
    · obtain rfl := hext2 _ _ ex
      exact wpAny_bind (wpAny_rule (wpAny_pure (hyes _ _ _ _ fi I)))
  | succ n ih =>
    intro s h
    refine codeAny_builtin PySem.F.entry_all_loop ?_
    rw [Around.under_plainId PySem.F.plain_all_loop _]
    show wpAny _ X.A.in1 (pyNext (.ref ga) >>= _) _ _ s
    refine wpAny_bind (wpAny_of_in1 (wpAny_of_in1 (wpAny_mono (gat_next hh hroom hpr hw hgo h) (fun r s' z => ?_) fun _ _ e => e)))
    rcases z with ⟨v, rfl, ys, y, H', ps, pf, σ', rv, ex, _, I, yl, k⟩ | ⟨rfl, ys, H', ps, σ', ex, I, fi⟩
    · obtain ⟨b, rfl, gob⟩ := hy _ _ _ yl
      obtain rfl : v = Value.bool b := rv
      obtain rfl := hext2 _ _ ex
      refine wpAny_bind (wpAny_holding (wpAny_truthy_bool ?_))
      refine wpAny_bind (wpAny_letGo ?_)
      cases b with
      | true =>
        obtain ⟨m, hm, g2⟩ := k s' [] (hext _) I rfl (gob rfl)
        obtain rfl : m = n := by omega
        simp only [if_true]
        exact wpAny_pure ⟨plainId_quiet PySem.F.plain_all_loop _, ih _ g2⟩
      | false =>
        simp only [Bool.false_eq_true, if_false]
        exact wpAny_bind (wpAny_rule (wpAny_pure (hno _ _ _ _ _ yl I)))
    · obtain rfl := hext2 _ _ ex
      exact wpAny_bind (wpAny_rule (wpAny_pure (hyes _ _ _ _ fi I)))
end
section
variable {X : Cx} {pins : List (Addr × Obj)} {σ : L2.St} {H : Hp} {s : Shared}
theorem gen_mk {c P : Addr} {elt tg iter : Expr} {ifs : List Expr} {scope : Scope} {own : List (Str × Nat)} {gpos : Pos} {wi : TI} {g : TG} {tt : TT} {te : TE} {k : Nat} {R : It → Hp → Prop} {Q' : Value → Shared → Prop}
    (hr : Room (k + 1) X.A) (hc : X.calm = true) (hN : X.N.Nodup) (TB : GxR.TabB X.base X.mg c P) (hcode : X.env.code = .ref c) (ok : GenOk X.N X.env.scope scope own) (hi : PI X tg iter wi)
    (hg : ∀ (s : Shared) (H : Hp) (C : Addr) (code : Value) (fp : List Addr), Room k (Cx.gblk X s H scope C code fp).A → PG (Cx.gblk X s H scope C code fp) tg g)
    (ht : ∀ (s : Shared) (H : Hp) (C : Addr) (code : Value) (fp : List Addr), Room k (Cx.gblk X s H scope C code fp).A → PTs (Cx.gblk X s H scope C code fp) ifs tt)
    (he : ∀ (s : Shared) (H : Hp) (C : Addr) (code : Value) (fp : List Addr), Room k (Cx.gblk X s H scope C code fp).A → PE (Cx.gblk X s H scope C code fp) elt te)
    (hs : ∀ x, genFold iter X.env x = pure x) (I : Inv X pins σ H s) (h : wi σ H fun J H1 => GxR.TabG H1 P ∧ R J H1)
    (fin : ∀ (J : It) (H1 H4 : Hp) (Y : Cx) (s5 : Shared) (pf : List (Addr × Obj)) (ga : Addr) (gi : Nat) (go : Obj), R J H1 → GxR.Tabbed P H1 H4 → Y.prog = X.prog → Y.w = X.w → (∀ h : Heap, h.get? ga = some go → h.IsGen ga gi) → s5.heap.objs.size = ga + 1 → Y.s_0.heap.objs.size ≤ Y.env.locals → Y.pn = [] →
      Inv Y ([(ga, go)] ++ pf) (wipe σ (own.map (·.2))) H4 s5 → (∀ {pins' σ' H' s'}, Inv Y pins' σ' H' s' → Inv X pins σ H' s') →
      (∀ (p : GPar) (W : List V → Nat → Nat → Hp → Prop) (m : Nat), (∀ ys ps, p.ext ys ps → ∀ q ∈ ps, s5.heap.objs.size ≤ q.1) →
        (∀ ys i m H, W ys i m H → (J.stop i H ∧ p.fin ys H) ∨ (J.go i H ∧ ∃ Nx : List V → Hp → Prop, (∀ ys' H', Nx ys' H' → ∃ m', m' < m ∧ W ys' (i + 1) m' H') ∧ ∀ x H', J.yld i H x H' → g x (wipe σ (own.map (·.2))) H' fun σ2 H2 => wipe σ2 (own.map (·.2)) = wipe σ (own.map (·.2)) ∧ tt σ2 H2 fun b H3 =>
          if b = true then te σ2 H3 fun y H4 => p.yld ys y H4 ∧ (p.go ys y H4 → Nx (ys ++ [y]) H4) else Nx ys H3)) →
        W [] 0 m H4 → ∀ s' ps, p.ext [] ps → Inv Y (((ga, go) :: ps) ++ pf) (wipe σ (own.map (·.2))) H4 s' → s'.gens = s5.gens → GAt X Y ga gi go p (m + 1) s') →
      Q' (.ref ga) s5) :
    wpAny (model X.prog X.w) X.A (eval (.GeneratorExp elt [⟨tg, iter, ifs, 0⟩] scope gpos) X.env) Q' X.xe s := by
  have hfree : ∀ y ∈ scope.names, y.2 = .free → ∃ c, X.env.cells.lookup y.1 = some c := fun y hy e => by
    rcases ok.blk.free y hy e with k | k
    · exact I.ok.has _ (.inl k)
    · exact I.ok.has _ (.inr k)
  refine wpAny_GeneratorExp_make ok.co (closure_ok hfree) ok.cel ok.dot ok.blk.kind (by have := hr.dp; omega) (thn (hi.run pins s σ H _ I h) fun xv s1 hx => thn hx fun itv s2 h2 => ?_) hs
  obtain ⟨it, fp, tn, J, H2, rfl, I2, T, st2, f2, ⟨ps, hP, trip⟩, r⟩ := h2
  refine ⟨I2.nolimit, ?_⟩
  have hPs : s2.heap.get? P = some { cls := .none, data := .fields ps } := I2.hok P _ hP
  have cd : PySem.W.CodeHd s2.heap c P := TB.code.keeps fun b u e => I2.bk b u e
  have nfP : ∀ b ∈ fp, b ≠ P := fun b hb z => by
    have := (f2 b hb).1
    rw [z, hP] at this
    cases this
  have go2 : ∀ (code : Value) (h3 : Heap) (tk : Nat) (more : Array Value), Heap.ExtBut P s2.heap h3 → h3.get? P = some { cls := .none, data := .fields (ps ++ more) } → TriplesOk (ps ++ more).toList →
      wpAny (model X.prog X.w) X.A (builtinsFor X.env.globals X.env.builtins) (fun bi s₄ => ∀ h', h'.Ns s₄.heap.objs.size (fun y => if y = ".0" then some (.ref it) else none) → Heap.SameBut s₄.heap.objs.size (s₄.heap.push { cls := .type "frame", data := .dict #[] }) h' →
          Q' (.ref h'.objs.size) { s₄ with
            gens := s₄.gens.push (.fresh (.compStart (.GeneratorExp elt [⟨tg, iter, ifs, 0⟩] scope gpos) 0 (.ref it) .none (genEnv scope (cloFrom X.env.cells scope.names []) s₄.heap.objs.size code bi X.env))),
            toks := s₄.toks + 1 + 1 + 1,
            heap := h'.push { cls := .type "generator", data := .fields #[.int s₄.gens.size 0, .str "<genexpr>" (s₄.toks + 1), .str (X.env.qual ++ "<genexpr>") (s₄.toks + 1 + 1)] } }) X.xe { s2 with heap := h3, toks := tk } := by
    intro code h3 tk more hx hP3 trip3
    obtain ⟨bm, ob, e1, e2, e3, e4, e5, e6, e7, e8⟩ := TB.bm
    have I4 : Inv X pins σ (upd H2 P (.tbl (ps ++ more))) { s2 with heap := h3, toks := tk } := GxR.inv_tab (g' := s2.gens) (d' := s2.drawn) (t' := tk) I2 hP (fun b u hb e => hx b u hb e) hP3 I2.bare
    have tb4 : GxR.Tabbed P H2 (upd H2 P (.tbl (ps ++ more))) := ⟨⟨_, upd_same, trip3⟩, fun b hb => upd_ne hb⟩
    refine wpAny_builtinsFor (m := X.mg) (by rw [I2.ok.glob]; exact (I2.mod.glob.keeps I2.bk).extBut hx TB.gP) e1 e2 (hx _ _ e4 (I2.bk _ _ e5)) e6 e7 e8 ?_
    intro h' hn' hs'
    have f4 : ∀ b ∈ fp, FpOk X pins (upd H2 P (.tbl (ps ++ more))) b ∧ b < h3.objs.size := fun b hb => by
      obtain ⟨o, e, _⟩ := T.obj _ _ st2 b hb
      exact ⟨⟨(upd_ne (nfP b hb)).trans (f2 b hb).1, (f2 b hb).2⟩, Heap.lt_size (hx b o (nfP b hb) e)⟩
    have st4 : tn 0 h3 := T.keep _ _ _ st2 fun b hb o e => hx b o (nfP b hb) e
    generalize upd H2 P (.tbl (ps ++ more)) = H4 at I4 tb4 f4
    have szh : h'.objs.size = h3.objs.size + 1 := by rw [hs'.1]; exact Heap.size_push ..
    have main : ∀ (go : Obj) (G : Array GenState) (tk5 gi : Nat), (∀ h : Heap, h.get? h'.objs.size = some go → h.IsGen h'.objs.size gi) → (h'.push go).get? h'.objs.size = some go → (∀ v, go.data ≠ .cell v) → AllBare G →
        G[gi]? = some (.fresh (.compStart (.GeneratorExp elt [⟨tg, iter, ifs, 0⟩] scope gpos) 0 (.ref it) .none (genEnv scope (cloFrom X.env.cells scope.names []) h3.objs.size code builtinsNs X.env))) →
        Q' (.ref h'.objs.size) { s2 with gens := G, toks := tk5, heap := h'.push go } := by
      intro go G tk5 gi hgo hgo1 hgd hG hgi
      have Is := gen_start (s := { s2 with heap := h3, toks := tk }) (code := code) (tk := tk5) I4 ok hN f4 hn' hs' hG hgo1 hgd
      have hY := hg { s2 with heap := h3, toks := tk } H4 h3.objs.size code fp (Room.gen hr _)
      have tY := ht { s2 with heap := h3, toks := tk } H4 h3.objs.size code fp (Room.gen hr _)
      have eY := he { s2 with heap := h3, toks := tk } H4 h3.objs.size code fp (Room.gen hr _)
      have kp5 : ∀ b o, h3.get? b = some o → (h'.push go).get? b = some o := fun b o e => Heap.get?_push_of_some _ (hs'.extBut b o (Nat.ne_of_lt (Heap.lt_size e)) (Heap.get?_push_of_some _ e))
      have st5 : tn 0 (h'.push go) := T.keep _ _ _ st4 fun b hb o e => kp5 b o e
      have sz5 : (h'.push go).objs.size = h'.objs.size + 1 := Heap.size_push ..
      have gab : ∀ b ∈ fp, h'.objs.size ≠ b := fun b hb z => by
        have l := (f4 b hb).2
        have z : h'.objs.size = b := z
        have l2 : h3.objs.size < h'.objs.size := by rw [szh]; exact Nat.lt_succ_self _
        rw [z] at l2
        exact Nat.lt_irrefl _ (Nat.lt_trans l l2)
      have stat : ∀ b ∈ fp, FpOk (Cx.gblk X { s2 with heap := h3, toks := tk } H4 scope h3.objs.size code fp) [(h'.objs.size, go)] H4 b := fun b hb =>
        ⟨(f4 b hb).1.1, (Is.ok.exf b hb).1, Is.ok.exfs b hb, .inl hb, fun x c e => (Is.ok.exf b hb).2 x c e, fun q hq => by
          have hq : q = (h'.objs.size, go) := by simpa using hq
          rw [hq]
          exact gab b hb⟩
      have Ip := Is.pinned stat (T.obj _ _ st5)
      refine fin J H2 H4 (Cx.gblk X { s2 with heap := h3, toks := tk } H4 scope h3.objs.size code fp) _ (pinsAt fp (h'.push go)) h'.objs.size gi go r tb4 rfl rfl hgo sz5 (Nat.le_refl _) rfl Ip (fun {pins' σ' H' s'} I' => ?_) fun p W m hext step w0 s' ps' ex' I' eg => ?_
      · exact I4.call' (ch := fp) I'.os I'.base I'.hok I'.bare fun b hb => ⟨(f4 b hb).1.2.2.2.1, (f4 b hb).1.2.1, (f4 b hb).1.2.2.2.2.1, (f4 b hb).1.2.2.2.2.2⟩
      · have I2' : Inv (Cx.gblk X { s2 with heap := h3, toks := tk } H4 scope h3.objs.size code fp) ((h'.objs.size, go) :: ps') (wipe σ (own.map (·.2))) H4 s' := I'.pins_of fun q hq => I'.pin q (List.mem_append_right _ (List.mem_append_left _ hq))
        have pin' : ∀ b ∈ fp, ∀ o, (h'.push go).get? b = some o → s'.heap.get? b = some o := fun b hb o e => (I'.pin (b, o) (List.mem_append_right _ (List.mem_append_right _ (mem_pinsAt hb e)))).1
        have stn : tn 0 s'.heap := T.keep _ _ _ st5 fun b hb o e => pin' b hb o e
        have eg : s'.gens = G := eg
        rw [← eg] at hgi
        refine ⟨hgo _ (I'.pin (h'.objs.size, go) (List.mem_append_right _ (List.mem_append_left _ List.mem_cons_self))).1, I'.nolimit, _, hgi, rfl, ?_⟩
        refine gen_begin (Y := X) (fun B Q E q => T.self B 0 _ _ _ stn q) ?_
        exact gen_loop (Y := Cx.gblk X { s2 with heap := h3, toks := tk } H4 scope h3.objs.size code fp) (A := X.A.in1.in1.in1.in1) (σ := σ) (vs := own.map (·.2)) hc rfl T hY tY eY rfl over_gen (fun b hb => hb) gab
          (fun ys ps e q hq b hb z => by
            have l1 : (h'.push go).objs.size ≤ q.1 := hext ys ps e q hq
            have l2 := (f4 b hb).2
            rw [sz5, szh, z] at l1
            exact Nat.lt_irrefl _ (Nat.lt_of_lt_of_le l2 (Nat.le_of_succ_le (Nat.le_of_succ_le l1)))) ok.co (fun b hb => (f4 b hb).2) step m (m + 1) 0 [] H4 ps' _ _ (Nat.lt_succ_self m) w0 ex' (inv_setGen I2' rfl) stn fun b hb => (f4 b hb).1.1
    exact main _ _ _ _ (fun h e => ⟨_, _, _, e, rfl, rfl, rfl⟩) (Heap.get?_push_size _ rfl) (fun v z => by cases z) (AllBare.push I2.bare rfl) (Array.getElem?_push_size ..)
  cases hf : codeAmong gpos ps.toList with
  | none =>
    refine wpAny_genexprCodeX hcode (cd.code hPs trip) (cd.tab hPs) hf fun c' h' tk hx hge hlt hco' _ htab' _ => ?_
    obtain ⟨o1, vs, f1, tf, fl, tg, inF, tx, tt, op, _, _, _, _, _, _, _, _, _, htr, _⟩ := hco'
    exact go2 _ h' tk _ hx htab'.2 htr
  | some cv =>
    refine wpAny_genexprCode_hit hcode (cd.code hPs trip) hf ?_
    exact go2 cv s2.heap s2.toks #[] (Heap.ExtBut.refl _ _) (by rw [Array.append_empty]; exact hPs) (by rw [Array.append_empty]; exact trip)
/-- all(elt for tg in iter if ..) -/
def tAllE (P : Addr) (wi : TI) (g : TG) (tt : TT) (te : TE) (vs : List Nat) : TE := fun σ H Q => wi σ H fun J H1 => GxR.TabG H1 P ∧ ∀ H2, GxR.Tabbed P H1 H2 → ∃ W : Nat → Nat → Hp → Prop, (∃ m, W 0 m H2) ∧ ∀ i m H, W i m H →
  (J.stop i H ∧ Q (.bl true) H) ∨ (J.go i H ∧ ∃ Nx : Hp → Prop, (∀ H', Nx H' → ∃ m', m' < m ∧ W (i + 1) m' H') ∧ ∀ x H', J.yld i H x H' → g x (wipe σ vs) H' fun σ2 H3 => wipe σ2 vs = wipe σ vs ∧ tt σ2 H3 fun b H4 =>
    if b = true then te σ2 H4 fun y H5 => (∃ c : Bool, y = .bl c ∧ (c = false → Q (.bl false) H5)) ∧ (y = .bl true → Nx H5) else Nx H4)
theorem pe_allE {c P : Addr} {elt tg iter : Expr} {ifs : List Expr} {scope : Scope} {own : List (Str × Nat)} {p pos gpos : Pos} {wi : TI} {g : TG} {tt : TT} {te : TE} {k : Nat}
    (hr : Room (k + 1) X.A) (hgl : Gl X "all") (hm : X.mg "all" = none) (hb : bootBuiltins "all" = some (.builtin "all")) (hc : X.calm = true) (hN : X.N.Nodup) (TB : GxR.TabB X.base X.mg c P) (hcode : X.env.code = .ref c) (ok : GenOk X.N X.env.scope scope own) (hi : PI X tg iter wi)
    (hg : ∀ (s : Shared) (H : Hp) (C : Addr) (code : Value) (fp : List Addr), Room k (Cx.gblk X s H scope C code fp).A → PG (Cx.gblk X s H scope C code fp) tg g)
    (ht : ∀ (s : Shared) (H : Hp) (C : Addr) (code : Value) (fp : List Addr), Room k (Cx.gblk X s H scope C code fp).A → PTs (Cx.gblk X s H scope C code fp) ifs tt)
    (he : ∀ (s : Shared) (H : Hp) (C : Addr) (code : Value) (fp : List Addr), Room k (Cx.gblk X s H scope C code fp).A → PE (Cx.gblk X s H scope C code fp) elt te)
    (hs : ∀ x, genFold iter X.env x = pure x := by intro _; rfl)
    (hst : starEach [.GeneratorExp elt [⟨tg, iter, ifs, 0⟩] scope gpos] X.env = (false, eval (.GeneratorExp elt [⟨tg, iter, ifs, 0⟩] scope gpos) X.env) :: starEach [] X.env := by rfl) :
    PE X (.Call (.Name "all" p) [.GeneratorExp elt [⟨tg, iter, ifs, 0⟩] scope gpos] [] pos) (tAllE P wi g tt te (own.map (·.2))) := by
  constructor
  intro pins s σ H Q I h
  refine wpAny_Call_Name_kw (ld_blt I hgl hm hb (PyProof.Rows.callWith_builtin1 ?_ hst (by rfl)))
  rw [hst]
  show wpAny _ _ (spliced ((false, eval (.GeneratorExp elt [⟨tg, iter, ifs, 0⟩] scope gpos) X.env) :: backTo pos (starEach [] X.env))) _ _ s
  refine Calls.spliced_cons (gen_mk hr hc hN TB hcode ok hi hg ht he hs I h fun J H1 H4 Y s5 pf ga gi go r tb hpr hw hgo sz sl hpn I5 back goes => ?_)
  refine Calls.spliced_nil ?_
  obtain ⟨W, ⟨m, w0⟩, step⟩ := r H4 tb
  have hgen : s5.heap.IsGen ga gi := hgo _ (I5.pin (ga, go) (List.mem_append_right _ (List.mem_append_left _ List.mem_cons_self))).1
  have g0 := goes ⟨fun _ ps => ps = [], fun _ y H' => ∃ b : Bool, y = .bl b ∧ (b = false → Q (.bl false) H'), fun _ y _ => y = .bl true, fun _ H' => Q (.bl true) H'⟩ (fun _ i m H => W i m H) m (fun ys ps e q hq => by
      have e : ps = [] := e
      rw [e] at hq
      cases hq) (fun ys i m H w => (step i m H w).imp id fun ⟨a, Nx, hNx, b⟩ => ⟨a, fun _ H => Nx H, fun _ H' z => hNx H' z, fun x H' y => b x H' y⟩) w0 s5 [] rfl I5 rfl
  refine call_function_tree PySem.F.kind_all PySem.F.plain_all PySem.F.entry_all (PySem.F.args_all1 _) ?_
  unfold Builtin.«all»
  refine wpAny_bind (m := oneArg "all" _) (wpAny_pure ?_)
  refine wpAny_bind (wpAny_pyIter_gen hgen ?_)
  refine wpAny_pure ⟨plainId_quiet PySem.F.plain_all_loop _, all_loop (X := X) hr.hd (by have := hr.dp; omega) hpr hw hgo (fun _ => rfl) (fun _ _ e => e) (fun ys y H' (z : ∃ b : Bool, y = .bl b ∧ (b = false → Q (.bl false) H')) => ?_) (fun ys H' pf' σ' s' (z : ∃ b : Bool, V.bl false = .bl b ∧ (b = false → Q (.bl false) H')) I' => ?_) (fun ys H' σ' s' q I' => ?_) (m + 1) s5 g0⟩
  · obtain ⟨b, e, q⟩ := z
    exact ⟨b, e, fun z => by rw [e, z]⟩
  · obtain ⟨b, e, q⟩ := z
    cases e
    exact ⟨.bl false, H', back I', rfl, q rfl⟩
  · exact ⟨.bl true, H', back I', rfl, q⟩
end
/-- .. over what is walked as a Walk says -/
theorem ga_it {J : It} {n : Nat} {G : Hp → Prop} {Y : Nat → Hp → V → Hp → Prop} (w : Walk J n G Y) {g : TG} {tt : TT} {te : TE} {vs : List Nat} {σ : L2.St} {H2 : Hp} {Q : VK} (Pv : Nat → Hp → Prop) (h0 : Pv 0 H2) (hG : ∀ i H, i ≤ n → Pv i H → G H)
    (hs : ∀ i x H H', i < n → Pv i H → Y i H x H' → g x (wipe σ vs) H' fun σ2 H3 => wipe σ2 vs = wipe σ vs ∧ tt σ2 H3 fun b H4 => if b = true then te σ2 H4 fun y H5 => (∃ c : Bool, y = .bl c ∧ (c = false → Q (.bl false) H5)) ∧ (y = .bl true → Pv (i + 1) H5) else Pv (i + 1) H4) (hd : ∀ H, Pv n H → Q (.bl true) H) :
    ∃ W : Nat → Nat → Hp → Prop, (∃ m, W 0 m H2) ∧ ∀ i m H, W i m H →
      (J.stop i H ∧ Q (.bl true) H) ∨ (J.go i H ∧ ∃ Nx : Hp → Prop, (∀ H', Nx H' → ∃ m', m' < m ∧ W (i + 1) m' H') ∧ ∀ x H', J.yld i H x H' → g x (wipe σ vs) H' fun σ2 H3 => wipe σ2 vs = wipe σ vs ∧ tt σ2 H3 fun b H4 =>
        if b = true then te σ2 H4 fun y H5 => (∃ c : Bool, y = .bl c ∧ (c = false → Q (.bl false) H5)) ∧ (y = .bl true → Nx H5) else Nx H4) := by
  refine ⟨fun i m H => m = n - i ∧ i ≤ n ∧ Pv i H, ⟨n, by simp, Nat.zero_le _, h0⟩, ?_⟩
  rintro i m H ⟨rfl, hi, p⟩
  have q := hG i H hi p
  by_cases hlt : i < n
  · refine .inr ⟨w.goes i H hlt q, Pv (i + 1), fun H' p' => ⟨n - (i + 1), by omega, rfl, hlt, p'⟩, fun x H' y => hs i x H H' hlt p (w.yields i H x H' hlt q y)⟩
  · have e : i = n := by omega
    subst e
    exact .inl ⟨w.stops H q, hd H p⟩
section
/-- what stands beside a list that is filled from the generator -/
structure Beside (Y : Cx) (S : Addr) : Prop where
  s0 : Y.s_0.heap.objs.size ≤ S
  lt : Y.env.locals < S
  cell : ∀ x c, Y.env.cells.lookup x = some c → c ≠ S
  fs : S ∉ Y.fs
  pn : Y.pn = []
def LExt (S : Addr) : List V → List (Addr × Obj) → Prop := fun ys ps => ∃ acc c, ps = [(S, lstObj acc c)] ∧ Vals ys acc.toList ∧ ys.length ≤ sizeLine
theorem inv_list {Y : Cx} {S ga : Addr} {go : Obj} {acc : Array Value} {c : Nat} {pf : List (Addr × Obj)} {σ : L2.St} {H : Hp} {s : Shared} {v : Value} (B : Beside Y S) (hga : ga ≠ S) (hpf : ∀ q ∈ pf, q.1 < Y.env.locals) (I : Inv Y (((ga, go) :: [(S, lstObj acc c)]) ++ pf) σ H s) :
    s.heap.get? S = some (lstObj acc c) ∧ ∃ c', Inv Y (((ga, go) :: [(S, lstObj (acc.push v) c')]) ++ pf) σ H { s with heap := s.heap.update S (Obj.mapSeq (·.push v)) } := by
  obtain ⟨eS, nS, nL, nf, _⟩ := I.pin (S, lstObj acc c) (List.mem_append_right _ (List.mem_append_left _ (List.mem_cons_of_mem _ List.mem_cons_self)))
  refine ⟨eS, ?_⟩
  have I0 : Inv Y ((ga, go) :: pf) σ H s := I.pins_of fun q hq => I.pin q (List.mem_append_right _ (by
    rcases List.mem_cons.mp hq with z | z
    · rw [z]; exact List.mem_append_left _ List.mem_cons_self
    · exact List.mem_append_right _ z))
  have kp : ∀ b o, b ≠ S → s.heap.get? b = some o → (s.heap.update S (Obj.mapSeq (·.push v))).get? b = some o := fun b o hb e => (Heap.get?_update_other _ _ (Ne.symm hb)).trans e
  have I1 := I0.turned (t' := s.toks) (it := S) kp nS nL (.inr B.s0) B.cell (fun q hq z => by
    rw [B.pn, List.nil_append] at hq
    rcases List.mem_cons.mp hq with z2 | z2
    · rw [z2] at z; exact hga z
    · exact Nat.lt_irrefl _ (Nat.lt_trans (z ▸ hpf q z2) B.lt))
  have e2 : ∃ c', (s.heap.update S (Obj.mapSeq (·.push v))).get? S = some (lstObj (acc.push v) c') := ⟨_, Heap.get?_update_self _ eS rfl⟩
  obtain ⟨c', e2⟩ := e2
  refine ⟨c', I1.pins_of fun q hq => ?_⟩
  rcases List.mem_append.mp hq with z | z
  · rcases List.mem_cons.mp z with z | z
    · rw [z]
      exact I1.pin (ga, go) (List.mem_append_right _ List.mem_cons_self)
    · have z : q = (S, lstObj (acc.push v) c') := by simpa using z
      rw [z]
      exact ⟨e2, nS, nL, nf, fun v q => by cases q⟩
  · exact I1.pin q (List.mem_append_right _ (List.mem_cons_of_mem _ z))
theorem ext_loopG {X Y : Cx} {ga S : Addr} {gi : Nat} {go : Obj} {p : GPar} {res : Value} {R : Result → Shared → Prop} (hh : X.A.handled = none) (hroom : X.A.depth < recursionLimit) (hpr : Y.prog = X.prog) (hw : Y.w = X.w) (hgo : ∀ h : Heap, h.get? ga = some go → h.IsGen ga gi)
    (B : Beside Y S) (hga : ga ≠ S) (hext : p.ext = LExt S) (hy : ∀ ys y H, p.yld ys y H → ys.length < sizeLine ∧ p.go ys y H)
    (hend : ∀ ys H' acc c σ' s', p.fin ys H' → Vals ys acc.toList → ys.length ≤ sizeLine → s'.heap.get? S = some (lstObj acc c) → (∃ ps, Inv Y ps σ' H' s') → R (.ok (.ret res)) s') :
    ∀ (n : Nat) (s : Shared), GAt X Y ga gi go p n s → codeAny (model X.prog X.w) X.A.in1.in1 (.builtin "list.extend.loop" ⟨[.ref S, .ref ga, res], []⟩) R s := by
  have main : ∀ (n : Nat) (s : Shared) (ih : ∀ m s', n = m + 1 → GAt X Y ga gi go p m s' → codeAny (model X.prog X.w) X.A.in1.in1 (.builtin "list.extend.loop" ⟨[.ref S, .ref ga, res], []⟩) R s'), GAt X Y ga gi go p n s → codeAny (model X.prog X.w) X.A.in1.in1 (.builtin "list.extend.loop" ⟨[.ref S, .ref ga, res], []⟩) R s := by
    intro n s ih h
    refine codeAny_builtin PySem.F.entry_extend_loop ?_
    rw [Around.under_plainId PySem.F.plain_extend_loop _]
    show wpAny _ X.A.in1.in1.in1 (pyNext (.ref ga) >>= _) _ _ s
    refine wpAny_bind (wpAny_mono (gat_next hh hroom hpr hw hgo h) (fun r s' z => ?_) fun _ _ e => e)
    rcases z with ⟨v, rfl, ys, y, H', ps, pf, σ', rv, ex, pl, I, yl, k⟩ | ⟨rfl, ys, H', ps, σ', ex, I, fi⟩
    · have ex2 := ex
      rw [hext] at ex2
      obtain ⟨acc, c, rfl, vs, hl⟩ := ex2
      obtain ⟨lt, gy⟩ := hy _ _ _ yl
      obtain ⟨eS, c', I2⟩ := inv_list (v := v) B hga pl I
      have la : acc.size = ys.length := by
        have := vs.length
        rw [Array.length_toList] at this
        exact this.symm
      obtain ⟨m, hm, g2⟩ := k _ _ (by
        rw [hext]
        exact ⟨acc.push v, c', rfl, by rw [Array.toList_push]; exact vs.append (.cons rv .nil), by rw [List.length_append]; exact lt⟩) I2 rfl gy
      show wpAny _ X.A.in1.in1.in1 (updateSeq S (·.push v) >>= _) _ _ _
      refine wpAny_bind ?_
      exact wpAny_updateSeq eS rfl (wpAny_pure ⟨plainId_quiet PySem.F.plain_extend_loop _, ih m _ hm g2⟩) (by show acc.size ≤ sizeLine; rw [la]; exact hl) (by show (acc.push v).size ≤ sizeLine + 1; rw [Array.size_push, la]; omega)
    · have ex2 := ex
      rw [hext] at ex2
      obtain ⟨acc, c, rfl, vs, hl⟩ := ex2
      exact wpAny_pure (hend ys H' acc c σ' s' fi vs hl (I.pin (S, lstObj acc c) (List.mem_append_right _ (List.mem_cons_of_mem _ List.mem_cons_self))).1 ⟨_, I⟩)
  intro n
  induction n with
  | zero => exact fun s h => main 0 s (fun m s' z => absurd z (by omega)) h
  | succ n ih => exact fun s h => main (n + 1) s (fun m s' z g => ih s' (by have e : m = n := (by omega); rw [← e]; exact g)) h
theorem collect_g {X Y : Cx} {ga : Addr} {gi : Nat} {go : Obj} {pf : List (Addr × Obj)} {σ : L2.St} {H : Hp} {s : Shared} {Q : List Value → Shared → Prop} {E : Value → Shared → Prop} (sl : Y.s_0.heap.objs.size ≤ Y.env.locals) (hpn : Y.pn = []) (hpr : Y.prog = X.prog) (hw : Y.w = X.w)
    (hgo : ∀ h : Heap, h.get? ga = some go → h.IsGen ga gi) (I : Inv Y ([(ga, go)] ++ pf) σ H s)
    (loop : ∀ (S : Addr) (c : Nat) (s' : Shared) (R : Result → Shared → Prop), s.heap.objs.size = S → Beside Y S → ga ≠ S → Inv Y (((ga, go) :: [(S, lstObj #[] c)]) ++ pf) σ H s' → s'.gens = s.gens →
      (∀ acc c s'', s''.heap.get? S = some (lstObj acc c) → Q acc.toList s'' → R (.ok (.ret (.ref S))) s'') → codeAny (model X.prog X.w) X.A.in1.in1 (.builtin "list.extend.loop" ⟨[.ref S, .ref ga, .ref S], []⟩) R s') :
    wpAny (model X.prog X.w) X.A.in1.in1 (collect (.ref ga)) Q E s := by
  have pin0 := I.pin (ga, go) (List.mem_append_right _ (List.mem_append_left _ List.mem_cons_self))
  have hT : ∀ h : Heap, h.get? ga = some go → ({ s with heap := h } : Shared).TypeIs (.ref ga) "generator" := fun h e => (hgo h e).typeIs
  have ltg : ga < s.heap.objs.size := Heap.lt_size pin0.1
  have hSI : s.heap.objs.size ≠ ga := Nat.ne_of_gt ltg
  have kp1 : ∀ b o, s.heap.get? b = some o → (s.heap.push { cls := .type "list", data := .seq ([] : List Value).toArray }).get? b = some o := fun b o e => Heap.get?_push_of_some _ e
  unfold collect
  refine wpAny_bind (wpAny_runValue (codeAny_builtin PySem.F.entry_proto_collect ?_))
  rw [Around.under_plainId PySem.F.plain_proto_collect _]
  show wpAny _ X.A.in1.in1.in1 (newList [] >>= fun l => again (.builtin "list.__iadd__" ⟨[l, .ref ga], []⟩)) _ _ s
  refine wpAny_bind (wpAny_newObj_type ?_)
  refine wpAny_pure ⟨plainId_quiet PySem.F.plain_list_iadd _, codeAny_builtin PySem.F.entry_list_iadd ?_⟩
  rw [Around.under_plainId PySem.F.plain_list_iadd _]
  have hT1 := hT _ (kp1 _ _ pin0.1)
  have hg1 := hgo _ (kp1 _ _ pin0.1)
  show wpAny _ X.A.in1.in1.in1 (Builtin.List.listExtendWith (.ref s.heap.objs.size) (.ref ga) (.ref s.heap.objs.size)) _ _ _
  unfold Builtin.List.listExtendWith
  refine wpAny_bind (wpAny_typeOf hT1 ?_)
  have h1 : Builtin.List.listSameRef (.ref s.heap.objs.size) (.ref ga) = false := by simp [Builtin.List.listSameRef, hSI]
  have h2 : (Value.type "generator" == Value.type "list") = false := by decide
  have h3 : (Value.type "generator" == Value.type "tuple") = false := by decide
  simp only [h1, h2, h3, Bool.or_false, Bool.false_eq_true, if_false]
  refine wpAny_bind (wpAny_pyIter_gen hg1 ?_)
  refine wpAny_bind (wpAny_holding ?_)
  unfold Builtin.List.listLengthHint
  refine wpAny_bind (wpAny_specialOf hT1 PySem.F.gen_no_len ?_)
  show wpAny _ X.A.in1.in1.in1 (specialOf (Value.ref ga) (Str.ofString "__length_hint__") >>= _) _ _ _
  refine wpAny_bind (wpAny_specialOf hT1 PySem.F.gen_no_hint ?_)
  refine wpAny_pure ?_
  show wpAny _ X.A.in1.in1.in1 (rule "list.extend.makes-room" >>= fun _ => Builtin.List.listTouch (.ref s.heap.objs.size) >>= fun _ =>
    again (.builtin "list.extend.loop" ⟨[.ref s.heap.objs.size, .ref ga, .ref s.heap.objs.size], []⟩)) _ _ _
  refine wpAny_bind (wpAny_rule ?_)
  have hS₁ : (s.heap.push { cls := .type "list", data := .seq ([] : List Value).toArray }).get? s.heap.objs.size = some { cls := .type "list", data := .seq ([] : List Value).toArray } := Heap.get?_push_size _ rfl
  refine wpAny_bind ?_
  show wpAny _ X.A.in1.in1.in1 (updateSeq s.heap.objs.size (·.push .none) >>= fun _ => updateSeq s.heap.objs.size (·.pop)) _ _ _
  refine wpAny_bind (wpAny_updateSeq hS₁ rfl ?_)
  have hS₂ := Heap.get?_update_self (Obj.mapSeq (·.push Value.none)) hS₁ rfl
  refine wpAny_updateSeq hS₂ rfl ?_
  have hS₃ := Heap.get?_update_self (Obj.mapSeq (·.pop)) hS₂ rfl
  have oth : ∀ b o, s.heap.get? b = some o →
      (((s.heap.push { cls := .type "list", data := .seq ([] : List Value).toArray }).update s.heap.objs.size (Obj.mapSeq (·.push Value.none))).update s.heap.objs.size (Obj.mapSeq (·.pop))).get? b = some o :=
    fun b o e => (Heap.get?_update_other _ _ (Nat.ne_of_gt (Heap.lt_size e))).trans ((Heap.get?_update_other _ _ (Nat.ne_of_gt (Heap.lt_size e))).trans (kp1 b o e))
  have fs := I.nofs (Nat.le_refl s.heap.objs.size)
  have I2 := I.kept (t' := s.toks) oth
  have B : Beside Y s.heap.objs.size := ⟨Nat.le_trans sl (Nat.le_of_lt I.lt), I.lt, fun x c e z => by
    obtain ⟨v, q⟩ := I.cell x c e
    exact Nat.ne_of_lt q.lt z, fs, hpn⟩
  have hc : ∃ c, (((s.heap.push { cls := .type "list", data := .seq ([] : List Value).toArray }).update s.heap.objs.size (Obj.mapSeq (·.push Value.none))).update s.heap.objs.size (Obj.mapSeq (·.pop))).get? s.heap.objs.size = some (lstObj #[] c) := ⟨_, hS₃⟩
  obtain ⟨c, hc⟩ := hc
  refine wpAny_pure ⟨plainId_quiet PySem.F.plain_extend_loop _, loop _ c _ _ rfl B (Ne.symm hSI) (I2.pins_of fun q hq => ?_) rfl fun acc c' s'' e q => ?_⟩
  · rcases List.mem_append.mp hq with z | z
    · rcases List.mem_cons.mp z with z | z
      · rw [z]
        exact I2.pin (ga, go) (List.mem_append_right _ (List.mem_append_left _ List.mem_cons_self))
      · have z : q = (s.heap.objs.size, lstObj #[] c) := by simpa using z
        rw [z]
        exact ⟨hc, I.hok.fresh (Nat.le_refl _), Nat.ne_of_gt I.lt, fs, fun v q => by cases q⟩
    · exact I2.pin q (List.mem_append_right _ (List.mem_append_right _ z))
  · show wpAny _ X.A.in1.in1 (load s.heap.objs.size >>= _) _ _ s''
    refine wpAny_bind (wpAny_load e ?_)
    exact wpAny_pure q
end
section
open AutoSeq1 (wpAny_loadPart')
theorem code_tuple_new_any {prog : Program} {w : World} {A : Around} {E : Value → Shared → Prop} {s : Shared} {I : Addr} {Q₁ : Value → Shared → Prop} {Z : Shared → Array Value → Prop} (hTI : s.TypeIs (.ref I) "generator")
    (hcol : ∀ {Q' : List Value → Shared → Prop} {E' : Value → Shared → Prop}, (∀ s' acc, Z s' acc → Q' acc.toList s') → wpAny (model prog w) A.in1 (collect (.ref I)) Q' E' s)
    (h : ∀ s' acc, Z s' acc → acc.size ≤ sizeLine ∧ Q₁ (.ref s'.heap.objs.size) { s' with heap := s'.heap.push { cls := .type "tuple", data := .seq acc } }) :
    codeAny (model prog w) A (.call (.builtin "tuple.__new__") ⟨[.type "tuple", .ref I], []⟩) (wants Q₁ E) s := by
  refine codeAny_of_tree ?_
  show wpAny _ A.in1 (do checkBuiltinCall "tuple.__new__" ⟨[.type "tuple", .ref I], []⟩; again (.builtin "tuple.__new__" ⟨[.type "tuple", .ref I], []⟩)) _ _ s
  refine wpAny_bind (wpAny_of_eq (PySem.F.newCall_tuple_1 _) (wpAny_pure ⟨plainId_quiet PySem.F.plain_tuple_new _, codeAny_builtin PySem.F.entry_tuple_new ?_⟩))
  rw [Around.under_plainId PySem.F.plain_tuple_new _]
  have hsub := sub_tuple_self
  have hinit := init_tuple_lookup
  have hmh := madeHere_tuple
  wp_walk using wpAny_typeOf hTI, hcol
  intro s' acc z
  obtain ⟨hsz, q⟩ := h s' acc z
  show wpAny _ _ (Builtin.Tuple.tupleExact acc.toList.toArray >>= fun v => ret v) _ _ _
  unfold Builtin.Tuple.tupleExact
  refine wpAny_bind (wpAny_newObj_type ?_ (by show acc.toList.toArray.size ≤ sizeLine; simp only [Array.toArray_toList]; exact hsz))
  refine wpAny_pure ?_
  have e : acc.toList.toArray = acc := by simp
  rw [e]
  exact q
theorem call_tuple_any {prog : Program} {w : World} {A : Around} {E : Value → Shared → Prop} {s : Shared} {I : Addr} {Q : Value → Shared → Prop} {Z : Shared → Array Value → Prop} (hTI : s.TypeIs (.ref I) "generator")
    (hcol : ∀ {Q' : List Value → Shared → Prop} {E' : Value → Shared → Prop}, (∀ s' acc, Z s' acc → Q' acc.toList s') → wpAny (model prog w) A.in1.in1 (collect (.ref I)) Q' E' s)
    (hQ : ∀ s' acc, Z s' acc → acc.size ≤ sizeLine ∧ Q (.ref s'.heap.objs.size) { s' with heap := s'.heap.push { cls := .type "tuple", data := .seq acc } }) :
    wpAny (model prog w) A (call (.type "tuple") [.ref I]) Q E s := by
  refine callType_codes (Q₁ := fun obj s₁ => s₁.TypeIs obj "tuple" ∧ Q obj s₁) PySem.F.called_tuple (PySem.F.typeCall_tuple_1 _) PySem.F.entry_object_init
    (code_tuple_new_any hTI hcol fun s' acc z => ⟨(hQ s' acc z).1, ⟨_, Heap.get?_push_size _ rfl, rfl⟩, (hQ s' acc z).2⟩) fun obj s₁ h₁ => ?_
  exact ⟨h₁.1, PySem.F.args_object_init_2 obj _, object_init_meets PySem.F.called_tuple.init.lookup PySem.F.called_tuple.made (by decide) prog w A.in1 _ s₁ ⟨h₁.1, rfl, h₁.2⟩⟩
variable {X : Cx}
/-- the list of what comes of a generator: as a collecting call asks -/
def tColE (P : Addr) (wi : TI) (g : TG) (tt : TT) (te : TE) (vs : List Nat) (F : VK → List V → Hp → Prop) : TE := fun σ H Q => wi σ H fun J H1 => GxR.TabG H1 P ∧ ∀ H2, GxR.Tabbed P H1 H2 → ∃ W : List V → Nat → Nat → Hp → Prop, (∃ m, W [] 0 m H2) ∧ ∀ ys i m H, W ys i m H →
  (J.stop i H ∧ F Q ys H) ∨ (J.go i H ∧ ∃ Nx : List V → Hp → Prop, (∀ ys' H', Nx ys' H' → ∃ m', m' < m ∧ W ys' (i + 1) m' H') ∧ ∀ x H', J.yld i H x H' → g x (wipe σ vs) H' fun σ2 H3 => wipe σ2 vs = wipe σ vs ∧ tt σ2 H3 fun b H4 =>
    if b = true then te σ2 H4 fun y H5 => ys.length < sizeLine ∧ (True → Nx (ys ++ [y]) H5) else Nx ys H4)
def FTup : VK → List V → Hp → Prop := fun Q ys H => ∀ p, H p = none → Q (.ref p) (upd H p (.tup ys))
theorem col_gen {pins : List (Addr × Obj)} {σ : L2.St} {c P : Addr} {elt tg iter : Expr} {ifs : List Expr} {scope : Scope} {own : List (Str × Nat)} {gpos : Pos} {wi : TI} {g : TG} {tt : TT} {te : TE} {k : Nat} {F : VK → List V → Hp → Prop} {Q : VK} {H : Hp} {s : Shared} {Q' : Value → Shared → Prop}
    (hr : Room (k + 1) X.A) (hc : X.calm = true) (hN : X.N.Nodup) (TB : GxR.TabB X.base X.mg c P) (hcode : X.env.code = .ref c) (ok : GenOk X.N X.env.scope scope own) (hi : PI X tg iter wi)
    (hg : ∀ (s : Shared) (H : Hp) (C : Addr) (code : Value) (fp : List Addr), Room k (Cx.gblk X s H scope C code fp).A → PG (Cx.gblk X s H scope C code fp) tg g)
    (ht : ∀ (s : Shared) (H : Hp) (C : Addr) (code : Value) (fp : List Addr), Room k (Cx.gblk X s H scope C code fp).A → PTs (Cx.gblk X s H scope C code fp) ifs tt)
    (he : ∀ (s : Shared) (H : Hp) (C : Addr) (code : Value) (fp : List Addr), Room k (Cx.gblk X s H scope C code fp).A → PE (Cx.gblk X s H scope C code fp) elt te)
    (hs : ∀ x, genFold iter X.env x = pure x) (I : Inv X pins σ H s) (h : tColE P wi g tt te (own.map (·.2)) F σ H Q)
    (fin : ∀ (ga : Addr) (s5 : Shared), s5.TypeIs (.ref ga) "generator" → (∀ (Q1 : Value → Shared → Prop) (E : Value → Shared → Prop) (A : Around), Q1 (.ref ga) s5 → wpAny (model X.prog X.w) A (pyIter (.ref ga)) Q1 E s5) →
      (∀ {Q1 : List Value → Shared → Prop} {E1 : Value → Shared → Prop}, (∀ s' (acc : Array Value), (∃ ys H', Vals ys acc.toList ∧ ys.length ≤ sizeLine ∧ Inv X pins σ H' s' ∧ F Q ys H') → Q1 acc.toList s') → wpAny (model X.prog X.w) X.A.in1.in1 (collect (.ref ga)) Q1 E1 s5) → Q' (.ref ga) s5) :
    wpAny (model X.prog X.w) X.A (eval (.GeneratorExp elt [⟨tg, iter, ifs, 0⟩] scope gpos) X.env) Q' X.xe s := by
  refine gen_mk hr hc hN TB hcode ok hi hg ht he hs I h fun J H1 H4 Y s5 pf ga gi go r tb hpr hw hgo sz sl hpn I5 back goes => ?_
  obtain ⟨W, ⟨m, w0⟩, step⟩ := r H4 tb
  have hgen : s5.heap.IsGen ga gi := hgo _ (I5.pin (ga, go) (List.mem_append_right _ (List.mem_append_left _ List.mem_cons_self))).1
  refine fin ga s5 hgen.typeIs (fun Q1 E A q => wpAny_pyIter_gen hgen q) fun {Q1 E1} hQ1 => ?_
  refine collect_g (X := X) (Y := Y) sl hpn hpr hw hgo I5 fun S c s' R hS B hgaS Is eg hR => ?_
  have g0 := goes ⟨LExt S, fun ys _ _ => ys.length < sizeLine, fun _ _ _ => True, fun ys H' => F Q ys H'⟩ W m (fun ys ps e q hq => by
      obtain ⟨acc, c, e, _⟩ := e
      rw [e] at hq
      have hq : q = (S, lstObj acc c) := by simpa using hq
      rw [hq, hS]
      exact Nat.le_refl _) (fun ys i m H w => (step ys i m H w).imp id fun ⟨a, Nx, hNx, b⟩ => ⟨a, Nx, hNx, fun x H' y => b x H' y⟩) w0 s' [(S, lstObj #[] c)] ⟨#[], c, rfl, .nil, Nat.zero_le _⟩ Is eg
  exact ext_loopG (X := X) hr.hd (by have := hr.dp; omega) hpr hw hgo B hgaS rfl (fun ys y H z => ⟨z, trivial⟩) (fun ys H' acc c σ' s'' fi vs hl e ⟨ps, I'⟩ => hR acc c s'' e (hQ1 s'' acc ⟨ys, H', vs, hl, back I', fi⟩)) (m + 1) s' g0
end
section
variable {X : Cx}
theorem pe_tupE {c P : Addr} {elt tg iter : Expr} {ifs : List Expr} {scope : Scope} {own : List (Str × Nat)} {p pos gpos : Pos} {wi : TI} {g : TG} {tt : TT} {te : TE} {k : Nat}
    (hr : Room (k + 1) X.A) (hgl : Gl X "tuple") (hm : X.mg "tuple" = none) (hb : bootBuiltins "tuple" = some (.type "tuple")) (hc : X.calm = true) (hN : X.N.Nodup) (TB : GxR.TabB X.base X.mg c P) (hcode : X.env.code = .ref c) (ok : GenOk X.N X.env.scope scope own) (hi : PI X tg iter wi)
    (hg : ∀ (s : Shared) (H : Hp) (C : Addr) (code : Value) (fp : List Addr), Room k (Cx.gblk X s H scope C code fp).A → PG (Cx.gblk X s H scope C code fp) tg g)
    (ht : ∀ (s : Shared) (H : Hp) (C : Addr) (code : Value) (fp : List Addr), Room k (Cx.gblk X s H scope C code fp).A → PTs (Cx.gblk X s H scope C code fp) ifs tt)
    (he : ∀ (s : Shared) (H : Hp) (C : Addr) (code : Value) (fp : List Addr), Room k (Cx.gblk X s H scope C code fp).A → PE (Cx.gblk X s H scope C code fp) elt te)
    (hs : ∀ x, genFold iter X.env x = pure x := by intro _; rfl)
    (hst : starEach [.GeneratorExp elt [⟨tg, iter, ifs, 0⟩] scope gpos] X.env = (false, eval (.GeneratorExp elt [⟨tg, iter, ifs, 0⟩] scope gpos) X.env) :: starEach [] X.env := by rfl) :
    PE X (.Call (.Name "tuple" p) [.GeneratorExp elt [⟨tg, iter, ifs, 0⟩] scope gpos] [] pos) (tColE P wi g tt te (own.map (·.2)) FTup) := by
  constructor
  intro pins s σ H Q I h
  refine wpAny_Call_Name_kw (ld_blt I hgl hm hb ?_)
  refine PyProof.Rows.callWith_type1 ?_ hst (by rfl)
  rw [hst]
  show wpAny _ _ (spliced ((false, eval (.GeneratorExp elt [⟨tg, iter, ifs, 0⟩] scope gpos) X.env) :: backTo pos (starEach [] X.env))) _ _ s
  refine Calls.spliced_cons (col_gen hr hc hN TB hcode ok hi hg ht he hs I h fun ga s5 hT self col => ?_)
  refine Calls.spliced_nil ?_
  refine call_tuple_any hT col fun s' acc ⟨ys, H', vs, hl, I', f⟩ => ⟨by rw [← Array.length_toList, ← vs.length]; exact hl, ?_⟩
  have ea : acc.toList.toArray = acc := by simp
  refine ⟨.ref s'.heap.objs.size, _, I'.laid (t' := s'.toks) (o := .tup ys) (fun b ob e => Heap.get?_push_of_some _ e) (Nat.le_refl _) ⟨hl, acc.toList, vs, ?_⟩, rfl, f _ (I'.hok.fresh (Nat.le_refl _))⟩
  rw [ea]
  exact IsTup.new _ _
/-- .. over what is walked as a Walk says; ys: what came so far -/
theorem gc_it {J : It} {n : Nat} {G : Hp → Prop} {Y : Nat → Hp → V → Hp → Prop} (w : Walk J n G Y) {g : TG} {tt : TT} {te : TE} {vs : List Nat} {σ : L2.St} {H2 : Hp} {Qf : List V → Hp → Prop} (Pv : Nat → List V → Hp → Prop) (h0 : Pv 0 [] H2) (hG : ∀ i ys H, i ≤ n → Pv i ys H → G H)
    (hs : ∀ i ys x H H', i < n → Pv i ys H → Y i H x H' → g x (wipe σ vs) H' fun σ2 H3 => wipe σ2 vs = wipe σ vs ∧ tt σ2 H3 fun b H4 => if b = true then te σ2 H4 fun y H5 => ys.length < sizeLine ∧ (True → Pv (i + 1) (ys ++ [y]) H5) else Pv (i + 1) ys H4) (hd : ∀ ys H, Pv n ys H → Qf ys H) :
    ∃ W : List V → Nat → Nat → Hp → Prop, (∃ m, W [] 0 m H2) ∧ ∀ ys i m H, W ys i m H →
      (J.stop i H ∧ Qf ys H) ∨ (J.go i H ∧ ∃ Nx : List V → Hp → Prop, (∀ ys' H', Nx ys' H' → ∃ m', m' < m ∧ W ys' (i + 1) m' H') ∧ ∀ x H', J.yld i H x H' → g x (wipe σ vs) H' fun σ2 H3 => wipe σ2 vs = wipe σ vs ∧ tt σ2 H3 fun b H4 =>
        if b = true then te σ2 H4 fun y H5 => ys.length < sizeLine ∧ (True → Nx (ys ++ [y]) H5) else Nx ys H4) := by
  refine ⟨fun ys i m H => m = n - i ∧ i ≤ n ∧ Pv i ys H, ⟨n, by simp, Nat.zero_le _, h0⟩, ?_⟩
  rintro ys i m H ⟨rfl, hi, p⟩
  have q := hG i ys H hi p
  by_cases hlt : i < n
  · refine .inr ⟨w.goes i H hlt q, fun ys H => Pv (i + 1) ys H, fun ys' H' p' => ⟨n - (i + 1), by omega, rfl, hlt, p'⟩, fun x H' y => hs i ys x H H' hlt p (w.yields i H x H' hlt q y)⟩
  · have e : i = n := by omega
    subst e
    exact .inl ⟨w.stops H q, hd ys H p⟩
end
/-! things whose text is short -/
mutual
def lvs (k : Nat) : PyData → Bool
  | .none | .bool _ => true
  | .int i => decide (i.natAbs < 10 ^ k)
  | .str x => x.cps.toList.all fun c => decide (c < 16 ^ 8)
  | .list xs | .tuple xs => lvsA k xs
  | .dict _ => false
def lvsA (k : Nat) : List PyData → Bool
  | [] => true
  | x :: xs => lvs k x && lvsA k xs
end
theorem log_sm {n k : Nat} (hk : k ≤ 400) (h : n < 10 ^ k) : n.log2 < 1920 := by
  by_cases z : n = 0
  · rw [z]
    decide
  · rw [Nat.log2_lt z]
    refine Nat.lt_of_lt_of_le h (Nat.le_trans (Nat.pow_le_pow_left (show 10 ≤ 2 ^ 4 by decide) k) ?_)
    rw [← Nat.pow_mul]
    exact Nat.pow_le_pow_right (by decide) (by omega)
theorem shown_k {i : Int} {k : Nat} (k0 : 0 < k) (h : i.natAbs < 10 ^ k) : (PyData.shown (.int i)).length ≤ k + 1 := by
  have e := int_text_length_le10 (k := k) k0 h
  show (Str.ofString (toString i)).length ≤ k + 1
  rw [PySem.ofString_length]
  exact e
mutual
theorem lvs_show {k : Nat} (k0 : 0 < k) (hk : k ≤ 400) : ∀ d : PyData, lvs k d = true → d.showable = true ∧ d.hasDict = false ∧ d.leavesShort (k + 1) = true
  | .none, _ => ⟨rfl, rfl, rfl⟩
  | .bool _, _ => ⟨rfl, rfl, rfl⟩
  | .int i, h => by
    have h1 : i.natAbs < 10 ^ k := by simpa only [lvs, decide_eq_true_eq] using h
    refine ⟨?_, rfl, ?_⟩
    · simp only [PyData.showable]
      exact decide_eq_true (log_sm hk h1)
    · simp only [PyData.leavesShort]
      exact decide_eq_true (shown_k k0 h1)
  | .str x, h => ⟨rfl, rfl, by simpa only [PyData.leavesShort, lvs] using h⟩
  | .list xs, h => by
    have := lvsA_show k0 hk xs (by simpa only [lvs] using h)
    simpa only [PyData.showable, PyData.hasDict, PyData.leavesShort] using this
  | .tuple xs, h => by
    have := lvsA_show k0 hk xs (by simpa only [lvs] using h)
    simpa only [PyData.showable, PyData.hasDict, PyData.leavesShort] using this
  | .dict _, h => by simp only [lvs] at h; exact nomatch h
theorem lvsA_show {k : Nat} (k0 : 0 < k) (hk : k ≤ 400) : ∀ xs : List PyData, lvsA k xs = true → PyData.showableAll xs = true ∧ PyData.hasDictAll xs = false ∧ PyData.leavesShortAll (k + 1) xs = true
  | [], _ => ⟨rfl, rfl, rfl⟩
  | x :: xs, h => by
    have h' : lvs k x = true ∧ lvsA k xs = true := by simpa only [lvsA, Bool.and_eq_true] using h
    obtain ⟨a1, a2, a3⟩ := lvs_show k0 hk x h'.1
    obtain ⟨b1, b2, b3⟩ := lvsA_show k0 hk xs h'.2
    simp only [PyData.showableAll, PyData.hasDictAll, PyData.leavesShortAll, a1, a2, a3, b1, b2, b3]
    exact ⟨rfl, rfl, rfl⟩
end
structure Sho (d : PyData) : Prop where
  s : d.showable = true
  n : d.hasDict = false
  dp : d.depth ≤ 60
  len : d.shown.length ≤ sizeLine
theorem sho_of {k : Nat} {d : PyData} (k0 : 7 ≤ k) (hk : k ≤ 400) (h : lvs k d = true) (dp : d.depth ≤ 60) (w : (k + 3) * d.weight ≤ 16000000) : Sho d := by
  obtain ⟨a, b, c⟩ := lvs_show (by omega) hk d h
  refine ⟨a, b, dp, ?_⟩
  have e : d.shown.length ≤ (k + 3) * d.weight + (k + 1) := PyData.shown_le (k + 1) (by omega) d c
  rw [sizeLine_eq]
  omega
theorem lvsA_of {k : Nat} : ∀ ds : List PyData, (∀ d, d ∈ ds → lvs k d = true) → lvsA k ds = true
  | [], _ => rfl
  | d :: ds, h => by
    simp only [lvsA, Bool.and_eq_true]
    exact ⟨h d List.mem_cons_self, lvsA_of ds fun x hx => h x (List.mem_cons_of_mem _ hx)⟩
theorem depA_of {n : Nat} : ∀ ds : List PyData, (∀ d, d ∈ ds → d.depth ≤ n) → PyData.depthAll ds ≤ n
  | [], _ => Nat.zero_le _
  | d :: ds, h => by
    have := h d List.mem_cons_self
    have := depA_of ds fun x hx => h x (List.mem_cons_of_mem _ hx)
    simp only [PyData.depthAll]
    omega
theorem weiA_of {n : Nat} : ∀ ds : List PyData, (∀ d, d ∈ ds → d.weight ≤ n) → PyData.weightAll ds ≤ ds.length * (n + 1)
  | [], _ => Nat.zero_le _
  | d :: ds, h => by
    have := h d List.mem_cons_self
    have := weiA_of ds fun x hx => h x (List.mem_cons_of_mem _ hx)
    simp only [PyData.weightAll, List.length_cons, Nat.add_mul, Nat.one_mul]
    omega
/-- short things: their leaves, depth and weight -/
structure Shs (k n w : Nat) (d : PyData) : Prop where
  l : lvs k d = true
  dp : d.depth ≤ n
  wt : d.weight ≤ w
theorem shs_all {k n w : Nat} {ds : List PyData} (h : ∀ d, d ∈ ds → Shs k n w d) : Shs k (n + 1) (ds.length * (w + 1)) (.list ds) ∧ Shs k (n + 1) (ds.length * (w + 1)) (.tuple ds) := by
  have a := lvsA_of ds fun d hd => (h d hd).l
  have b := depA_of ds fun d hd => (h d hd).dp
  have c := weiA_of ds fun d hd => (h d hd).wt
  refine ⟨⟨by simpa only [lvs] using a, ?_, by simpa only [PyData.weight] using c⟩, ⟨by simpa only [lvs] using a, ?_, by simpa only [PyData.weight] using c⟩⟩
  · simp only [PyData.depth]
    omega
  · simp only [PyData.depth]
    omega
theorem Shs.mono {k n m w v : Nat} {d : PyData} (h : Shs k n w d) (a : n ≤ m) (b : w ≤ v) : Shs k m v d := ⟨h.l, Nat.le_trans h.dp a, Nat.le_trans h.wt b⟩
theorem Shs.sho {k n w : Nat} {d : PyData} (h : Shs k n w d) (k0 : 7 ≤ k) (hk : k ≤ 400) (hn : n ≤ 60) (hw : (k + 3) * w ≤ 16000000) : Sho d := sho_of k0 hk h.l (Nat.le_trans h.dp hn) (Nat.le_trans (Nat.mul_le_mul_left _ h.wt) hw)
theorem shs_int {k : Nat} {i : Int} (h : i.natAbs < 10 ^ k) : Shs k 0 (4 * k + 1) (.int i) := by
  refine ⟨?_, ?_, ?_⟩
  · simp only [lvs]
    exact decide_eq_true h
  · simp only [PyData.depth]
    decide
  · simp only [PyData.weight]
    split
    · exact Nat.zero_le _
    · rename_i z
      have z1 : i.natAbs ≠ 0 := fun e => z (by rw [Int.natAbs_eq_zero.mp e]; rfl)
      have := (Nat.log2_lt (k := 4 * k) z1).mpr (Nat.lt_of_lt_of_le h (by
        rw [Nat.pow_mul]
        exact Nat.pow_le_pow_left (by decide) k))
      omega
theorem sho_ints {ns : List Int} (h : ∀ n, n ∈ ns → n.natAbs < 10 ^ 12) (l : ns.length ≤ 20000) : Sho (.list (ns.map .int)) ∧ Sho (.tuple (ns.map .int)) := by
  obtain ⟨a, b⟩ := shs_all (k := 12) (n := 0) (w := 49) (ds := ns.map .int) (fun d hd => by
    obtain ⟨n, hn, rfl⟩ := List.mem_map.mp hd
    exact shs_int (h n hn))
  rw [List.length_map] at a b
  exact ⟨a.sho (by decide) (by decide) (by decide) (by omega), b.sho (by decide) (by decide) (by decide) (by omega)⟩
theorem shs_str {k : Nat} {x : Str} (h : (x.cps.toList.all fun c => decide (c < 16 ^ 8)) = true) (w : x.cps.size ≤ 12) : Shs k 0 12 (.str x) := ⟨by simpa only [lvs] using h, by simp only [PyData.depth]; decide, by simpa only [PyData.weight] using w⟩
theorem shs_non {k : Nat} : Shs k 0 0 .none := ⟨rfl, by simp only [PyData.depth]; decide, by simp only [PyData.weight]; decide⟩
/-! a promise where no text of a thing is being made -/
structure GOk (P : Program) (w : World) (K : PySem.W.Frag) (mg : Str → Option Value) (base : Heap) (CX : CXT) (k : Nat) (f : Addr) (fd : FuncData) (ps : List Str) (sp : Sp) : Prop where
  len : ∀ vs H Q E, sp vs H Q E → vs.length = ps.length
  run : ∀ (A : Around) (outer : List Env) (s : Shared) (H : Hp) (args : Args) (us : List Value) (vs : List V) (Q : VK) (E : XK), A.guards = some [] → Room k A → Env0 P w K mg base A outer s H → BindsTo s fd args (ps.zip us) → Vals vs us → sp vs H Q E →
    codeAny (model P w) A (.call (.ref f) args) (CR CX outer P w H s Q E) s
theorem gok_of {CX : CXT} {P : Program} {w : World} {K : PySem.W.Frag} {mg : Str → Option Value} {base : Heap} {k : Nat} {x : Str} {st : Stmt} {f : Addr} {fd : FuncData} {N ps : List Str} {sp : Sp} (F : FnP K x st f fd) (S : FnScope N ps (defScope st)) (len : ∀ vs H Q E, sp vs H Q E → vs.length = ps.length)
    (hb : ∀ (cdv : Value) (A : Around) (outer : List Env) (s : Shared) (H : Hp) (vs : List V) (Q : VK) (E : XK), A.guards = some [] → Room k (A.deeper (envOfC x (defScope st) s.heap.objs.size f cdv)) → sp vs H Q E →
      ∃ t, PSs (cxOf CX P w K mg base N x (defScope st) f cdv A outer s H E) (defBody st) t ∧ t { nx := fun _ H' => Q .non H', rt := Q } (L2.start N vs) H) : GOk P w K mg base CX (k + 1) f fd ps sp := by
  obtain ⟨oc, od, dV, kV, doc, pm, an, cdv, ct, osl, rfl, lk, hcd, _, _⟩ := F.ex
  refine ⟨len, fun A outer s H args us vs Q E hg hr e0 bd rv hsp => ?_⟩
  have kept : ∀ b o, base.get? b = some o → s.heap.get? b = some o := fun b o e => (e0.bs b o e).1
  have KX : K.In s.heap := e0.mod.kin.keeps kept
  have kinds : ∀ y ∈ ps.zip us, (defScope st).names.lookup y.1 = some .local ∨ ((defScope st).names.lookup y.1 = some .cell ∧ ((cellsFrom (s.heap.objs.size + 1) (defScope st).names []).lookup y.1).isSome = true) := fun y hy =>
    (S.par y.1 (List.of_mem_zip (show (y.1, y.2) ∈ ps.zip us from hy)).1).imp id fun q => ⟨q, PySem.W.cellsFrom_some _ _ _ (.inl q)⟩
  refine codeAny_call_function hr.depth (KX _ _ lk) rfl S.co S.gen rfl (PySem.W.codeRec_of KX hcd) (bd _ _ _ _ (wpAny_newFunctionEnv_cells S.kind kinds fun env he s1 x1 => ?_))
  subst he
  refine ⟨(e0.mod.nolimit.keeps kept).keeps x1.toInCall.keep, codeAny_func ?_⟩
  obtain ⟨t, ht, hq⟩ := hb cdv A outer s H vs Q E hg (hr.deeper _) hsp
  have I := inv_start (CX := CX) (E := E) S hr.hd e0 (len _ _ _ _ hsp) rv x1
  refine wpAny_mono (ht.run [] s1 (L2.start N vs) H _ I hq) (fun fl s' hs => ?_) fun e s' hs => hs
  cases fl with
  | ret u =>
    obtain ⟨v, σ', H', J, r', q⟩ := hs
    exact ⟨v, H', J.os, J.bare, J.base, J.hok, r', q⟩
  | next =>
    obtain ⟨σ', H', J, q⟩ := hs
    exact ⟨V.non, H', J.os, J.bare, J.base, J.hok, rfl, q⟩
  | brk =>
    obtain ⟨_, _, _, q⟩ := hs
    exact q.elim
  | cont =>
    obtain ⟨_, _, _, q⟩ := hs
    exact q.elim
/-- the state ahead of the law's call: the script is tracked, or one of the module's own things -/
theorem env_ahead {P : Program} {w : World} {K : PySem.W.Frag} {mg mb : Str → Option Value} {a : Addr} {s : Shared} {vs : List Value} {ns : List Int} (KX : K.In s.heap) (hns : s.heap.Ns mainGlobals mg) (hb : s.heap.Ns builtinsNs mb)
    (hbb : ∀ x : Str, x ≠ "__name__" → mb x = bootBuiltins x) (hlim : s.heap.NoLimit) (hg : s.gens = #[]) (ha : s.heap.get? a = some { cls := .type "list", data := .seq vs.toArray }) (hi : IntsAre vs ns) (hl : ns.length ≤ sizeLine) :
    ∃ H : Hp, Only H ∧ SqL K H a (ns.map V.int) ∧ HOk P w H s.heap ∧ K.In (hidT s.heap H) ∧ (hidT s.heap H).Ns mainGlobals mg ∧ Env0 P w K mg (hidT s.heap H) callerA [] s H := by
  have rv := vals_ints hi
  have go : ∀ H : Hp, Only H → SqL K H a (ns.map V.int) → HOk P w H s.heap → (∀ b, H b ≠ none → b = a ∧ K.lookup a = none) → ∃ H : Hp, Only H ∧ SqL K H a (ns.map V.int) ∧ HOk P w H s.heap ∧ K.In (hidT s.heap H) ∧ (hidT s.heap H).Ns mainGlobals mg ∧ Env0 P w K mg (hidT s.heap H) callerA [] s H := fun H hO hS hok hA => by
    have free : ∀ {b : Addr}, (b = a → False) → H b = none := fun {b} nb => Classical.byContradiction fun z => nb (hA b z).1
    have Kb : K.In (hidT s.heap H) := fun b o e => hidT_get (KX b o e) (Classical.byContradiction fun z => by
      obtain ⟨rfl, n⟩ := hA b z
      rw [n] at e
      cases e)
    have nsb : ∀ {b : Addr} {m : Str → Option Value}, s.heap.Ns b m → (hidT s.heap H).Ns b m := fun {b m} h => by
      obtain ⟨o, es, ep, e, d, r⟩ := h
      refine ⟨o, es, ep, hidT_get e (free fun z => ?_), d, r⟩
      rw [z, ha] at e
      cases e
      cases d
    refine ⟨H, hO, hS, hok, Kb, nsb hns, rfl, ⟨Kb, nsb hns, ⟨mb, nsb hb, hbb⟩, ?_⟩, fun b o e => of_hidT e, Nat.le_of_eq (hidT_size _ _), trivial, fun b z => (by cases z), hok, .of_eq hg⟩
    obtain ⟨mc, h1, h2⟩ := hlim
    exact ⟨mc, nsb h1, h2⟩
  cases hk : K.lookup a with
  | some o =>
    have e := KX a o hk
    rw [ha] at e
    cases e
    exact go (fun _ => none) (fun _ => .inl rfl) (.inr ⟨_, vs.toArray, _, hk, rfl, rfl, rfl, by rw [List.size_toArray, hi.length]; exact hl, by simpa using rv⟩) (fun b u z => by cases z) (fun b z => absurd rfl z)
  | none =>
    refine go (fun b => if b = a then some (.frz { cls := .type "list", data := .seq vs.toArray } (.lst (ns.map V.int))) else none) (fun b => ?_) (.inl (.inr ⟨_, if_pos rfl⟩)) (fun b u z => ?_) (fun b z => ?_)
    · by_cases e : b = a
      · exact .inr ⟨_, _, if_pos e⟩
      · exact .inl (if_neg e)
    · by_cases e : b = a
      · cases (if_pos e).symm.trans z
        subst e
        exact ⟨ha, by rw [List.length_map]; exact hl, vs, _, rv, ha⟩
      · cases (if_neg e).symm.trans z
    · by_cases e : b = a
      · exact ⟨e, hk⟩
      · exact absurd (if_neg e) z
theorem walk_ofG {l : PySem.W.OpenLaw} {n k : Nat} {q : Program} {loose : List Str} {XP : (Str → Option Value) → Heap → Prop} {YP : World → Heap → Prop} {d : DefRec} {x : Str}
    (hn : l.most = some n) (hn2 : n ≤ sizeLine) (hdf : d.params.defaults = []) (hr : Room k callerA)
    (F : ∀ (w : World) (mg : Str → Option Value) (fa : Addr) (h : Heap), YP w h → h.Ns mainGlobals mg → mg d.name = some (.ref fa) →
      ∃ (K : PySem.W.Frag) (fd : FuncData) (sp : Sp), K.In h ∧ (∀ (s : Shared) (u : Value), BindsTo s fd ⟨[u], []⟩ [(x, u)]) ∧
        (∀ (H : Hp) (a : Addr) (ns : List Int), ns.length ≤ n → Only H → SqL K H a (ns.map V.int) → sp [.ref a] H (fun v _ => v = .bl true) fun _ _ _ => False) ∧
        ∀ base : Heap, K.In base → base.Ns mainGlobals mg → GOk l.prog w K mg base CX0 k fa fd [x] sp) :
    PySem.W.WalkO q loose XP YP l.row.toRowW d [] (fun f vs => PySem.call f vs) := by
  refine Att.attach_call hn hdf fun w s₀ s₁ mg mb fa o pm cd doc a vs ns G Y ho hd hcd hmg hobj hints hlen hg => ?_
  obtain ⟨K, fd, sp, KX, hbd, hsp, hF⟩ := F w mg fa _ Y G.T.g hmg
  obtain ⟨H, hO, hS, hok, Kb, nb, e0⟩ := env_ahead (P := l.prog) (w := w) KX G.T.g G.T.b G.T.builtins G.T.nolimit hg hobj hints (Nat.le_trans hlen hn2)
  refine codeAny_mono ((hF _ Kb nb).run callerA [] s₁ H ⟨[.ref a], []⟩ [.ref a] [.ref a] _ _ rfl hr e0 (hbd s₁ (.ref a)) (.cons rfl .nil) (hsp H a ns hlen hO hS)) fun r s' h => ?_
  match r, h with
  | .ok (.ret u), h =>
    obtain ⟨v, H', os, bare, un, hok', r', q⟩ := h
    have q : v = .bl true := q
    subst q
    obtain rfl : u = Value.bool true := r'
    refine ⟨rfl, OldK.of_keep fun b o e => ?_, os, bare⟩
    rcases hO b with z | ⟨ob, xs, z⟩
    · exact un.keep b o e z (by intro y; cases y) (by simp)
    · obtain ⟨e1, _⟩ := hok b _ z
      obtain ⟨e2, _⟩ := hok' b _ (un.frzs b ob _ z)
      rw [e] at e1
      cases e1
      exact e2
  | .ok .next, h => exact False.elim h
  | .ok .brk, h => exact False.elim h
  | .ok .cont, h => exact False.elim h
  | .error e, h => exact False.elim h
/-- repr(x) of a list or tuple -/
def rRepr (K : PySem.W.Frag) : List V → Hp → VK → Prop := fun xs H Q => ∃ a d, xs = [.ref a] ∧ Dp K H (.ref a) d ∧ Sho d ∧ Q (.str d.shown) H
theorem cr_repr {X : Cx} (hg : X.A.guards = some []) (hu : X.A.units + 65 < cLine) : CallR X (.builtin "repr") (rRepr X.K) := by
  intro pins s σ H vs us Q I r h
  obtain ⟨a, d, rfl, hd, ⟨sh, nd, dd, sz⟩, q⟩ := h
  rw [Vals.ref1 r]
  obtain ⟨as, rd⟩ := Dp.reads I d (.ref a) (.ref a) hd rfl
  refine repr_of_reads' rd sh (fun z => by rw [nd] at z; cases z) hg (by omega) (fun _ _ e => e) (fun h' u tk hk => ?_) sz
  exact ⟨.str d.shown, H, I.kept (t' := tk) hk, ⟨_, rfl⟩, q⟩
theorem u65g {k : Nat} {A : Around} (r : Room k A) : A.units + 65 < cLine := by
  have := r.un
  omega
/-! the state ahead of the law's call, with the tables of code objects -/
def ahT (K : PySem.W.Frag) (a : Addr) (ts : List Addr) (o : Obj) (xs : List V) : Hp := fun b => if b = a then (if (K.lookup a).isSome = true then none else some (.frz o (.lst xs))) else if b ∈ ts then some (.tbl #[]) else none
theorem ahT_tab {K : PySem.W.Frag} {a : Addr} {ts : List Addr} {o : Obj} {xs : List V} (na : ¬ a ∈ ts) {b : Addr} (hb : b ∈ ts) : ahT K a ts o xs b = some (.tbl #[]) := by
  unfold ahT
  rw [if_neg (fun z : b = a => na (z ▸ hb)), if_pos hb]
theorem ahT_any {K : PySem.W.Frag} {a : Addr} {ts : List Addr} {o : Obj} {xs : List V} {b : Addr} {u : HO} (h : ahT K a ts o xs b = some u) : (b = a ∧ K.lookup a = none ∧ u = .frz o (.lst xs)) ∨ (b ∈ ts ∧ u = .tbl #[]) := by
  unfold ahT at h
  by_cases e : b = a
  · rw [if_pos e] at h
    cases k : K.lookup a with
    | none =>
      rw [k, if_neg (fun z => by cases z)] at h
      exact .inl ⟨e, rfl, (Option.some.inj h).symm⟩
    | some y =>
      rw [k] at h
      simp at h
  · rw [if_neg e] at h
    by_cases z : b ∈ ts
    · rw [if_pos z] at h
      exact .inr ⟨z, (Option.some.inj h).symm⟩
    · rw [if_neg z] at h
      cases h
/-- a code object, its table, and where they stand -/
structure TbAt (K : PySem.W.Frag) (h : Heap) (q : Addr × Addr) : Prop where
  ob : h.get? q.2 = some { cls := .none, data := .fields #[] }
  nk : K.lookup q.2 = none
  hd : PySem.W.CodeHd h q.1 q.2
theorem env_aheadT {P : Program} {w : World} {K : PySem.W.Frag} {mg mb : Str → Option Value} {a : Addr} {cs : List (Addr × Addr)} {s : Shared} {vs : List Value} {ns : List Int} (KX : K.In s.heap) (gl : s.heap.Ns mainGlobals mg) (bl : s.heap.Ns builtinsNs mb)
    (bb : ∀ x : Str, x ≠ "__name__" → mb x = bootBuiltins x) (nl : s.heap.NoLimit) (hg : s.gens = #[]) (tb : ∀ q, q ∈ cs → TbAt K s.heap q)
    (bm : ∃ (m : Addr) (om : Obj), mg "__builtins__" = some (.ref m) ∧ m ≠ builtinsNs ∧ s.heap.get? m = some om ∧ om.cls = .type "module" ∧ om.dict = some builtinsNs ∧ om.data = .plain)
    (ha : s.heap.get? a = some { cls := .type "list", data := .seq vs.toArray }) (hi : IntsAre vs ns) (hl : ns.length ≤ sizeLine) :
    ∃ H : Hp, (∀ q, q ∈ cs → H q.2 = some (.tbl #[])) ∧ (∀ b u, H b = some u → (∃ o xs, u = .frz o (.lst xs)) ∨ b ∈ cs.map Prod.snd) ∧ SqL K H a (ns.map V.int) ∧ HOk P w H s.heap ∧ K.In (hidT s.heap H) ∧ (hidT s.heap H).Ns mainGlobals mg ∧ (∀ q, q ∈ cs → GxR.TabB (hidT s.heap H) mg q.1 q.2) ∧ Env0 P w K mg (hidT s.heap H) callerA [] s H := by
  have tin : ∀ b, b ∈ cs.map Prod.snd → ∃ q, q ∈ cs ∧ q.2 = b := fun b h => List.mem_map.mp h
  have tob : ∀ b, b ∈ cs.map Prod.snd → s.heap.get? b = some { cls := .none, data := .fields #[] } := fun b h => by
    obtain ⟨q, hq, rfl⟩ := tin b h
    exact (tb q hq).ob
  have na : ¬ a ∈ cs.map Prod.snd := fun z => by
    have y := (tob a z).symm.trans ha
    cases y
  obtain ⟨H, eH⟩ : ∃ H : Hp, H = ahT K a (cs.map Prod.snd) { cls := .type "list", data := .seq vs.toArray } (ns.map V.int) := ⟨_, rfl⟩
  have any : ∀ {b u}, H b = some u → (b = a ∧ K.lookup a = none ∧ u = .frz { cls := .type "list", data := .seq vs.toArray } (.lst (ns.map V.int))) ∨ (b ∈ cs.map Prod.snd ∧ u = .tbl #[]) := fun {b u} h => ahT_any (by rw [← eH]; exact h)
  have ta : ∀ q, q ∈ cs → H q.2 = some (.tbl #[]) := fun q hq => by
    rw [eH]
    exact ahT_tab na (List.mem_map.mpr ⟨q, hq, rfl⟩)
  have hS : SqL K H a (ns.map V.int) := by
    cases k : K.lookup a with
    | none =>
      refine .inl (.inr ⟨{ cls := .type "list", data := .seq vs.toArray }, ?_⟩)
      rw [eH]
      unfold ahT
      rw [if_pos rfl, k]
      rfl
    | some o =>
      have e := KX a o k
      rw [ha] at e
      cases e
      exact .inr ⟨_, vs.toArray, _, k, rfl, rfl, rfl, by rw [List.size_toArray, hi.length]; exact hl, by simpa using vals_ints hi⟩
  -- what is neither a sequence nor a table stands untouched
  have free : ∀ {b : Addr} {o : Obj}, s.heap.get? b = some o → (∀ ys n, o.data ≠ .seq ys n) → o.data ≠ .fields #[] → H b = none := fun {b o} e n1 n2 => by
    cases k : H b with
    | none => rfl
    | some u =>
      rcases any k with ⟨rfl, _⟩ | ⟨z, _⟩
      · rw [ha] at e
        cases e
        exact absurd rfl (n1 _ _)
      · rw [tob b z] at e
        cases e
        exact absurd rfl n2
  have nsb : ∀ {b : Addr} {m : Str → Option Value}, s.heap.Ns b m → (hidT s.heap H).Ns b m := fun {b m} h => by
    obtain ⟨o, es, ep, e, d, r⟩ := h
    exact ⟨o, es, ep, hidT_get e (free e (fun ys n z => by rw [d] at z; cases z) (fun z => by rw [d] at z; cases z)), d, r⟩
  have Kb : K.In (hidT s.heap H) := fun b o e => hidT_get (KX b o e) (by
    cases k : H b with
    | none => rfl
    | some u =>
      rcases any k with ⟨rfl, n, _⟩ | ⟨z, _⟩
      · rw [n] at e
        cases e
      · obtain ⟨q, hq, rfl⟩ := tin b z
        rw [(tb q hq).nk] at e
        cases e)
  have hok : HOk P w H s.heap := fun b u z => by
    rcases any z with ⟨rfl, _, rfl⟩ | ⟨y, rfl⟩
    · exact ⟨ha, by rw [List.length_map]; exact hl, vs, _, vals_ints hi, ha⟩
    · exact tob b y
  refine ⟨H, ta, fun b u z => ?_, hS, hok, Kb, nsb gl, fun q hq => ⟨?_, ?_, fun z => ?_⟩, rfl, ⟨Kb, nsb gl, ⟨mb, nsb bl, bb⟩, ?_⟩, fun b o e => of_hidT e, Nat.le_of_eq (hidT_size _ _), trivial, fun b z => (by cases z), hok, .of_eq hg⟩
  · rcases any z with ⟨_, _, rfl⟩ | ⟨y, _⟩
    · exact .inl ⟨_, _, rfl⟩
    · exact .inr y
  · obtain ⟨o, us, fl, tf, gs, tg, iF, tx, tt, e1, r1, r2, r3, rest⟩ := (tb q hq).hd
    refine ⟨o, us, fl, tf, gs, tg, iF, tx, tt, hidT_get e1 (free e1 (fun ys n z => by rw [r2] at z; cases z) (fun z => ?_)), r1, r2, r3, rest⟩
    rw [r2] at z
    cases z
    simp at r3
  · obtain ⟨m, om, b1, b2, b3, b4, b5, b6⟩ := bm
    refine ⟨m, om, b1, b2, fun z => ?_, fun z => ?_, hidT_get b3 (free b3 (fun ys n z => by rw [b6] at z; cases z) (fun z => by rw [b6] at z; cases z)), b4, b5, b6⟩
    · obtain ⟨o, es, ep, e, d, _⟩ := gl
      rw [z, e] at b3
      cases b3
      rw [d] at b6
      cases b6
    · have y := (tb q hq).ob
      rw [← z, b3] at y
      cases y
      cases b6
  · obtain ⟨o, es, ep, e, d, _⟩ := gl
    rw [z, (tb q hq).ob] at e
    cases e
    cases d
  · obtain ⟨mc, h1, h2⟩ := nl
    exact ⟨mc, nsb h1, h2⟩
theorem walk_ofGT {l : PySem.W.OpenLaw} {n k : Nat} {q : Program} {loose : List Str} {XP : (Str → Option Value) → Heap → Prop} {YP : World → Heap → Prop} {d : DefRec} {x : Str}
    (hn : l.most = some n) (hn2 : n ≤ sizeLine) (hdf : d.params.defaults = []) (hr : Room k callerA)
    (F : ∀ (w : World) (mg : Str → Option Value) (fa : Addr) (h : Heap), YP w h → h.Ns mainGlobals mg → mg d.name = some (.ref fa) →
      ∃ (K : PySem.W.Frag) (fd : FuncData) (cs : List (Addr × Addr)) (sp : Sp), K.In h ∧ (∀ q, q ∈ cs → TbAt K h q) ∧ (∀ (s : Shared) (u : Value), BindsTo s fd ⟨[u], []⟩ [(x, u)]) ∧
        (∀ (H : Hp) (a : Addr) (ns : List Int), ns.length ≤ n → (∀ q, q ∈ cs → H q.2 = some (.tbl #[])) → SqL K H a (ns.map V.int) → sp [.ref a] H (fun v _ => v = .bl true) fun _ _ _ => False) ∧
        ∀ base : Heap, K.In base → base.Ns mainGlobals mg → (∀ q, q ∈ cs → GxR.TabB base mg q.1 q.2) → GOk l.prog w K mg base CX0 k fa fd [x] sp) :
    PySem.W.WalkO q loose XP YP l.row.toRowW d [] (fun f vs => PySem.call f vs) := by
  refine Att.attach_call hn hdf fun w s₀ s₁ mg mb fa o pm cd doc a vs ns G Y ho hd hcd hmg hobj hints hlen hg => ?_
  obtain ⟨K, fd, cs, sp, KX, tb, hbd, hsp, hF⟩ := F w mg fa _ Y G.T.g hmg
  obtain ⟨H, ta, hO, hS, hok, Kb, nb, TB, e0⟩ := env_aheadT (P := l.prog) (w := w) KX G.T.g G.T.b G.T.builtins G.T.nolimit hg tb G.T.bmain hobj hints (Nat.le_trans hlen hn2)
  refine codeAny_mono ((hF _ Kb nb TB).run callerA [] s₁ H ⟨[.ref a], []⟩ [.ref a] [.ref a] _ _ rfl hr e0 (hbd s₁ (.ref a)) (.cons rfl .nil) (hsp H a ns hlen ta hS)) fun r s' h => ?_
  match r, h with
  | .ok (.ret u), h =>
    obtain ⟨v, H', os, bare, un, hok', r', q⟩ := h
    have q : v = .bl true := q
    subst q
    obtain rfl : u = Value.bool true := r'
    have grow : ∀ t, t ∈ cs → ∃ more : Array Value, s'.heap.get? t.2 = some { cls := .none, data := .fields more } := fun t ht => by
      obtain ⟨more, z⟩ := un.tbls _ _ (ta t ht)
      exact ⟨_, hok' _ _ z⟩
    have stay : ∀ b o, ¬ b ∈ cs.map Prod.snd → s₁.heap.get? b = some o → s'.heap.get? b = some o := fun b o nb e => by
      cases k : H b with
      | none => exact un.keep b o e k (by intro y; cases y) (by simp)
      | some u =>
        rcases hO b u k with ⟨ob, xs, rfl⟩ | z
        · obtain ⟨e1, _⟩ := hok b _ k
          obtain ⟨e2, _⟩ := hok' b _ (un.frzs b ob _ k)
          rw [e] at e1
          cases e1
          exact e2
        · exact absurd z nb
    refine ⟨rfl, ⟨fun b o e => ?_, fun b o e => ?_⟩, os, bare⟩
    · by_cases z : b ∈ cs.map Prod.snd
      · obtain ⟨t, ht, rfl⟩ := List.mem_map.mp z
        obtain ⟨more, gm⟩ := grow t ht
        have y := (tb t ht).ob
        rw [e] at y
        cases y
        exact .inr (.inl ⟨((tb t ht).hd.tab (tb t ht).ob).isCodeTable, rfl, #[], more, rfl, by rw [Array.empty_append]; exact gm⟩)
      · exact .inl (stay b o z e)
    · by_cases z : b ∈ cs.map Prod.snd
      · obtain ⟨t, ht, rfl⟩ := List.mem_map.mp z
        obtain ⟨more, gm⟩ := grow t ht
        exact ⟨_, gm⟩
      · exact ⟨o, stay b o z e⟩
  | .ok .next, h => exact False.elim h
  | .ok .brk, h => exact False.elim h
  | .ok .cont, h => exact False.elim h
  | .error e, h => exact False.elim h
/-! things that are small enough -/
mutual
def gd (k : Nat) : PyData → Bool
  | .none | .bool _ => true
  | .int i => decide (i.natAbs < 10 ^ k)
  | .str x => PyData.strOk x
  | .list xs | .tuple xs => gdA k xs
  | .dict _ => false
def gdA (k : Nat) : List PyData → Bool
  | [] => true
  | x :: xs => gd k x && gdA k xs
end
mutual
theorem gd_lvs {k : Nat} : ∀ d : PyData, gd k d = true → lvs k d = true ∧ d.canLay0 = true
  | .none, _ => ⟨rfl, rfl⟩
  | .bool b, _ => ⟨rfl, rfl⟩
  | .int i, h => ⟨by simpa only [lvs, gd] using h, rfl⟩
  | .str x, h => by
    have h1 : PyData.strOk x = true := by simpa only [gd] using h
    refine ⟨?_, by simpa only [PyData.canLay0] using h1⟩
    simp only [lvs, List.all_eq_true, decide_eq_true_eq]
    intro c hc
    unfold PyData.strOk at h1
    have := Array.all_eq_true_iff_forall_mem.mp h1 c (Array.mem_toList_iff.mp hc)
    have : c < 0x110000 := by simpa using this
    exact Nat.lt_trans this (by decide)
  | .list xs, h => by
    have := gdA_lvs xs (by simpa only [gd] using h)
    simpa only [lvs, PyData.canLay0] using this
  | .tuple xs, h => by
    have := gdA_lvs xs (by simpa only [gd] using h)
    simpa only [lvs, PyData.canLay0] using this
  | .dict _, h => by simp only [gd] at h; exact nomatch h
theorem gdA_lvs {k : Nat} : ∀ xs : List PyData, gdA k xs = true → lvsA k xs = true ∧ PyData.canLayAll0 xs = true
  | [], _ => ⟨rfl, rfl⟩
  | x :: xs, h => by
    have h' : gd k x = true ∧ gdA k xs = true := by simpa only [gdA, Bool.and_eq_true] using h
    have a := gd_lvs x h'.1
    have b := gdA_lvs xs h'.2
    simp only [lvsA, PyData.canLayAll0, a.1, a.2, b.1, b.2]
    exact ⟨rfl, rfl⟩
end
theorem gdA_all {k : Nat} : ∀ {xs : List PyData}, gdA k xs = true ↔ ∀ x, x ∈ xs → gd k x = true
  | [] => ⟨fun _ x hx => (by cases hx), fun _ => rfl⟩
  | x :: xs => by
    simp only [gdA, Bool.and_eq_true, gdA_all (xs := xs)]
    exact ⟨fun h y hy => by
      rcases List.mem_cons.mp hy with rfl | hy
      · exact h.1
      · exact h.2 y hy, fun h => ⟨h x List.mem_cons_self, fun y hy => h y (List.mem_cons_of_mem _ hy)⟩⟩
mutual
theorem gd_mono {k m : Nat} (h : k ≤ m) : ∀ d : PyData, gd k d = true → gd m d = true
  | .none, _ => rfl
  | .bool b, _ => rfl
  | .int i, g => by
    simp only [gd, decide_eq_true_eq] at g ⊢
    exact Nat.lt_of_lt_of_le g (Nat.pow_le_pow_right (by decide) h)
  | .str x, g => by simpa only [gd] using g
  | .list xs, g => by
    have := gdA_mono h xs (by simpa only [gd] using g)
    simpa only [gd] using this
  | .tuple xs, g => by
    have := gdA_mono h xs (by simpa only [gd] using g)
    simpa only [gd] using this
  | .dict _, g => by simp only [gd] at g; exact nomatch g
theorem gdA_mono {k m : Nat} (h : k ≤ m) : ∀ xs : List PyData, gdA k xs = true → gdA m xs = true
  | [], _ => rfl
  | x :: xs, g => by
    have h' : gd k x = true ∧ gdA k xs = true := by simpa only [gdA, Bool.and_eq_true] using g
    simp only [gdA, gd_mono h x h'.1, gdA_mono h xs h'.2]
    rfl
end
structure Bd (k n w : Nat) (d : PyData) : Prop where
  g : gd k d = true
  dp : d.depth ≤ n
  wt : d.weight ≤ w
theorem Bd.mono {k n w m v j : Nat} {d : PyData} (h : Bd k n w d) (c : k ≤ j) (a : n ≤ m) (b : w ≤ v) : Bd j m v d := ⟨gd_mono c d h.g, Nat.le_trans h.dp a, Nat.le_trans h.wt b⟩
theorem Bd.shs {k n w : Nat} {d : PyData} (h : Bd k n w d) : Shs k n w d := ⟨(gd_lvs d h.g).1, h.dp, h.wt⟩
theorem Bd.shaped {k n w : Nat} {d : PyData} (h : Bd k n w d) (hn : n ≤ 64) : SeqAt.shaped d = true := by
  unfold SeqAt.shaped
  rw [(gd_lvs d h.g).2, decide_eq_true (Nat.le_trans h.dp hn)]
  rfl
theorem depA_mem {n : Nat} : ∀ {ds : List PyData} {d : PyData}, d ∈ ds → PyData.depthAll ds ≤ n → d.depth ≤ n
  | x :: xs, d, hd, h => by
    simp only [PyData.depthAll] at h
    rcases List.mem_cons.mp hd with rfl | hd
    · omega
    · exact depA_mem hd (by omega)
theorem weiA_mem : ∀ {ds : List PyData} {d : PyData}, d ∈ ds → d.weight + 1 ≤ PyData.weightAll ds
  | x :: xs, d, hd => by
    simp only [PyData.weightAll]
    rcases List.mem_cons.mp hd with rfl | hd
    · omega
    · have := weiA_mem hd
      omega
/-- the items of a list or tuple that is small enough -/
structure BdA (k n w : Nat) (ds : List PyData) : Prop where
  g : gdA k ds = true
  dp : PyData.depthAll ds ≤ n
  wt : PyData.weightAll ds ≤ w
theorem BdA.get {k n w : Nat} {ds : List PyData} (h : BdA k n w ds) {d : PyData} (hd : d ∈ ds) : Bd k n w d := ⟨gdA_all.mp h.g d hd, depA_mem hd h.dp, by have := weiA_mem hd; have := h.wt; omega⟩
theorem BdA.tup {k n w : Nat} {ds : List PyData} (h : BdA k n w ds) : Bd k (n + 1) w (.tuple ds) := ⟨by simpa only [gd] using h.g, by have := h.dp; simp only [PyData.depth]; omega, by simpa only [PyData.weight] using h.wt⟩
theorem BdA.lst {k n w : Nat} {ds : List PyData} (h : BdA k n w ds) : Bd k (n + 1) w (.list ds) := ⟨by simpa only [gd] using h.g, by have := h.dp; simp only [PyData.depth]; omega, by simpa only [PyData.weight] using h.wt⟩
theorem Bd.itemsT {k n w : Nat} {ds : List PyData} (h : Bd k n w (.tuple ds)) : 1 ≤ n ∧ BdA k (n - 1) w ds := by
  have := h.dp
  simp only [PyData.depth] at this
  exact ⟨by omega, ⟨by simpa only [gd] using h.g, by omega, by simpa only [PyData.weight] using h.wt⟩⟩
theorem Bd.itemsL {k n w : Nat} {ds : List PyData} (h : Bd k n w (.list ds)) : 1 ≤ n ∧ BdA k (n - 1) w ds := by
  have := h.dp
  simp only [PyData.depth] at this
  exact ⟨by omega, ⟨by simpa only [gd] using h.g, by omega, by simpa only [PyData.weight] using h.wt⟩⟩
theorem weiA_app : ∀ (xs ys : List PyData), PyData.weightAll (xs ++ ys) = PyData.weightAll xs + PyData.weightAll ys
  | [], ys => by simp [PyData.weightAll]
  | x :: xs, ys => by
    simp only [List.cons_append, PyData.weightAll, weiA_app xs ys]
    omega
theorem depA_app : ∀ (xs ys : List PyData), PyData.depthAll (xs ++ ys) = max (PyData.depthAll xs) (PyData.depthAll ys)
  | [], ys => by simp [PyData.depthAll]
  | x :: xs, ys => by
    simp only [List.cons_append, PyData.depthAll, depA_app xs ys]
    omega
theorem BdA.app {k n w m v : Nat} {xs ys : List PyData} (h : BdA k n w xs) (g : BdA k m v ys) : BdA k (max n m) (w + v) (xs ++ ys) := by
  refine ⟨gdA_all.mpr fun x hx => ?_, ?_, ?_⟩
  · rcases List.mem_append.mp hx with hx | hx
    · exact gdA_all.mp h.g x hx
    · exact gdA_all.mp g.g x hx
  · have := h.dp
    have := g.dp
    rw [depA_app]
    omega
  · have := h.wt
    have := g.wt
    rw [weiA_app]
    omega
theorem BdA.one {k n w : Nat} {x : PyData} (h : Bd k n w x) : BdA k n (w + 1) [x] := ⟨by simp only [gdA, h.g]; rfl, by have := h.dp; simp only [PyData.depthAll]; omega, by have := h.wt; simp only [PyData.weightAll]; omega⟩
/-- part of the items -/
theorem BdA.part {k n w : Nat} {xs ys zs : List PyData} (h : BdA k n w (xs ++ ys ++ zs)) : BdA k n (PyData.weightAll xs) xs ∧ BdA k n (PyData.weightAll ys) ys ∧ BdA k n (PyData.weightAll zs) zs ∧ PyData.weightAll xs + PyData.weightAll ys + PyData.weightAll zs ≤ w := by
  have a := h.dp
  have b := h.wt
  rw [depA_app, depA_app] at a
  rw [weiA_app, weiA_app] at b
  have c := gdA_all.mp h.g
  exact ⟨⟨gdA_all.mpr fun x hx => c x (List.mem_append_left _ (List.mem_append_left _ hx)), by omega, Nat.le_refl _⟩,
    ⟨gdA_all.mpr fun x hx => c x (List.mem_append_left _ (List.mem_append_right _ hx)), by omega, Nat.le_refl _⟩,
    ⟨gdA_all.mpr fun x hx => c x (List.mem_append_right _ hx), by omega, Nat.le_refl _⟩, b⟩
theorem BdA.mono {k n w m v j : Nat} {d : List PyData} (h : BdA k n w d) (c : k ≤ j) (a : n ≤ m) (b : w ≤ v) : BdA j m v d := ⟨gdA_mono c d h.g, Nat.le_trans h.dp a, Nat.le_trans h.wt b⟩
/-- repr(x) of any thing -/
def rReprX (K : PySem.W.Frag) : List V → Hp → VK → Prop := fun xs H Q => ∃ v d, xs = [v] ∧ Dp K H v d ∧ Sho d ∧ Q (.str d.shown) H
theorem cr_reprX {X : Cx} (hg : X.A.guards = some []) (hu : X.A.units + 65 < cLine) : CallR X (.builtin "repr") (rReprX X.K) := by
  intro pins s σ H vs us Q I r h
  obtain ⟨v, d, rfl, hd, sh, q⟩ := h
  cases hd with
  | non =>
    obtain ⟨u, rfl, r1⟩ := vals1 r
    cases r1
    exact PySem.P.repr_of_none ⟨.str _, H, I.tok _, ⟨_, rfl⟩, q⟩
  | bl b =>
    obtain ⟨u, rfl, r1⟩ := vals1 r
    cases r1
    exact PySem.P.repr_of_bool ⟨.str _, H, I.tok _, ⟨_, rfl⟩, by cases b <;> exact q⟩
  | int i =>
    obtain ⟨u, rfl, t, rfl⟩ := vals1 r
    have hs := sh.s
    simp only [PyData.showable] at hs
    exact PySem.P.repr_of_int (of_decide_eq_true hs) ⟨.str _, H, I.tok _, ⟨_, rfl⟩, q⟩
  | str z =>
    obtain ⟨u, rfl, t, rfl⟩ := vals1 r
    exact PySem.P.repr_of_str ⟨.str _, H, I.tok _, ⟨_, rfl⟩, q⟩ sh.len
  | lst h1 h2 => exact cr_repr hg hu pins s σ H _ us Q I r ⟨_, _, rfl, .lst h1 h2, sh, q⟩
  | tup h1 h2 => exact cr_repr hg hu pins s σ H _ us Q I r ⟨_, _, rfl, .tup h1 h2, sh, q⟩
/-! things, standing away from some lists -/
mutual
inductive Tg (p : Addr → Prop) (H : Hp) : V → PyData → Prop
  | non : Tg p H .non .none
  | bl (b : Bool) : Tg p H (.bl b) (.bool b)
  | int (i : Int) : Tg p H (.int i) (.int i)
  | str (x : Str) : Tg p H (.str x) (.str x)
  | lst {a : Addr} {xs : List V} {ds : List PyData} : ¬ p a → H a = some (.lst xs) → TgA p H xs ds → Tg p H (.ref a) (.list ds)
  | tup {a : Addr} {xs : List V} {ds : List PyData} : ¬ p a → H a = some (.tup xs) → TgA p H xs ds → Tg p H (.ref a) (.tuple ds)
inductive TgA (p : Addr → Prop) (H : Hp) : List V → List PyData → Prop
  | nil : TgA p H [] []
  | cons {v : V} {vs : List V} {d : PyData} {ds : List PyData} : Tg p H v d → TgA p H vs ds → TgA p H (v :: vs) (d :: ds)
end
mutual
theorem Tg.to {p q : Addr → Prop} {H H' : Hp} (s : ∀ a o, ¬ p a → H a = some o → H' a = some o ∧ ¬ q a) : ∀ (d : PyData) (v : V), Tg p H v d → Tg q H' v d
  | .none, _, h => by cases h; exact .non
  | .bool b, _, h => by cases h; exact .bl b
  | .int i, _, h => by cases h; exact .int i
  | .str x, _, h => by cases h; exact .str x
  | .list ds, _, h => by
    cases h with
    | lst n e t => exact .lst (s _ _ n e).2 (s _ _ n e).1 (TgA.to s ds _ t)
  | .tuple ds, _, h => by
    cases h with
    | tup n e t => exact .tup (s _ _ n e).2 (s _ _ n e).1 (TgA.to s ds _ t)
  | .dict _, _, h => by cases h
theorem TgA.to {p q : Addr → Prop} {H H' : Hp} (s : ∀ a o, ¬ p a → H a = some o → H' a = some o ∧ ¬ q a) : ∀ (ds : List PyData) (vs : List V), TgA p H vs ds → TgA q H' vs ds
  | [], _, h => by cases h; exact .nil
  | d :: ds, _, h => by
    cases h with
    | cons a b => exact .cons (Tg.to s d _ a) (TgA.to s ds _ b)
end
theorem Tg.keep {p : Addr → Prop} {H H' : Hp} {v : V} {d : PyData} (h : Tg p H v d) (s : ∀ a o, ¬ p a → H a = some o → H' a = some o) : Tg p H' v d := h.to fun a o n e => ⟨s a o n e, n⟩
theorem TgA.keep {p : Addr → Prop} {H H' : Hp} {v : List V} {d : List PyData} (h : TgA p H v d) (s : ∀ a o, ¬ p a → H a = some o → H' a = some o) : TgA p H' v d := h.to fun a o n e => ⟨s a o n e, n⟩
theorem Tg.but {l : Addr} {H H' : Hp} {v : V} {d : PyData} (h : Tg (· = l) H v d) (s : But l H H') : Tg (· = l) H' v d := h.keep s
theorem Tg.same {p : Addr → Prop} {H H' : Hp} {v : V} {d : PyData} (h : Tg p H v d) (s : Same H H') : Tg p H' v d := h.keep fun a o _ e => s a o e
theorem TgA.same {p : Addr → Prop} {H H' : Hp} {v : List V} {d : List PyData} (h : TgA p H v d) (s : Same H H') : TgA p H' v d := h.keep fun a o _ e => s a o e
theorem TgA.but {l : Addr} {H H' : Hp} {v : List V} {d : List PyData} (h : TgA (· = l) H v d) (s : But l H H') : TgA (· = l) H' v d := h.keep s
/-- away from a list that is new -/
theorem Tg.new {p : Addr → Prop} {l : Addr} {H : Hp} {v : V} {d : PyData} {o : HO} (h : Tg p H v d) (n : H l = none) : Tg (· = l) (upd H l o) v d := h.to fun a x _ e => ⟨same_upd n a x e, ne_of_none e n⟩
mutual
theorem Tg.dp {K : PySem.W.Frag} {p : Addr → Prop} {H : Hp} : ∀ (d : PyData) (v : V), Tg p H v d → Dp K H v d
  | .none, _, h => by cases h; exact .non
  | .bool b, _, h => by cases h; exact .bl b
  | .int i, _, h => by cases h; exact .int i
  | .str x, _, h => by cases h; exact .str x
  | .list ds, _, h => by
    cases h with
    | lst n e t => exact .lst (SqL.mk e) (TgA.dp ds _ t)
  | .tuple ds, _, h => by
    cases h with
    | tup n e t => exact .tup (SqT.mk e) (TgA.dp ds _ t)
  | .dict _, _, h => by cases h
theorem TgA.dp {K : PySem.W.Frag} {p : Addr → Prop} {H : Hp} : ∀ (ds : List PyData) (vs : List V), TgA p H vs ds → DpAll K H vs ds
  | [], _, h => by cases h; exact .nil
  | d :: ds, _, h => by
    cases h with
    | cons a b => exact .cons (Tg.dp d _ a) (TgA.dp ds _ b)
end
theorem TgA.len {p : Addr → Prop} {H : Hp} : ∀ {ds : List PyData} {vs : List V}, TgA p H vs ds → vs.length = ds.length
  | [], _, h => by cases h; rfl
  | d :: ds, _, h => by
    cases h with
    | cons a b => rw [List.length_cons, List.length_cons, TgA.len b]
theorem TgA.get {p : Addr → Prop} {H : Hp} : ∀ {ds : List PyData} {vs : List V}, TgA p H vs ds → ∀ {i : Nat} {v : V}, vs[i]? = some v → ∃ d, ds[i]? = some d ∧ Tg p H v d
  | [], _, h, i, v, e => by cases h; cases e
  | d :: ds, _, h, i, v, e => by
    cases h with
    | cons a b =>
      cases i with
      | zero => cases e; exact ⟨d, rfl, a⟩
      | succ i => exact TgA.get b (by simpa using e)
theorem TgA.app {p : Addr → Prop} {H : Hp} {ds es : List PyData} {vs us : List V} (h : TgA p H vs ds) (g : TgA p H us es) : TgA p H (vs ++ us) (ds ++ es) := by
  induction ds generalizing vs with
  | nil => cases h; exact g
  | cons d ds ih =>
    cases h with
    | cons a b => exact .cons a (ih b)
theorem TgA.split {p : Addr → Prop} {H : Hp} : ∀ {ds : List PyData} {vs : List V}, TgA p H vs ds → ∀ i : Nat, TgA p H (vs.take i) (ds.take i) ∧ TgA p H (vs.drop i) (ds.drop i)
  | [], _, h, i => by cases h; simp only [List.take_nil, List.drop_nil]; exact ⟨.nil, .nil⟩
  | d :: ds, _, h, i => by
    cases h with
    | cons a b =>
      cases i with
      | zero => exact ⟨.nil, .cons a b⟩
      | succ i => exact ⟨.cons a (TgA.split b i).1, (TgA.split b i).2⟩
def isIntD : PyData → Bool
  | .int _ => true
  | _ => false
def isBlD : PyData → Bool
  | .bool _ => true
  | _ => false
def isStrD : PyData → Bool
  | .str _ => true
  | _ => false
def isTupD : PyData → Bool
  | .tuple _ => true
  | _ => false
def isLstD : PyData → Bool
  | .list _ => true
  | _ => false
theorem kit2 {K : PySem.W.Frag} {t : String} {a b : Bool} (h1 : kitB t "tuple" = some a) (h2 : kitB t "list" = some b) : PySem.W.kitAny K (.type t) [.type "tuple", .type "list"] = some (a || b) :=
  kitAny_cons (kit_ty h1) (fun e => by subst e; exact kitAny_cons (r := b) (kit_ty h2) (fun e => by subst e; exact kitAny_nil) (fun e => e)) (fun e => by rw [e]; rfl)
theorem Tg.ty {K : PySem.W.Frag} {p : Addr → Prop} {H : Hp} {v : V} {d : PyData} (h : Tg p H v d) : ∃ t, TyX K H v t ∧ PySem.W.kitOne K t (.type "int") = some (isIntD d || isBlD d) ∧ PySem.W.kitOne K t (.type "bool") = some (isBlD d) ∧ PySem.W.kitOne K t (.type "tuple") = some (isTupD d) ∧
    PySem.W.kitOne K t (.type "str") = some (isStrD d) ∧ PySem.W.kitAny K t [.type "tuple", .type "list"] = some (isTupD d || isLstD d) := by
  cases h with
  | non => exact ⟨_, .base .non, kit_ty (by show _ = some false; decide +kernel), kit_ty (by show _ = some false; decide +kernel), kit_ty (by show _ = some false; decide +kernel), kit_ty (by show _ = some false; decide +kernel), kit2 (a := false) (b := false) (by decide +kernel) (by decide +kernel)⟩
  | bl b => exact ⟨_, .base (.bl b), kit_ty (by show _ = some true; decide +kernel), kit_ty (by show _ = some true; decide +kernel), kit_ty (by show _ = some false; decide +kernel), kit_ty (by show _ = some false; decide +kernel), kit2 (a := false) (b := false) (by decide +kernel) (by decide +kernel)⟩
  | int b => exact ⟨_, .base (.int b), kit_ty (by show _ = some true; decide +kernel), kit_ty (by show _ = some false; decide +kernel), kit_ty (by show _ = some false; decide +kernel), kit_ty (by show _ = some false; decide +kernel), kit2 (a := false) (b := false) (by decide +kernel) (by decide +kernel)⟩
  | str b => exact ⟨_, .base (.str b), kit_ty (by show _ = some false; decide +kernel), kit_ty (by show _ = some false; decide +kernel), kit_ty (by show _ = some false; decide +kernel), kit_ty (by show _ = some true; decide +kernel), kit2 (a := false) (b := false) (by decide +kernel) (by decide +kernel)⟩
  | lst ne h => exact ⟨_, .base (.lst h), kit_ty (by show _ = some false; decide +kernel), kit_ty (by show _ = some false; decide +kernel), kit_ty (by show _ = some false; decide +kernel), kit_ty (by show _ = some false; decide +kernel), kit2 (a := false) (b := true) (by decide +kernel) (by decide +kernel)⟩
  | tup ne h => exact ⟨_, .base (.tup h), kit_ty (by show _ = some false; decide +kernel), kit_ty (by show _ = some false; decide +kernel), kit_ty (by show _ = some true; decide +kernel), kit_ty (by show _ = some false; decide +kernel), kit2 (a := true) (b := false) (by decide +kernel) (by decide +kernel)⟩
/-! a tuple so many times -/
theorem tuple_once (l : Addr) (items : Array Value) (n : Nat) (dd : Option Addr) (sl : Array (Option Value)) (u : Tok) :
    Meets (Builtin.«tuple.__mul__» ⟨[.ref l, .int 1 u], []⟩) (fun _ R s => s.heap.get? l = some { cls := .type "tuple", dict := dd, data := .seq items n, slots := sl } ∧ R (.ok (.ret (Value.ref l))) { s with toks := s.toks }) :=
  .of_wp fun prog w A R s h => by
    obtain ⟨hp, g, d, tk, os⟩ := s
    obtain ⟨hl, h⟩ := h
    have f1 := AutoSeq1.idx_int
    have c1 : (items.isEmpty || (1 : Int) == 1) = true := by simp
    wp_walk using wpAny_loadPart' hl
    repeat (first
      | (refine wpAny_ite_true (decide_eq_true c1) ?_; wp_walk using wpAny_loadPart' hl)
      | (refine wpAny_ite_false (decide_eq_false (by decide)) ?_; wp_walk using wpAny_loadPart' hl))
    exact ⟨_, rfl, h⟩
def rRepA (K : PySem.W.Frag) : R2 := fun x y H Q => ∃ (l : Addr) (k : Nat) (xs : List V), x = .ref l ∧ y = .int (k : Nat) ∧ SqT K H l xs ∧ xs ≠ [] ∧ 1 ≤ k ∧ xs.length * k ≤ 1000000 ∧ (k = 1 → Q (.ref l) H) ∧
  (2 ≤ k → ∀ p, H p = none → Q (.ref p) (upd H p (.tup (List.replicate k xs).flatten)))
theorem op_repA {X : Cx} : OpR X (binaryOp .Mult) (rRepA X.K) := by
  intro pins s σ H x y v u Q I rx ry h
  obtain ⟨l, k, xs, rfl, rfl, hT, hne, h1, hz, q1, q2⟩ := h
  cases rx
  obtain ⟨t, rfl⟩ := ry
  obtain ⟨its, r, ⟨⟨cls, dd, data, sl⟩, ho, hc, n, hd⟩, hs⟩ := I.tuple hT
  simp only at hc hd
  subst hc hd
  have lx : 0 < xs.length := List.length_pos_iff.mpr hne
  have le : its.length = xs.length := r.length.symm
  have ke : k * xs.length ≤ 1000000 := by
    rw [Nat.mul_comm]
    exact hz
  have kl : k ≤ 1000000 := Nat.le_trans (Nat.le_mul_of_pos_right k lx) ke
  have ne : its.toArray.isEmpty = false := by
    cases its with
    | nil =>
      rw [← le] at lx
      cases lx
    | cons a b => rfl
  by_cases k1 : k = 1
  · subst k1
    refine wpAny_binaryOp_repeat_ref (T := "tuple") (U := "int") (by decide) ⟨_, ho, rfl⟩ (fun s' => typeIs_int s' _ t) noFill_tuple_mul F.fills_int_mul F.slot_int_rmul repeat_tuple F.slot_int_index.lookup
      (call_meets F.slot_int_rmul (typeIs_int s _ t) F.entry_int_rmul (F.args_int_rmul_2 _ _) (int_rmul_tuple _ t l its.toArray n dd sl)
        ⟨ho, rfl, ⟨_, ho, rfl⟩, call_meets F.slot_tuple_mul ⟨_, ho, rfl⟩ F.entry_tuple_mul (F.args_tuple_mul_2 _ _) (tuple_once l its.toArray n dd sl t) ⟨ho, ?_⟩⟩)
    exact ⟨.ref l, H, I, rfl, q1 rfl⟩
  · have k2 : 2 ≤ k := by omega
    have sz : its.toArray.size = xs.length := by rw [List.size_toArray, le]
    have pr : ((its.toArray.size : Nat) : Int) * (k : Int) ≤ 1000000 := by
      rw [sz, ← Int.natCast_mul]
      omega
    have fl : (List.replicate k its).flatten.length ≤ sizeLine := by
      rw [PyProof.Rows.lm_len_rep_flat, le, sizeLine_eq]
      omega
    have d0 : (decide ((k : Int) < -(2 ^ 63)) || decide ((k : Int) ≥ 2 ^ 63)) = false := by
      rw [decide_eq_false (show ¬ (k : Int) < -(2 ^ 63) by omega), decide_eq_false (show ¬ (k : Int) ≥ 2 ^ 63 by omega)] <;> rfl
    have d1 : (its.toArray.isEmpty || (k : Int) == 1) = false := by
      rw [ne, Bool.false_or]
      exact beq_eq_false_iff_ne.mpr (by omega)
    have d2 : (decide ((k : Int) ≤ 0) || its.toArray.isEmpty) = false := by
      rw [ne, Bool.or_false]
      exact decide_eq_false (by omega)
    have d4 : Builtin.Tuple.tupleTooMany (((its.toArray.size : Nat) : Int) * (k : Int)) = false := by
      unfold Builtin.Tuple.tupleTooMany
      rw [sizeLine_eq]
      exact decide_eq_false (by omega)
    refine wpAny_binaryOp_repeat_ref (T := "tuple") (U := "int") (by decide) ⟨_, ho, rfl⟩ (fun s' => typeIs_int s' _ t) noFill_tuple_mul F.fills_int_mul F.slot_int_rmul repeat_tuple F.slot_int_index.lookup
      (call_meets F.slot_int_rmul (typeIs_int s _ t) F.entry_int_rmul (F.args_int_rmul_2 _ _) (int_rmul_tuple _ t l its.toArray n dd sl)
        ⟨ho, rfl, ⟨_, ho, rfl⟩, call_meets F.slot_tuple_mul ⟨_, ho, rfl⟩ F.entry_tuple_mul (F.args_tuple_mul_2 _ _) (tuple_mulW l its.toArray n dd sl (k : Int) t d0 d1 d2 (by omega) d4 (by rw [Int.toNat_natCast, size_rep, List.size_toArray]; exact fl)) ⟨ho, ?_⟩⟩)
    rw [Int.toNat_natCast, size_rep]
    refine ⟨.ref s.heap.objs.size, _, I.laid (t' := s.toks) (o := .tup (List.replicate k xs).flatten) (fun b ob q => Heap.get?_push_of_some _ q) (Nat.le_refl _) ⟨?_, _, r.rep k, IsTup.new _ _⟩, rfl, q2 k2 _ (I.hok.fresh (Nat.le_refl _))⟩
    rw [PyProof.Rows.lm_len_rep_flat, sizeLine_eq]
    omega
/-! the law's own rows -/
def Bits (rs : List Int) : Prop := ∀ x, x ∈ rs → x = 0 ∨ x = 1
theorem Bits.snoc {rs : List Int} {x : Int} (h : Bits rs) (hx : x = 0 ∨ x = 1) : Bits (rs ++ [x]) := fun y hy => by
  rcases List.mem_append.mp hy with hy | hy
  · exact h y hy
  · rw [List.mem_singleton] at hy
    rw [hy]
    exact hx
theorem but_newer {p q : Addr} {H H' : Hp} {o : HO} (a : But p H H') (n : H q = none) : But p H (upd H' q o) := fun c x hn e => by
  rw [upd_ne (ne_of_none e n)]
  exact a c x hn e
theorem Bx.other {H : Hp} {p q : Addr} {n : Nat} {o : HO} (h : Bx H p n) (nq : q ≠ p) : Bx (L2.upd H q o) p n := by
  obtain ⟨a, b, c, hp, r⟩ := h
  exact ⟨a, b, c, by rw [upd_ne (Ne.symm nq)]; exact hp, r⟩
def PV (p D : Addr) (HX : Hp) (k i : Nat) (H1 : Hp) : Prop := ∃ rs : List Int, rs.length = i ∧ Bits rs ∧ But p HX H1 ∧ Bx H1 p (k + i) ∧ H1 D = some (.lst (rs.map V.int))
theorem pv_start {p D : Addr} {HX : Hp} {k : Nat} (nD : HX D = none) (B : Bx HX p k) : PV p D HX k 0 (upd HX D (.lst [])) := ⟨[], rfl, fun _ h => (by cases h), (But.refl p HX).new nD, B.new nD, upd_same⟩
theorem pv_step {p D : Addr} {HX H1 H4 : Hp} {k i : Nat} {x : Int} (nD : HX D = none) (Dp : D ≠ p) (h : PV p D HX k i H1) (b : But p H1 H4) (B : Bx H4 p (k + (i + 1))) (hi : i < 100000) (hx : x = 0 ∨ x = 1) :
    ∃ acc, H4 D = some (.lst acc) ∧ acc.length < sizeLine ∧ PV p D HX k (i + 1) (upd H4 D (.lst (acc ++ [.int x]))) := by
  obtain ⟨rs, hl, hb, b1, _, hD⟩ := h
  have hsl : sizeLine = 16777216 := by decide
  refine ⟨_, b _ _ Dp hD, by rw [List.length_map]; omega, rs ++ [x], by rw [List.length_append, hl]; rfl, hb.snoc hx, but_newer (b1.trans b) nD, B.other Dp, ?_⟩
  rw [upd_same, List.map_append]
  rfl
theorem rep_one (m : Nat) (x : Int) : (List.replicate m [V.int x]).flatten = (List.replicate m x).map V.int := by
  rw [List.map_replicate]
  induction m with
  | zero => rfl
  | succ m ih => rw [List.replicate_succ, List.flatten_cons, ih, List.replicate_succ]; rfl
/-! a tuple no times, too -/
theorem tuple_nought (l : Addr) (items : Array Value) (n : Nat) (dd : Option Addr) (sl : Array (Option Value)) (u : Tok) (hi : items.isEmpty = false) :
    Meets (Builtin.«tuple.__mul__» ⟨[.ref l, .int 0 u], []⟩) (fun _ R s => s.heap.get? l = some { cls := .type "tuple", dict := dd, data := .seq items n, slots := sl } ∧ R (.ok (.ret (Value.ref s.heap.objs.size))) { s with heap := s.heap.push { cls := Value.type "tuple", data := Data.seq #[] }, toks := s.toks }) :=
  .of_wp fun prog w A R s h => by
    obtain ⟨hp, g, d, tk, os⟩ := s
    obtain ⟨hl, h⟩ := h
    have f1 := AutoSeq1.idx_int
    have c1 : (items.isEmpty || (0 : Int) == 1) = false := by rw [hi]; rfl
    have c2 : (decide ((0 : Int) ≤ 0) || items.isEmpty) = true := by simp
    wp_walk using wpAny_loadPart' hl
    repeat (first
      | (refine wpAny_ite_false (decide_eq_false (by rw [c1]; exact Bool.false_ne_true)) ?_; wp_walk using wpAny_loadPart' hl)
      | (refine wpAny_ite_true (decide_eq_true c2) ?_; wp_walk using wpAny_loadPart' hl)
      | (refine wpAny_ite_false (decide_eq_false (by decide)) ?_; wp_walk using wpAny_loadPart' hl))
    exact ⟨_, rfl, h⟩
def rRepB (K : PySem.W.Frag) : R2 := fun x y H Q => ∃ (l : Addr) (k : Nat) (xs : List V), x = .ref l ∧ y = .int (k : Nat) ∧ SqT K H l xs ∧ xs ≠ [] ∧ xs.length * k ≤ 1000000 ∧ (k = 1 → Q (.ref l) H) ∧
  (k ≠ 1 → ∀ p, H p = none → Q (.ref p) (upd H p (.tup (List.replicate k xs).flatten)))
theorem op_repB {X : Cx} : OpR X (binaryOp .Mult) (rRepB X.K) := by
  intro pins s σ H x y v u Q I rx ry h
  obtain ⟨l, k, xs, rfl, rfl, hT, hne, hz, q1, q2⟩ := h
  by_cases k0 : k = 0
  · subst k0
    cases rx
    obtain ⟨t, rfl⟩ := ry
    obtain ⟨its, r, ⟨⟨cls, dd, data, sl⟩, ho, hc, n, hd⟩, hs⟩ := I.tuple hT
    simp only at hc hd
    subst hc hd
    have le : its.length = xs.length := r.length.symm
    have ne : its.toArray.isEmpty = false := by
      cases its with
      | nil => exact absurd (List.eq_nil_of_length_eq_zero le.symm) hne
      | cons a b => rfl
    refine wpAny_binaryOp_repeat_ref (T := "tuple") (U := "int") (by decide) ⟨_, ho, rfl⟩ (fun s' => typeIs_int s' _ t) noFill_tuple_mul F.fills_int_mul F.slot_int_rmul repeat_tuple F.slot_int_index.lookup
      (call_meets F.slot_int_rmul (typeIs_int s _ t) F.entry_int_rmul (F.args_int_rmul_2 _ _) (int_rmul_tuple _ t l its.toArray n dd sl)
        ⟨ho, rfl, ⟨_, ho, rfl⟩, call_meets F.slot_tuple_mul ⟨_, ho, rfl⟩ F.entry_tuple_mul (F.args_tuple_mul_2 _ _) (tuple_nought l its.toArray n dd sl t ne) ⟨ho, ?_⟩⟩)
    exact ⟨.ref s.heap.objs.size, _, I.laid (t' := s.toks) (o := .tup []) (fun b ob q => Heap.get?_push_of_some _ q) (Nat.le_refl _) ⟨Nat.zero_le _, [], .nil, IsTup.new _ _⟩, rfl, q2 (by decide) _ (I.hok.fresh (Nat.le_refl _))⟩
  · exact op_repA pins s σ H _ _ v u Q I rx ry ⟨l, k, xs, rfl, rfl, hT, hne, by omega, hz, q1, fun z => q2 (by omega)⟩
/-- (x,) so many times -/
theorem rep_go {K : PySem.W.Frag} {H : Hp} {t : Addr} {x v : Int} {k : Nat} {Q : VK} (hv : v = (k : Nat)) (ht : H t = some (.tup [.int x])) (hk : k ≤ 100000) (q : ∀ H' p, Same H H' → H' p = some (.tup ((List.replicate k x).map V.int)) → Q (.ref p) H') : rRepB K (.ref t) (.int v) H Q := by
  subst hv
  refine ⟨t, k, _, rfl, rfl, SqT.mk ht, by simp, (show 1 * k ≤ 1000000 by omega), fun z => ?_, fun z p np => ?_⟩
  · subst z
    exact q H t (Same.refl H) ht
  · exact q _ p (same_upd np) (by rw [upd_same, rep_one])
theorem cat_go {K : PySem.W.Frag} {H : Hp} {a b : Addr} {rs ss : List Int} {Q : VK} (ha : H a = some (.tup (rs.map V.int))) (hb : H b = some (.tup (ss.map V.int))) (hl : rs.length + ss.length ≤ 100000)
    (q : ∀ H' p, Same H H' → H' p = some (.tup ((rs ++ ss).map V.int)) → Q (.ref p) H') : rCatA K (.ref a) (.ref b) H Q := by
  have hsl : sizeLine = 16777216 := by decide
  refine ⟨a, b, _, _, rfl, rfl, SqT.mk ha, SqT.mk hb, by rw [List.length_map, List.length_map]; omega, fun z => ?_, fun _ z => ?_, fun _ _ p np => ?_⟩
  · rw [List.map_eq_nil_iff.mp z] at q
    exact q H b (Same.refl H) hb
  · rw [List.map_eq_nil_iff.mp z] at q
    exact q H a (Same.refl H) (by rw [List.append_nil]; exact ha)
  · exact q _ p (same_upd np) (by rw [upd_same, List.map_append])
theorem catK {X : Cx} {K : PySem.W.Frag} (h : X.K = K) : OpR X (binaryOp .Add) (rCatA K) := by
  subst h
  exact op_catA
theorem zipAK {X : Cx} {K : PySem.W.Frag} {e e2 : Expr} {ta : TA} {p pos tpos : Pos} {elts : List Expr} {kk : Nat} (h : X.K = K) (hg : Gl X "zip") (hm : X.mg "zip" = none) (ha : PA X [e, e2] ta)
    (hs : starEach [e, e2] X.env = (false, eval e X.env) :: starEach [e2] X.env := by rfl) (hpl : (backTo pos (starEach [e2] X.env)).any (·.1) = false := by rfl) :
    PI X (.Tuple elts kk tpos) (.Call (.Name "zip" p) [e, e2] [] pos) (RZ.iZipA K ta) := by
  subst h
  exact RZ.pi_zipA hg hm ha hs hpl
def sp_is_number (K : PySem.W.Frag) : Sp := fun vs H Q _ => ∃ (p : Addr → Prop) (x : V) (d : PyData), vs = [x] ∧ Tg p H x d ∧ Q (.bl (isIntD d)) H
def withinD (d : PyData) (lo hi : Int) : Bool := match d with
  | .int i => decide (lo ≤ i ∧ i ≤ hi)
  | _ => false
def sp_is_within (K : PySem.W.Frag) : Sp := fun vs H Q _ => ∃ (p : Addr → Prop) (x : V) (d : PyData) (lo hi : Int), vs = [x, .int lo, .int hi] ∧ Tg p H x d ∧ Q (.bl (withinD d lo hi)) H
/-! tuples joined, cut, repeated: one way on -/
def rCatS (_ : PySem.W.Frag) : R2 := fun x y H Q => ∃ a b xs ys, x = .ref a ∧ y = .ref b ∧ H a = some (.tup xs) ∧ H b = some (.tup ys) ∧ xs.length + ys.length ≤ sizeLine ∧ ∀ G c, Same H G → G c = some (.tup (xs ++ ys)) → Q (.ref c) G
theorem op_catS {X : Cx} : OpR X (binaryOp .Add) (rCatS X.K) := by
  intro pins s σ H x y v u Q I rx ry h
  obtain ⟨a, b, xs, ys, rfl, rfl, ha, hb, hz, q⟩ := h
  refine op_catA pins s σ H _ _ v u Q I rx ry ⟨a, b, xs, ys, rfl, rfl, SqT.mk ha, SqT.mk hb, hz, fun e => ?_, fun _ e => ?_, fun _ _ p np => ?_⟩
  · subst e
    exact q H b (Same.refl H) hb
  · subst e
    exact q H a (Same.refl H) (by rw [List.append_nil]; exact ha)
  · exact q _ p (same_upd np) upd_same
def rSlS (_ : PySem.W.Frag) : V → Option Int → Option Int → Hp → VK → Prop := fun x lo hi H Q => ∃ a xs, x = .ref a ∧ H a = some (.tup xs) ∧ ∀ G c, Same H G → G c = some (.tup (cutV xs lo hi)) → Q (.ref c) G
theorem sl_tupS {X : Cx} : SlR X (rSlS X.K) := by
  intro pins s σ H x v vl vu lo hi sl Q I rx hs pl pu h
  obtain ⟨a, xs, rfl, ha, q⟩ := h
  refine sl_tupA pins s σ H _ v vl vu lo hi sl Q I rx hs pl pu ⟨a, xs, rfl, SqT.mk ha, fun e => ?_, fun _ p np => ?_⟩
  · refine q H a (Same.refl H) ?_
    unfold cutV
    rw [e.1, e.2, List.drop_zero, Nat.sub_zero, List.take_length]
    exact ha
  · exact q _ p (same_upd np) upd_same
def rRepS (_ : PySem.W.Frag) : R2 := fun x y H Q => ∃ (l : Addr) (k : Nat) (v : V), x = .ref l ∧ y = .int (k : Nat) ∧ H l = some (.tup [v]) ∧ k ≤ 1000000 ∧ ∀ G c, Same H G → G c = some (.tup (List.replicate k v)) → Q (.ref c) G
theorem rep_flat {α : Type} (v : α) : ∀ k : Nat, (List.replicate k [v]).flatten = List.replicate k v
  | 0 => rfl
  | k + 1 => by rw [List.replicate_succ, List.flatten_cons, rep_flat v k, List.replicate_succ]; rfl
theorem op_repS {X : Cx} : OpR X (binaryOp .Mult) (rRepS X.K) := by
  intro pins s σ H x y v u Q I rx ry h
  obtain ⟨l, k, z, rfl, rfl, hl, hk, q⟩ := h
  refine op_repB pins s σ H _ _ v u Q I rx ry ⟨l, k, [z], rfl, rfl, SqT.mk hl, by simp, by simpa using hk, fun e => ?_, fun _ p np => ?_⟩
  · refine q H l (Same.refl H) ?_
    rw [e]
    exact hl
  · refine q _ p (same_upd np) ?_
    rw [rep_flat]
    exact upd_same
theorem cut_lo (xs : List V) (m : Nat) (h : m ≤ xs.length) : cutV xs none (some (m : Nat)) = xs.take m := by
  unfold cutV
  show (xs.drop 0).take _ = _
  rw [HT.sIx_nat, List.drop_zero, show HT.sIx xs.length 0 none = 0 from rfl, Nat.sub_zero, Nat.min_eq_left h]
theorem cut_hi (xs : List V) (m : Nat) : cutV xs (some (m : Nat)) none = xs.drop m := by
  unfold cutV
  rw [HT.sIx_nat, show HT.sIx xs.length xs.length none = xs.length from rfl]
  by_cases h : m ≤ xs.length
  · rw [Nat.min_eq_left h]
    exact List.take_of_length_le (by rw [List.length_drop]; exact Nat.le_refl _)
  · rw [Nat.min_eq_right (by omega), List.drop_of_length_le (Nat.le_refl _), List.drop_of_length_le (by omega), List.take_nil]
/-! str(x) of any thing -/
def strD (d : PyData) : Str := match d with
  | .str z => z
  | d => d.shown
def rStrX (K : PySem.W.Frag) : List V → Hp → VK → Prop := fun xs H Q => ∃ v d, xs = [v] ∧ Dp K H v d ∧ ((∃ z, d = .str z) ∨ Sho d) ∧ Q (.str (strD d)) H
theorem u70g {k : Nat} {A : Around} (r : Room k A) : A.units + 70 < cLine := by
  have := r.un
  omega
theorem call_strX {X : Cx} (hg : X.A.guards = some []) (hu : X.A.units + 70 < cLine) : CallR X (.type "str") (rStrX X.K) := by
  intro pins s σ H vs us Q I r h
  obtain ⟨v, d, rfl, hd, sh, q⟩ := h
  cases hd with
  | non =>
    obtain ⟨u, rfl, r1⟩ := vals1 r
    cases r1
    exact PySem.P.str_of_none ⟨.str _, H, I.tok _, ⟨_, rfl⟩, q⟩
  | bl b =>
    obtain ⟨u, rfl, r1⟩ := vals1 r
    cases r1
    exact PySem.P.str_of_bool ⟨.str _, H, I.tok _, ⟨_, rfl⟩, by cases b <;> exact q⟩
  | int i =>
    obtain ⟨u, rfl, t, rfl⟩ := vals1 r
    rcases sh with ⟨z, e⟩ | sh
    · cases e
    have hs := sh.s
    simp only [PyData.showable] at hs
    exact PySem.P.str_of_int (of_decide_eq_true hs) ⟨.str _, H, I.tok _, ⟨_, rfl⟩, q⟩
  | str z =>
    obtain ⟨u, rfl, t, rfl⟩ := vals1 r
    exact PySem.P.str_of_str ⟨.str _, H, I, ⟨_, rfl⟩, q⟩
  | lst h1 h2 =>
    rcases sh with ⟨z, e⟩ | sh
    · cases e
    obtain ⟨shs, nd, dd, sz⟩ := sh
    rw [Vals.ref1 r]
    obtain ⟨as, rd⟩ := Dp.reads I _ (.ref _) (.ref _) (Dp.lst h1 h2) rfl
    refine str_of_reads rd shs (fun z => by rw [nd] at z; cases z) hg (by omega) (fun _ _ e => e) (fun h' u tk hk => ?_) sz
    exact ⟨.str _, H, I.kept (t' := tk) hk, ⟨_, rfl⟩, q⟩
  | tup h1 h2 =>
    rcases sh with ⟨z, e⟩ | sh
    · cases e
    obtain ⟨shs, nd, dd, sz⟩ := sh
    rw [Vals.ref1 r]
    obtain ⟨as, rd⟩ := Dp.reads I _ (.ref _) (.ref _) (Dp.tup h1 h2) rfl
    refine str_of_reads rd shs (fun z => by rw [nd] at z; cases z) hg (by omega) (fun _ _ e => e) (fun h' u tk hk => ?_) sz
    exact ⟨.str _, H, I.kept (t' := tk) hk, ⟨_, rfl⟩, q⟩
/-! things with tables about -/
mutual
theorem Tg.kp {p q : Addr → Prop} {H H' : Hp} (s1 : ∀ a xs, ¬ p a → H a = some (.lst xs) → H' a = some (.lst xs) ∧ ¬ q a) (s2 : ∀ a xs, ¬ p a → H a = some (.tup xs) → H' a = some (.tup xs) ∧ ¬ q a) : ∀ (d : PyData) (v : V), Tg p H v d → Tg q H' v d
  | .none, _, h => by cases h; exact .non
  | .bool b, _, h => by cases h; exact .bl b
  | .int i, _, h => by cases h; exact .int i
  | .str x, _, h => by cases h; exact .str x
  | .list ds, _, h => by
    cases h with
    | lst n e t => exact .lst (s1 _ _ n e).2 (s1 _ _ n e).1 (TgA.kp s1 s2 ds _ t)
  | .tuple ds, _, h => by
    cases h with
    | tup n e t => exact .tup (s2 _ _ n e).2 (s2 _ _ n e).1 (TgA.kp s1 s2 ds _ t)
  | .dict _, _, h => by cases h
theorem TgA.kp {p q : Addr → Prop} {H H' : Hp} (s1 : ∀ a xs, ¬ p a → H a = some (.lst xs) → H' a = some (.lst xs) ∧ ¬ q a) (s2 : ∀ a xs, ¬ p a → H a = some (.tup xs) → H' a = some (.tup xs) ∧ ¬ q a) : ∀ (ds : List PyData) (vs : List V), TgA p H vs ds → TgA q H' vs ds
  | [], _, h => by cases h; exact .nil
  | d :: ds, _, h => by
    cases h with
    | cons a b => exact .cons (Tg.kp s1 s2 d _ a) (TgA.kp s1 s2 ds _ b)
end
theorem Tg.sam {p : Addr → Prop} {H H' : Hp} {v : V} {d : PyData} (h : Tg p H v d) (s : Sam H H') : Tg p H' v d := h.kp (fun a xs n e => ⟨s.lst e, n⟩) (fun a xs n e => ⟨s.tup e, n⟩)
theorem TgA.sam {p : Addr → Prop} {H H' : Hp} {v : List V} {d : List PyData} (h : TgA p H v d) (s : Sam H H') : TgA p H' v d := h.kp (fun a xs n e => ⟨s.lst e, n⟩) (fun a xs n e => ⟨s.tup e, n⟩)
theorem tg_ints {p : Addr → Prop} {H : Hp} : ∀ rs : List Int, TgA p H (rs.map V.int) (rs.map PyData.int)
  | [] => .nil
  | x :: rs => .cons (.int x) (tg_ints rs)
/-! texts and numbers -/
theorem op_addS {X : Cx} : OpR X (binaryOp .Add) (fun x y H Q => ∃ a b, x = .str a ∧ y = .str b ∧ a.length + b.length ≤ sizeLine ∧ Q (.str (a ++ b)) H) := by
  intro pins s σ H x y v u Q I rx ry h
  obtain ⟨a, b, rfl, rfl, hz, q⟩ := h
  obtain ⟨t, rfl⟩ := rx
  obtain ⟨t', rfl⟩ := ry
  exact add_str (fun t' tk => ⟨.str _, H, I.tok _, ⟨_, rfl⟩, q⟩) hz
theorem op_mulS {X : Cx} : OpR X (binaryOp .Mult) (fun x y H Q => ∃ a i, x = .str a ∧ y = .int i ∧ (i = 0 ∨ i = 1) ∧ ∀ b, (b = Str.empty ∨ b = a) → Q (.str b) H) := by
  intro pins s σ H x y v u Q I rx ry h
  obtain ⟨a, i, rfl, rfl, h, q⟩ := h
  obtain ⟨t, rfl⟩ := rx
  obtain ⟨t', rfl⟩ := ry
  rcases h with rfl | rfl
  · exact PySem.P.mul_str_none (by decide) (by decide) ⟨.str _, H, I.tok _, ⟨_, rfl⟩, q _ (.inl rfl)⟩
  · refine PySem.P.mul_str (by decide) (fun _ h => ?_) (fun _ h => ?_) ?_
    · simp at h
    · simp at h
    · rw [if_neg (by decide), if_pos (by rfl)]
      exact ⟨.str _, H, I, ⟨_, rfl⟩, q _ (.inr rfl)⟩
def numV (v : V) (i : Int) : Prop := v = .int i ∨ ∃ b, v = .bl b ∧ i = if b = true then 1 else 0
theorem op_addN1 {X : Cx} : OpR X (binaryOp .Add) (fun x y H Q => ∃ i j, numV x i ∧ y = .int j ∧ Q (.int (i + j)) H) := by
  intro pins s σ H x y v u Q I rx ry h
  obtain ⟨i, j, hx, rfl, q⟩ := h
  obtain ⟨t', rfl⟩ := ry
  rcases hx with rfl | ⟨b, rfl, rfl⟩
  · obtain ⟨t, rfl⟩ := rx
    exact add_int ⟨.int _, H, I.tok _, ⟨_, rfl⟩, q⟩
  · cases rx
    exact PySem.IntBool.add_bool_int ⟨.int _, H, I.tok _, ⟨_, rfl⟩, q⟩
theorem op_subN1 {X : Cx} : OpR X (binaryOp .Sub) (fun x y H Q => ∃ i j, numV x i ∧ y = .int j ∧ Q (.int (i - j)) H) := by
  intro pins s σ H x y v u Q I rx ry h
  obtain ⟨i, j, hx, rfl, q⟩ := h
  obtain ⟨t', rfl⟩ := ry
  rcases hx with rfl | ⟨b, rfl, rfl⟩
  · obtain ⟨t, rfl⟩ := rx
    exact sub_int ⟨.int _, H, I.tok _, ⟨_, rfl⟩, q⟩
  · cases rx
    exact PySem.IntBool.sub_bool_int ⟨.int _, H, I.tok _, ⟨_, rfl⟩, q⟩
theorem op_subN2 {X : Cx} : OpR X (binaryOp .Sub) (fun x y H Q => ∃ i j, x = .int i ∧ numV y j ∧ Q (.int (i - j)) H) := by
  intro pins s σ H x y v u Q I rx ry h
  obtain ⟨i, j, rfl, hy, q⟩ := h
  obtain ⟨t, rfl⟩ := rx
  rcases hy with rfl | ⟨b, rfl, rfl⟩
  · obtain ⟨t', rfl⟩ := ry
    exact sub_int ⟨.int _, H, I.tok _, ⟨_, rfl⟩, q⟩
  · cases ry
    exact PySem.IntBool.sub_int_bool ⟨.int _, H, I.tok _, ⟨_, rfl⟩, q⟩
theorem call_strN {X : Cx} : CallR X (.type "str") (fun xs H Q => ∃ x i, xs = [x] ∧ numV x i ∧ i.natAbs.log2 < 1920 ∧ ∀ z : Str, (z = Str.ofString (toString i) ∨ z = "True" ∨ z = "False") → Q (.str z) H) := by
  intro pins s σ H xs us Q I r h
  obtain ⟨x, i, rfl, hx, hz, q⟩ := h
  rcases hx with rfl | ⟨b, rfl, _⟩
  · obtain ⟨u, rfl, t, rfl⟩ := vals1 r
    exact PySem.P.str_of_int hz ⟨.str _, H, I.tok _, ⟨_, rfl⟩, q _ (.inl rfl)⟩
  · obtain ⟨u, rfl, r1⟩ := vals1 r
    cases r1
    exact PySem.P.str_of_bool ⟨.str _, H, I.tok _, ⟨_, rfl⟩, q _ (by cases b <;> simp)⟩
theorem call_lenX {X : Cx} : CallR X (.builtin "len") (fun xs H Q => (∃ z, xs = [.str z] ∧ z.length ≤ sizeLine ∧ Q (.int z.length) H) ∨ ∃ p ys, xs = [.ref p] ∧ (SqL X.K H p ys ∨ SqT X.K H p ys) ∧ Q (.int ys.length) H) := by
  intro pins s σ H xs us Q I r h
  rcases h with h | h
  · exact call_len_str pins s σ H xs us Q I r h
  · exact call_len_seq pins s σ H xs us Q I r h
/-! texts and things that are small -/
theorem ok_iff {x : Str} : PyData.strOk x = true ↔ ∀ c, c ∈ x.cps.toList → c < 0x110000 := by
  unfold PyData.strOk
  rw [Array.all_eq_true_iff_forall_mem]
  exact ⟨fun h c hc => by simpa using h c (Array.mem_toList_iff.mp hc), fun h c hc => by simpa using h c (Array.mem_toList_iff.mpr hc)⟩
theorem ok_app {a b : Str} (h : PyData.strOk a = true) (g : PyData.strOk b = true) : PyData.strOk (a ++ b) = true := by
  refine ok_iff.mpr fun c hc => ?_
  have hc : c ∈ (a.cps ++ b.cps).toList := hc
  rw [Array.toList_append] at hc
  rcases List.mem_append.mp hc with hc | hc
  · exact ok_iff.mp h c hc
  · exact ok_iff.mp g c hc
theorem ok_cut {a : Str} (lo hi : Option Int) (h : PyData.strOk a = true) : PyData.strOk (cutS a lo hi) = true := by
  refine ok_iff.mpr fun c hc => ?_
  have hc : c ∈ ((a.cps.toList.drop (HT.sIx a.length 0 lo)).take (HT.sIx a.length a.length hi - HT.sIx a.length 0 lo)).toArray.toList := hc
  rw [List.toList_toArray] at hc
  exact ok_iff.mp h c (List.mem_of_mem_drop (List.mem_of_mem_take hc))
theorem ok_of (s : String) : PyData.strOk (Str.ofString s) = true := by
  refine ok_iff.mpr fun c hc => ?_
  rw [Str.ofString_eq_toList] at hc
  simp only [List.toList_toArray, List.mem_map] at hc
  obtain ⟨x, _, rfl⟩ := hc
  have := x.valid
  rcases this with h | ⟨_, h⟩
  · show x.val.toNat < _
    omega
  · exact h
theorem bd_int {k : Nat} {i : Int} (h : i.natAbs < 10 ^ k) : Bd k 0 (4 * k + 1) (.int i) := ⟨by simp only [gd]; exact decide_eq_true h, (shs_int h).dp, (shs_int h).wt⟩
theorem bd_str {k : Nat} {z : Str} (h : PyData.strOk z = true) : Bd k 0 z.length (.str z) := ⟨by simpa only [gd] using h, by simp only [PyData.depth]; decide, by simp only [PyData.weight]; exact Nat.le_refl _⟩
theorem bd_bl {k : Nat} {b : Bool} : Bd k 0 0 (.bool b) := ⟨rfl, by simp only [PyData.depth]; decide, by simp only [PyData.weight]; decide⟩
theorem bd_len {k n w : Nat} {z : Str} (h : Bd k n w (.str z)) : PyData.strOk z = true ∧ z.length ≤ w := ⟨by simpa only [gd] using h.g, by have := h.wt; simp only [PyData.weight] at this; exact this⟩
theorem pow_t {k : Nat} (h : 2 ≤ k) : 100 ≤ 10 ^ k ∧ 10 ^ (k + 1) = 10 * 10 ^ k := ⟨Nat.le_trans (by decide) (Nat.pow_le_pow_right (n := 10) (by decide) h), by rw [Nat.pow_succ]; omega⟩
/-- six numbers and texts near a number -/
theorem num_bd {k : Nat} {i : Int} {b0 : Bool} {z : Str} (hk : 2 ≤ k) (k20 : k ≤ 20) (hi : i.natAbs < 10 ^ k) (hz : z = Str.ofString (toString i) ∨ z = "True" ∨ z = "False") : ∀ d, d ∈ [PyData.int (i + 1), .int (i - 1), .bool b0, .int 6, .str z, .int (5 - i)] → Bd (k + 1) 0 100 d := by
  obtain ⟨t1, t2⟩ := pow_t hk
  have ok : PyData.strOk z = true ∧ z.length ≤ 100 := by
    rcases hz with rfl | rfl | rfl
    · refine ⟨ok_of _, ?_⟩
      rw [PySem.ofString_length]
      have := int_text_length_le10 (k := k) (by omega) hi
      omega
    · exact ⟨ok_of _, by decide +kernel⟩
    · exact ⟨ok_of _, by decide +kernel⟩
  intro d hd
  simp only [List.mem_cons, List.not_mem_nil, or_false] at hd
  rcases hd with rfl | rfl | rfl | rfl | rfl | rfl
  · exact (bd_int (by omega)).mono (Nat.le_refl _) (Nat.le_refl _) (by omega)
  · exact (bd_int (by omega)).mono (Nat.le_refl _) (Nat.le_refl _) (by omega)
  · exact bd_bl.mono (Nat.le_refl _) (Nat.le_refl _) (by omega)
  · exact (bd_int (by omega)).mono (Nat.le_refl _) (Nat.le_refl _) (by omega)
  · exact (bd_str ok.1).mono (Nat.le_refl _) (Nat.le_refl _) ok.2
  · exact (bd_int (by omega)).mono (Nat.le_refl _) (Nat.le_refl _) (by omega)
theorem ix_at {n j : Nat} (h : j < n) : ixN n (j : Int) = some j := by
  unfold ixN
  rw [if_pos (by omega), if_pos (by omega)]
  simp
theorem ix_prev {n j : Nat} (h : j < n) : ∃ m, ixN n ((j : Int) - 1) = some m ∧ m < n := by
  by_cases z : j = 0
  · subst z
    exact ⟨n - 1, by unfold ixN; rw [if_neg (by omega), if_pos (by omega)]; exact congrArg some (by omega), by omega⟩
  · exact ⟨j - 1, by rw [show (j : Int) - 1 = ((j - 1 : Nat) : Int) by omega]; exact ix_at (by omega), by omega⟩
theorem weiA_set : ∀ {ds : List PyData} {i : Nat} {d x : PyData}, ds[i]? = some d → PyData.weightAll (ds.set i x) + d.weight = PyData.weightAll ds + x.weight
  | y :: ds, 0, d, x, h => by
    cases h
    simp only [List.set_cons_zero, PyData.weightAll]
    omega
  | y :: ds, i + 1, d, x, h => by
    have := weiA_set (ds := ds) (i := i) (d := d) (x := x) (by simpa using h)
    simp only [List.set_cons_succ, PyData.weightAll]
    omega
theorem weiA_erase : ∀ (ds : List PyData) (i : Nat), PyData.weightAll (ds.eraseIdx i) ≤ PyData.weightAll ds
  | [], _ => by simp
  | y :: ds, 0 => by
    simp only [List.eraseIdx_cons_zero, PyData.weightAll]
    omega
  | y :: ds, i + 1 => by
    have := weiA_erase ds i
    simp only [List.eraseIdx_cons_succ, PyData.weightAll]
    omega
theorem BdA.of {k n w : Nat} {ds : List PyData} (h : ∀ d, d ∈ ds → gd k d = true ∧ d.depth ≤ n) (l : PyData.weightAll ds ≤ w) : BdA k n w ds := ⟨gdA_all.mpr fun d hd => (h d hd).1, depA_of ds fun d hd => (h d hd).2, l⟩
theorem BdA.each {k n w : Nat} {ds : List PyData} (h : BdA k n w ds) {d : PyData} (hd : d ∈ ds) : gd k d = true ∧ d.depth ≤ n := ⟨gdA_all.mp h.g d hd, depA_mem hd h.dp⟩
theorem BdA.erase {k n w : Nat} {ds : List PyData} (h : BdA k n w ds) (i : Nat) : BdA k n w (ds.eraseIdx i) := .of (fun _ hd => h.each (List.mem_of_mem_eraseIdx hd)) (Nat.le_trans (weiA_erase ds i) h.wt)
theorem BdA.set {k n w v : Nat} {ds : List PyData} (h : BdA k n w ds) {i : Nat} {d x : PyData} (hd : ds[i]? = some d) (g : gd k x = true) (p : x.depth ≤ n) (l : PyData.weightAll ds + x.weight ≤ v + d.weight) : BdA k n v (ds.set i x) := .of (fun y hy => by
  rcases List.mem_or_eq_of_mem_set hy with hy | rfl
  · exact h.each hy
  · exact ⟨g, p⟩) (by have := weiA_set (x := x) hd; omega)
theorem weiA_ins (ds : List PyData) (i : Nat) (x : PyData) : PyData.weightAll (ds.take i ++ [x] ++ ds.drop i) = PyData.weightAll ds + x.weight + 1 := by
  have := weiA_app (ds.take i) (ds.drop i)
  rw [List.take_append_drop] at this
  rw [weiA_app, weiA_app, this]
  simp only [PyData.weightAll]
  omega
theorem BdA.ins {k n w v : Nat} {ds : List PyData} (h : BdA k n w ds) (i : Nat) {x : PyData} (g : gd k x = true) (p : x.depth ≤ n) (l : w + x.weight + 1 ≤ v) : BdA k n v (ds.take i ++ [x] ++ ds.drop i) := .of (fun y hy => by
  rcases List.mem_append.mp hy with hy | hy
  · rcases List.mem_append.mp hy with hy | hy
    · exact h.each (List.mem_of_mem_take hy)
    · rw [List.mem_singleton.mp hy]
      exact ⟨g, p⟩
  · exact h.each (List.mem_of_mem_drop hy)) (by rw [weiA_ins]; have := h.wt; omega)
theorem TgA.set {p : Addr → Prop} {H : Hp} {x : V} {d : PyData} (hx : Tg p H x d) : ∀ {ds : List PyData} {vs : List V}, TgA p H vs ds → ∀ i : Nat, TgA p H (vs.set i x) (ds.set i d)
  | [], _, h, i => by cases h; exact .nil
  | e :: ds, _, h, i => by
    cases h with
    | cons a b =>
      cases i with
      | zero => exact .cons hx b
      | succ i => exact .cons a (TgA.set hx b i)
theorem TgA.erase {p : Addr → Prop} {H : Hp} : ∀ {ds : List PyData} {vs : List V}, TgA p H vs ds → ∀ i : Nat, TgA p H (vs.eraseIdx i) (ds.eraseIdx i)
  | [], _, h, i => by cases h; exact .nil
  | e :: ds, _, h, i => by
    cases h with
    | cons a b =>
      cases i with
      | zero => exact b
      | succ i => exact .cons a (TgA.erase b i)
theorem TgA.ins {p : Addr → Prop} {H : Hp} {ds : List PyData} {vs : List V} (h : TgA p H vs ds) {x : V} {d : PyData} (hx : Tg p H x d) (i : Nat) : TgA p H (vs.take i ++ [x] ++ vs.drop i) (ds.take i ++ [d] ++ ds.drop i) := ((h.split i).1.app (.cons hx .nil)).app (h.split i).2
theorem at_menuV {Pr : V → Prop} {xs : List V} {r : Int} (h0 : 0 ≤ r) (h1 : r < xs.length) (hx : ∀ x, x ∈ xs → Pr x) : ∃ v, atI xs r = some v ∧ Pr v := by
  obtain ⟨j, rfl⟩ := Int.eq_ofNat_of_zero_le h0
  have hj : j < xs.length := by omega
  exact ⟨xs[j], atI_nat (List.getElem?_eq_getElem hj), hx _ (List.getElem_mem hj)⟩
theorem len_wei : ∀ ds : List PyData, ds.length ≤ PyData.weightAll ds
  | [] => Nat.zero_le _
  | x :: ds => by
    have := len_wei ds
    simp only [List.length_cons, PyData.weightAll]
    omega
theorem Bx.upd {H : Hp} {p l : Addr} {n : Nat} {o : HO} (B : Bx H p n) (h : l ≠ p) : Bx (upd H l o) p n := by
  obtain ⟨a, b, c, e, r⟩ := B
  exact ⟨a, b, c, (upd_ne h.symm).trans e, r⟩
/-- lists that stand -/
def Sts (E : Addr → Prop) (H : Hp) : Prop := ∀ q, E q → H q ≠ none
theorem Sts.not {E : Addr → Prop} {H : Hp} {t : Addr} (h : Sts E H) (n : H t = none) : ¬ E t := fun e => h t e n
theorem Sts.same {E : Addr → Prop} {H H' : Hp} (h : Sts E H) (s : Same H H') : Sts E H' := fun q e n => by
  cases z : H q with
  | none => exact h q e z
  | some o =>
    rw [s _ _ z] at n
    cases n
theorem Bx.some {H : Hp} {p : Addr} {n : Nat} (B : Bx H p n) : H p ≠ none := by
  obtain ⟨a, b, c, h, _⟩ := B
  rw [h]
  exact fun z => by cases z
theorem Sts.but {E : Addr → Prop} {H H' : Hp} {p : Addr} {n : Nat} (h : Sts E H) (s : But p H H') (B : Bx H' p n) : Sts E H' := fun q e z => by
  by_cases qp : q = p
  · subst qp
    exact B.some z
  · cases y : H q with
    | none => exact h q e y
    | some o =>
      rw [s _ _ qp y] at z
      cases z
theorem Tg.bt {E : Addr → Prop} {H H' : Hp} {v : V} {d : PyData} {p : Addr} (h : Tg E H v d) (e : E p) (s : But p H H') : Tg E H' v d := h.keep fun a o n q => s a o (fun z => n (z ▸ e)) q
theorem TgA.bt {E : Addr → Prop} {H H' : Hp} {v : List V} {d : List PyData} {p : Addr} (h : TgA E H v d) (e : E p) (s : But p H H') : TgA E H' v d := h.keep fun a o n q => s a o (fun z => n (z ▸ e)) q
/-! slices of lists and tuples alike; numbers times things -/
def rSlU (K : PySem.W.Frag) : V → Option Int → Option Int → Hp → VK → Prop := fun x lo hi H Q => ∃ a xs, x = .ref a ∧ (H a = some (.lst xs) ∨ H a = some (.tup xs)) ∧ ∀ G c, Same H G → (SqL K G c (cutV xs lo hi) ∨ SqT K G c (cutV xs lo hi)) → Q (.ref c) G
theorem sl_any {X : Cx} : SlR X (rSlU X.K) := by
  intro pins s σ H x v vl vu lo hi sl Q I rx hs pl pu h
  obtain ⟨a, xs, rfl, ha, q⟩ := h
  rcases ha with ha | ha
  · exact sl_list pins s σ H _ v vl vu lo hi sl Q I rx hs pl pu ⟨a, xs, rfl, SqL.mk ha, fun p np => q _ p (same_upd np) (.inl (SqL.mk upd_same))⟩
  · exact sl_tupS pins s σ H _ v vl vu lo hi sl Q I rx hs pl pu ⟨a, xs, rfl, ha, fun G c sG hc => q G c sG (.inr (SqT.mk hc))⟩
theorem cut_mid (xs : List V) (j : Nat) (x : V) (h : xs[j]? = some x) : cutV xs (some (j : Nat)) (some ((j : Nat) + 1)) = [x] := by
  have jl := (List.getElem?_eq_some_iff.mp h).1
  unfold cutV
  rw [show ((j : Int) + 1) = ((j + 1 : Nat) : Int) by omega]
  have e1 : HT.sIx xs.length 0 (some ((j : Nat) : Int)) = j := by
    rw [HT.sIx_nat]
    omega
  have e2 : HT.sIx xs.length xs.length (some ((j + 1 : Nat) : Int)) = j + 1 := by
    rw [HT.sIx_nat]
    omega
  rw [e1, e2, show j + 1 - j = 1 by omega, List.drop_eq_getElem_cons jl]
  simp only [List.take_succ_cons, List.take_zero]
  rw [(List.getElem?_eq_some_iff.mp h).2]
theorem split_at {α : Type} (xs : List α) (j : Nat) (x : α) (h : xs[j]? = some x) : xs = xs.take j ++ [x] ++ xs.drop (j + 1) := by
  have jl := (List.getElem?_eq_some_iff.mp h).1
  have e := (List.getElem?_eq_some_iff.mp h).2
  have := List.take_append_drop j xs
  rw [List.drop_eq_getElem_cons jl, e] at this
  rw [List.append_assoc]
  exact this.symm
theorem op_mulN2 {X : Cx} : OpR X (binaryOp .Mult) (fun x y H Q => ∃ i j, x = .int i ∧ numV y j ∧ Builtin.Int.intBits i ≤ 64 ∧ Q (.int (i * j)) H) := by
  intro pins s σ H x y v u Q I rx ry h
  obtain ⟨i, j, rfl, hy, hb, q⟩ := h
  obtain ⟨t, rfl⟩ := rx
  rcases hy with rfl | ⟨b, rfl, rfl⟩
  · obtain ⟨t', rfl⟩ := ry
    exact mul_int ⟨.int _, H, I.tok _, ⟨_, rfl⟩, q⟩ (IntMulOk.of_left hb)
  · cases ry
    exact PySem.IntBool.mul_int_bool ⟨.int _, H, I.tok _, ⟨_, rfl⟩, q⟩
/-! makers as things -/
theorem Tg.tupv {p : Addr → Prop} {H : Hp} {v : V} {ds : List PyData} (h : Tg p H v (.tuple ds)) : ∃ a xs, v = .ref a ∧ ¬ p a ∧ H a = some (.tup xs) ∧ TgA p H xs ds := by
  cases h with
  | tup np ha hx => exact ⟨_, _, rfl, np, ha, hx⟩
theorem Tg.intv {p : Addr → Prop} {H : Hp} {v : V} {i : Int} (h : Tg p H v (.int i)) : v = .int i := by
  cases h
  rfl
theorem Tg.strv {p : Addr → Prop} {H : Hp} {v : V} {z : Str} (h : Tg p H v (.str z)) : v = .str z := by
  cases h
  rfl
theorem TgA.ints {p : Addr → Prop} {H : Hp} : ∀ {ns : List Int} {xs : List V}, TgA p H xs (ns.map PyData.int) → xs = ns.map V.int
  | [], _, h => by cases h; rfl
  | n :: ns, _, h => by
    cases h with
    | cons a b => rw [a.intv, TgA.ints b]; rfl
theorem TgA.of_ints {p : Addr → Prop} {H : Hp} : ∀ (ns : List Int), TgA p H (ns.map V.int) (ns.map PyData.int)
  | [] => .nil
  | n :: ns => .cons (.int n) (TgA.of_ints ns)
theorem TgA.two {p : Addr → Prop} {H : Hp} {xs : List V} {a b : PyData} (h : TgA p H xs [a, b]) : ∃ x y, xs = [x, y] ∧ Tg p H x a ∧ Tg p H y b := by
  cases h with
  | cons h1 h =>
    cases h with
    | cons h2 h => cases h; exact ⟨_, _, rfl, h1, h2⟩
theorem TgA.three {p : Addr → Prop} {H : Hp} {xs : List V} {a b c : PyData} (h : TgA p H xs [a, b, c]) : ∃ x y z, xs = [x, y, z] ∧ Tg p H x a ∧ Tg p H y b ∧ Tg p H z c := by
  cases h with
  | cons h1 h =>
    obtain ⟨x, y, rfl, h2, h3⟩ := h.two
    exact ⟨_, _, _, rfl, h1, h2, h3⟩
theorem TgA.four {p : Addr → Prop} {H : Hp} {xs : List V} {a b c d : PyData} (h : TgA p H xs [a, b, c, d]) : ∃ x y z w, xs = [x, y, z, w] ∧ Tg p H x a ∧ Tg p H y b ∧ Tg p H z c ∧ Tg p H w d := by
  cases h with
  | cons h1 h =>
    obtain ⟨x, y, z, rfl, h2, h3, h4⟩ := h.three
    exact ⟨_, _, _, _, rfl, h1, h2, h3, h4⟩
def mkd : Mk → PyData
  | .counter r s t => .tuple [.str "counter", .int (r : Nat), .int (s : Nat), .int (t : Nat)]
  | .table ns => .tuple [.str "table", .tuple (ns.map PyData.int)]
  | .turned w s => .tuple [.str "turned", .int (w : Nat), .int (s : Nat)]
  | .register w p s => .tuple [.str "register", .int (w : Nat), .int (p : Nat), .int (s : Nat)]
  | .slow n m => .tuple [.str "slow", .int (n : Nat), mkd m]
  | .slip n m => .tuple [.str "slip", .int (n : Nat), mkd m]
  | .late n m => .tuple [.str "late", .int (n : Nat), mkd m]
theorem tg_mk {p : Addr → Prop} {H : Hp} : ∀ {m : Mk} {v : V}, Tg p H v (mkd m) → MkAt H m v
  | .counter r s t, _, h => by
    obtain ⟨a, xs, rfl, _, ha, hx⟩ := Tg.tupv h
    obtain ⟨x, y, z, w, rfl, h1, h2, h3, h4⟩ := hx.four
    exact ⟨a, rfl, by rw [ha, h1.strv, h2.intv, h3.intv, h4.intv]⟩
  | .table ns, _, h => by
    obtain ⟨a, xs, rfl, _, ha, hx⟩ := Tg.tupv h
    obtain ⟨x, y, rfl, h1, h2⟩ := hx.two
    obtain ⟨b, ys, rfl, _, hb, hy⟩ := Tg.tupv h2
    exact ⟨a, b, rfl, by rw [ha, h1.strv], by rw [hb, hy.ints]⟩
  | .turned w s, _, h => by
    obtain ⟨a, xs, rfl, _, ha, hx⟩ := Tg.tupv h
    obtain ⟨x, y, z, rfl, h1, h2, h3⟩ := hx.three
    exact ⟨a, rfl, by rw [ha, h1.strv, h2.intv, h3.intv]⟩
  | .register w q s, _, h => by
    obtain ⟨a, xs, rfl, _, ha, hx⟩ := Tg.tupv h
    obtain ⟨x, y, z, w, rfl, h1, h2, h3, h4⟩ := hx.four
    exact ⟨a, rfl, by rw [ha, h1.strv, h2.intv, h3.intv, h4.intv]⟩
  | .slow n m, _, h => by
    obtain ⟨a, xs, rfl, _, ha, hx⟩ := Tg.tupv h
    obtain ⟨x, y, z, rfl, h1, h2, h3⟩ := hx.three
    exact ⟨a, z, rfl, by rw [ha, h1.strv, h2.intv], tg_mk h3⟩
  | .slip n m, _, h => by
    obtain ⟨a, xs, rfl, _, ha, hx⟩ := Tg.tupv h
    obtain ⟨x, y, z, rfl, h1, h2, h3⟩ := hx.three
    exact ⟨a, z, rfl, by rw [ha, h1.strv, h2.intv], tg_mk h3⟩
  | .late n m, _, h => by
    obtain ⟨a, xs, rfl, _, ha, hx⟩ := Tg.tupv h
    obtain ⟨x, y, z, rfl, h1, h2, h3⟩ := hx.three
    exact ⟨a, z, rfl, by rw [ha, h1.strv, h2.intv], tg_mk h3⟩
theorem mk_tg {p : Addr → Prop} {H : Hp} (np : ∀ a xs, H a = some (.tup xs) → ¬ p a) : ∀ {m : Mk} {v : V}, MkAt H m v → Tg p H v (mkd m)
  | .counter r s t, _, ⟨a, e, h⟩ => by rw [e]; exact .tup (np _ _ h) h (.cons (.str _) (.cons (.int _) (.cons (.int _) (.cons (.int _) .nil))))
  | .table ns, _, ⟨a, b, e, h, k⟩ => by rw [e]; exact .tup (np _ _ h) h (.cons (.str _) (.cons (.tup (np _ _ k) k (TgA.of_ints ns)) .nil))
  | .turned w s, _, ⟨a, e, h⟩ => by rw [e]; exact .tup (np _ _ h) h (.cons (.str _) (.cons (.int _) (.cons (.int _) .nil)))
  | .register w q s, _, ⟨a, e, h⟩ => by rw [e]; exact .tup (np _ _ h) h (.cons (.str _) (.cons (.int _) (.cons (.int _) (.cons (.int _) .nil))))
  | .slow n m, _, ⟨a, x, e, h, k⟩ => by rw [e]; exact .tup (np _ _ h) h (.cons (.str _) (.cons (.int _) (.cons (mk_tg np k) .nil)))
  | .slip n m, _, ⟨a, x, e, h, k⟩ => by rw [e]; exact .tup (np _ _ h) h (.cons (.str _) (.cons (.int _) (.cons (mk_tg np k) .nil)))
  | .late n m, _, ⟨a, x, e, h, k⟩ => by rw [e]; exact .tup (np _ _ h) h (.cons (.str _) (.cons (.int _) (.cons (mk_tg np k) .nil)))
theorem map_int_inj : ∀ {xs ys : List Int}, xs.map PyData.int = ys.map PyData.int → xs = ys
  | [], [], _ => rfl
  | [], _ :: _, h => by cases h
  | _ :: _, [], h => by cases h
  | x :: xs, y :: ys, h => by
    simp only [List.map_cons, List.cons.injEq, PyData.int.injEq] at h
    rw [h.1, map_int_inj h.2]
theorem tup_in {xs ys : List PyData} (h : PyData.tuple xs = .tuple ys) : xs = ys := PyData.tuple.inj h
theorem mkd_inj : ∀ {m k : Mk}, mkd m = mkd k → m = k
  | .counter _ _ _, k, h => by
    cases k <;> simp only [mkd, PyData.tuple.injEq, List.cons.injEq, PyData.str.injEq, PyData.int.injEq, and_true, reduceCtorEq, and_false, false_and] at h
    all_goals first
      | exact absurd h.1 (by decide +kernel)
      | (obtain ⟨_, h1, h2, h3⟩ := h
         rw [Int.ofNat.inj h1, Int.ofNat.inj h2, Int.ofNat.inj h3])
  | .table _, k, h => by
    cases k <;> simp only [mkd, PyData.tuple.injEq, List.cons.injEq, PyData.str.injEq, PyData.int.injEq, and_true, reduceCtorEq, and_false, false_and] at h
    all_goals first
      | exact absurd h.1 (by decide +kernel)
      | (obtain ⟨_, h1⟩ := h
         rw [map_int_inj h1])
  | .turned _ _, k, h => by
    cases k <;> simp only [mkd, PyData.tuple.injEq, List.cons.injEq, PyData.str.injEq, PyData.int.injEq, and_true, reduceCtorEq, and_false, false_and] at h
    all_goals first
      | exact absurd h.1 (by decide +kernel)
      | (obtain ⟨_, h1, h2⟩ := h
         rw [Int.ofNat.inj h1, Int.ofNat.inj h2])
  | .register _ _ _, k, h => by
    cases k <;> simp only [mkd, PyData.tuple.injEq, List.cons.injEq, PyData.str.injEq, PyData.int.injEq, and_true, reduceCtorEq, and_false, false_and] at h
    all_goals first
      | exact absurd h.1 (by decide +kernel)
      | (obtain ⟨_, h1, h2, h3⟩ := h
         rw [Int.ofNat.inj h1, Int.ofNat.inj h2, Int.ofNat.inj h3])
  | .slow _ _, k, h => by
    cases k <;> simp only [mkd, PyData.tuple.injEq, List.cons.injEq, PyData.str.injEq, PyData.int.injEq, and_true, reduceCtorEq, and_false, false_and] at h
    all_goals first
      | exact absurd h.1 (by decide +kernel)
      | (obtain ⟨_, h1, h2⟩ := h
         rw [Int.ofNat.inj h1, mkd_inj h2])
  | .slip _ _, k, h => by
    cases k <;> simp only [mkd, PyData.tuple.injEq, List.cons.injEq, PyData.str.injEq, PyData.int.injEq, and_true, reduceCtorEq, and_false, false_and] at h
    all_goals first
      | exact absurd h.1 (by decide +kernel)
      | (obtain ⟨_, h1, h2⟩ := h
         rw [Int.ofNat.inj h1, mkd_inj h2])
  | .late _ _, k, h => by
    cases k <;> simp only [mkd, PyData.tuple.injEq, List.cons.injEq, PyData.str.injEq, PyData.int.injEq, and_true, reduceCtorEq, and_false, false_and] at h
    all_goals first
      | exact absurd h.1 (by decide +kernel)
      | (obtain ⟨_, h1, h2⟩ := h
         rw [Int.ofNat.inj h1, mkd_inj h2])
/-- makers that the program takes, as to their own steps -/
def Mk.Vd : Mk → Prop
  | .counter r s _ => 1 ≤ s ∧ s ≤ r ∧ Nat.gcd s r = 1
  | _ => True
def plainD (d : PyData) : Prop := ∃ m : Mk, d = mkd m ∧ m.Pl ∧ m.Vd
def isMkD (d : PyData) : Prop := ∃ m : Mk, d = mkd m ∧ m.Ok ∧ m.inn.Vd ∧ m.dep ≤ 3 ∧ m.rnd ≤ 4096
/-- what a plain maker's first part tells of the others -/
theorem pl_cases {ds : List PyData} (h : plainD (.tuple ds)) :
    (∃ r s t : Nat, ds = [.str "counter", .int r, .int s, .int t] ∧ (1 ≤ r ∧ r ≤ 64) ∧ (1 ≤ s ∧ s ≤ r) ∧ Nat.gcd s r = 1 ∧ t < r) ∨
    (∃ w s : Nat, ds = [.str "turned", .int w, .int s] ∧ (1 ≤ w ∧ w ≤ 6) ∧ s < 2 ^ w) ∨
    (∃ w q s : Nat, ds = [.str "register", .int w, .int q, .int s] ∧ RgW w q ∧ 1 ≤ s ∧ s < 2 ^ w) ∨
    (∃ ns : List Int, ds = [.str "table", .tuple (ns.map PyData.int)] ∧ (1 ≤ ns.length ∧ ns.length ≤ 64) ∧ ∀ x, x ∈ ns → 0 ≤ x ∧ x ≤ 63) := by
  obtain ⟨m, e, pl, vd⟩ := h
  cases m with
  | counter r s t => exact .inl ⟨r, s, t, tup_in e, ⟨pl.1, pl.2.1⟩, ⟨vd.1, vd.2.1⟩, vd.2.2, pl.2.2.2⟩
  | turned w s => exact .inr (.inl ⟨w, s, tup_in e, ⟨pl.1, pl.2.1⟩, pl.2.2⟩)
  | register w q s => exact .inr (.inr (.inl ⟨w, q, s, tup_in e, pl.1, pl.2.1, pl.2.2⟩))
  | table ns => exact .inr (.inr (.inr ⟨ns, tup_in e, ⟨pl.1, pl.2.1⟩, pl.2.2⟩))
  | _ => exact pl.elim
theorem isInt_is {d : PyData} (h : isIntD d = true) : ∃ i, d = .int i := by
  cases d <;> first | exact ⟨_, rfl⟩ | cases h
theorem within_is {d : PyData} {lo hi : Int} (h : withinD d lo hi = true) : ∃ i, d = .int i ∧ lo ≤ i ∧ i ≤ hi := by
  cases d <;> first | exact ⟨_, rfl, (of_decide_eq_true h).1, (of_decide_eq_true h).2⟩ | cases h
theorem within_no {i lo hi : Int} (h : withinD (.int i) lo hi = false) : ¬ (lo ≤ i ∧ i ≤ hi) := fun z => by
  have : withinD (.int i) lo hi = true := decide_eq_true z
  rw [this] at h
  cases h
/-- what stands around a thing -/
def arD (d : PyData) : Option PyData := match d with
  | .tuple [.str z, x, e] => if z = "late" then (if withinD x 0 64 then some e else none) else if z = "slow" ∨ z = "slip" then (if withinD x 1 64 then some e else none) else none
  | _ => none
theorem arD_is {d e : PyData} (h : arD d = some e) : ∃ (z : Str) (n : Nat), d = .tuple [.str z, .int (n : Nat), e] ∧ ((z = "late" ∧ n ≤ 64) ∨ (z = "slow" ∧ 1 ≤ n ∧ n ≤ 64) ∨ (z = "slip" ∧ 1 ≤ n ∧ n ≤ 64)) := by
  unfold arD at h
  split at h
  · rename_i z x e'
    split at h
    · rename_i hz
      split at h
      · rename_i hw
        obtain ⟨i, rfl, l, u⟩ := within_is hw
        obtain ⟨n, rfl⟩ := nat_of l
        cases h
        exact ⟨z, n, rfl, .inl ⟨hz, by omega⟩⟩
      · cases h
    · split at h
      · rename_i hz
        split at h
        · rename_i hw
          obtain ⟨i, rfl, l, u⟩ := within_is hw
          obtain ⟨n, rfl⟩ := nat_of (show 0 ≤ i by omega)
          cases h
          rcases hz with hz | hz
          · exact ⟨z, n, rfl, .inr (.inl ⟨hz, by omega, by omega⟩)⟩
          · exact ⟨z, n, rfl, .inr (.inr ⟨hz, by omega, by omega⟩)⟩
        · cases h
      · cases h
  · cases h
theorem arD_slow {n : Nat} {e : PyData} (h : 1 ≤ n ∧ n ≤ 64) : arD (.tuple [.str "slow", .int (n : Nat), e]) = some e := by
  have w : withinD (.int (n : Nat)) 1 64 = true := decide_eq_true (by omega)
  unfold arD
  dsimp only
  rw [if_neg (by decide +kernel), if_pos (.inl rfl), w]
  rfl
theorem arD_slip {n : Nat} {e : PyData} (h : 1 ≤ n ∧ n ≤ 64) : arD (.tuple [.str "slip", .int (n : Nat), e]) = some e := by
  have w : withinD (.int (n : Nat)) 1 64 = true := decide_eq_true (by omega)
  unfold arD
  dsimp only
  rw [if_neg (by decide +kernel), if_pos (.inr rfl), w]
  rfl
theorem arD_late {n : Nat} {e : PyData} (h : n ≤ 64) : arD (.tuple [.str "late", .int (n : Nat), e]) = some e := by
  have w : withinD (.int (n : Nat)) 0 64 = true := decide_eq_true (by omega)
  unfold arD
  dsimp only
  rw [if_pos rfl, w]
  rfl
theorem arD_mk {m : Mk} (ok : m.Ok) : (m.dep = 0 ∧ m.Pl ∧ arD (mkd m) = none) ∨ ∃ m', arD (mkd m) = some (mkd m') ∧ m'.Ok ∧ m.dep = m'.dep + 1 ∧ m.inn = m'.inn := by
  cases m with
  | counter r s t => exact .inl ⟨rfl, ok, rfl⟩
  | table ns => exact .inl ⟨rfl, ok, rfl⟩
  | turned w s =>
    refine .inl ⟨rfl, ok, ?_⟩
    unfold mkd arD
    dsimp only
    rw [if_neg (by decide +kernel), if_neg (by decide +kernel)]
  | register w q s => exact .inl ⟨rfl, ok, rfl⟩
  | slow n m => exact .inr ⟨m, arD_slow ⟨ok.1, ok.2.1⟩, ok.2.2, rfl, rfl⟩
  | slip n m => exact .inr ⟨m, arD_slip ⟨ok.1, ok.2.1⟩, ok.2.2, rfl, rfl⟩
  | late n m => exact .inr ⟨m, arD_late ok.1, ok.2, rfl, rfl⟩
theorem arD_up {d : PyData} {m : Mk} (h : arD d = some (mkd m)) (ok : m.Ok) : ∃ k : Mk, d = mkd k ∧ k.Ok ∧ k.dep = m.dep + 1 ∧ k.inn = m.inn := by
  obtain ⟨z, n, rfl, c⟩ := arD_is h
  rcases c with ⟨rfl, c⟩ | ⟨rfl, c1, c2⟩ | ⟨rfl, c1, c2⟩
  · exact ⟨.late n m, rfl, ⟨c, ok⟩, rfl, rfl⟩
  · exact ⟨.slow n m, rfl, ⟨c1, c2, ok⟩, rfl, rfl⟩
  · exact ⟨.slip n m, rfl, ⟨c1, c2, ok⟩, rfl, rfl⟩
/-- d is e, wrapped so often -/
def Wr : Nat → PyData → PyData → Prop
  | 0, d, e => d = e
  | i + 1, d, e => ∃ f, Wr i d f ∧ arD f = some e
theorem wr_mk : ∀ {i : Nat} {d e : PyData} {m : Mk}, Wr i d e → e = mkd m → m.Ok → ∃ k : Mk, d = mkd k ∧ k.Ok ∧ k.dep = m.dep + i ∧ k.inn = m.inn
  | 0, d, e, m, h, he, ok => ⟨m, by rw [show d = e from h, he], ok, rfl, rfl⟩
  | i + 1, d, e, m, ⟨f, h, hf⟩, he, ok => by
    rw [he] at hf
    obtain ⟨k, e1, ok1, d1, i1⟩ := arD_up hf ok
    obtain ⟨k2, e2, ok2, d2, i2⟩ := wr_mk h e1 ok1
    exact ⟨k2, e2, ok2, by omega, by rw [i2, i1]⟩
theorem mk_wr : ∀ {i : Nat} {d e : PyData} {m : Mk}, Wr i d e → d = mkd m → m.Ok → ∃ k : Mk, e = mkd k ∧ k.Ok ∧ m.dep = k.dep + i ∧ m.inn = k.inn
  | 0, d, e, m, h, he, ok => ⟨m, by rw [← show d = e from h, he], ok, rfl, rfl⟩
  | i + 1, d, e, m, ⟨f, h, hf⟩, he, ok => by
    obtain ⟨k, e1, ok1, d1, i1⟩ := mk_wr h he ok
    rw [e1] at hf
    rcases arD_mk ok1 with ⟨_, _, z⟩ | ⟨k2, z, ok2, d2, i2⟩
    · rw [z] at hf
      cases hf
    · rw [z] at hf
      cases hf
      exact ⟨k2, rfl, ok2, by omega, by rw [i1, i2]⟩
theorem arD_dep {d e : PyData} (h : arD d = some e) : e.depth < d.depth := by
  obtain ⟨z, n, rfl, _⟩ := arD_is h
  simp only [PyData.depth, PyData.depthAll]
  omega
/-! how large makers are, as things -/
theorem weiA_ints : ∀ {ns : List Int}, (∀ x, x ∈ ns → x.natAbs < 10 ^ 21) → PyData.weightAll (ns.map PyData.int) ≤ 86 * ns.length ∧ gdA 21 (ns.map PyData.int) = true ∧ PyData.depthAll (ns.map PyData.int) ≤ 0
  | [], _ => ⟨by simp [PyData.weightAll], rfl, by simp [PyData.depthAll]⟩
  | n :: ns, h => by
    obtain ⟨a, b, c⟩ := weiA_ints (ns := ns) fun x hx => h x (List.mem_cons_of_mem _ hx)
    have g := bd_int (k := 21) (h n List.mem_cons_self)
    have g1 := g.wt
    have g2 := g.g
    have g3 := g.dp
    refine ⟨?_, ?_, ?_⟩
    · simp only [List.map_cons, PyData.weightAll, List.length_cons]
      omega
    · simp only [List.map_cons, gdA, g2, b]
      rfl
    · simp only [List.map_cons, PyData.depthAll]
      omega
theorem n21 {n : Nat} (h : n ≤ 100000) : ((n : Nat) : Int).natAbs < 10 ^ 21 := by
  have : (100001 : Nat) ≤ 10 ^ 21 := by decide
  omega
theorem bd_w {z : Str} (h : PyData.strOk z = true) (l : z.length ≤ 10) : Bd 21 0 10 (.str z) := (bd_str h).mono (Nat.le_refl _) (Nat.le_refl _) l
theorem bd_w3 {z : Str} {n : Nat} {e : PyData} {m w : Nat} (hz : PyData.strOk z = true) (l : z.length ≤ 10) (hn : n ≤ 100000) (he : Bd 21 m w e) : Bd 21 (m + 1) (w + 100) (.tuple [.str z, .int (n : Nat), e]) :=
  (((BdA.one (bd_w hz l)).app ((BdA.one (bd_int (n21 hn))).app (BdA.one he))).mono (Nat.le_refl _) (show max 0 (max 0 m) ≤ m by omega) (show 10 + 1 + (4 * 21 + 1 + 1 + (w + 1)) ≤ w + 100 by omega)).tup
theorem bd_w4 {z : Str} {a b c : Nat} (hz : PyData.strOk z = true) (l : z.length ≤ 10) (ha : a ≤ 100000) (hb : b ≤ 100000) (hc : c ≤ 100000) : Bd 21 2 6000 (.tuple [.str z, .int (a : Nat), .int (b : Nat), .int (c : Nat)]) :=
  (((BdA.one (bd_w hz l)).app ((BdA.one (bd_int (n21 ha))).app ((BdA.one (bd_int (n21 hb))).app (BdA.one (bd_int (n21 hc)))))).mono (Nat.le_refl _) (show max 0 (max 0 (max 0 0)) ≤ 1 by omega) (show _ ≤ 6000 by omega)).tup
theorem mkd_bd : ∀ {m : Mk}, m.Ok → Bd 21 (m.dep + 2) (6000 + 100 * m.dep) (mkd m)
  | .counter r s t, ok => by
    obtain ⟨h1, h2, h3, h4⟩ : 1 ≤ r ∧ r ≤ 64 ∧ s ≤ 64 ∧ t < r := ok
    exact bd_w4 (by decide +kernel) (by decide +kernel) (by omega) (by omega) (by omega)
  | .turned w s, ok => by
    obtain ⟨h1, h2, h3⟩ : 1 ≤ w ∧ w ≤ 6 ∧ s < 2 ^ w := ok
    have : 2 ^ w ≤ 2 ^ 6 := Nat.pow_le_pow_right (by decide) h2
    exact (bd_w3 (by decide +kernel) (by decide +kernel) (by omega) (bd_int (n21 (show s ≤ 100000 by omega)))).mono (Nat.le_refl _) (show 0 + 1 ≤ 0 + 2 by omega) (show _ ≤ 6000 + 100 * 0 by omega)
  | .register w q s, ok => by
    obtain ⟨h1, h2, h3⟩ : RgW w q ∧ 1 ≤ s ∧ s < 2 ^ w := ok
    have : 2 ^ w ≤ 2 ^ 6 := Nat.pow_le_pow_right (by decide) h1.hi
    have := h1.ph
    have := h1.hi
    exact bd_w4 (by decide +kernel) (by decide +kernel) (by omega) (by omega) (by omega)
  | .table ns, ok => by
    obtain ⟨h1, h2, h3⟩ : 1 ≤ ns.length ∧ ns.length ≤ 64 ∧ ∀ x, x ∈ ns → 0 ≤ x ∧ x ≤ 63 := ok
    obtain ⟨a, b, c⟩ := weiA_ints (ns := ns) fun x hx => by
      have := h3 x hx
      have : (64 : Nat) ≤ 10 ^ 21 := by decide
      omega
    have t : Bd 21 (0 + 1) 5504 (.tuple (ns.map PyData.int)) := BdA.tup ⟨b, c, by omega⟩
    exact (((BdA.one (bd_w (z := "table") (by decide +kernel) (by decide +kernel))).app (BdA.one t)).mono (Nat.le_refl _) (show max 0 (0 + 1) ≤ 1 by omega) (show _ ≤ 6000 + 100 * 0 by omega)).tup
  | .slow n m, ok => by
    have h := mkd_bd (m := m) ok.2.2
    have := ok.2.1
    exact (bd_w3 (z := "slow") (by decide +kernel) (by decide +kernel) (show n ≤ 100000 by omega) h).mono (Nat.le_refl _) (by simp only [Mk.dep]; omega) (by simp only [Mk.dep]; omega)
  | .slip n m, ok => by
    have h := mkd_bd (m := m) ok.2.2
    have := ok.2.1
    exact (bd_w3 (z := "slip") (by decide +kernel) (by decide +kernel) (show n ≤ 100000 by omega) h).mono (Nat.le_refl _) (by simp only [Mk.dep]; omega) (by simp only [Mk.dep]; omega)
  | .late n m, ok => by
    have h := mkd_bd (m := m) ok.2
    have := ok.1
    exact (bd_w3 (z := "late") (by decide +kernel) (by decide +kernel) (show n ≤ 100000 by omega) h).mono (Nat.le_refl _) (by simp only [Mk.dep]; omega) (by simp only [Mk.dep]; omega)
def PN (p D : Addr) (HX : Hp) (m : Int) (k i : Nat) (H1 : Hp) : Prop := ∃ rs : List Int, rs.length = i ∧ (∀ x, x ∈ rs → 0 ≤ x ∧ x < m) ∧ But p HX H1 ∧ Bx H1 p (k + i) ∧ H1 D = some (.lst (rs.map V.int))
theorem pn_start {p D : Addr} {HX : Hp} {m : Int} {k : Nat} (nD : HX D = none) (B : Bx HX p k) : PN p D HX m k 0 (upd HX D (.lst [])) := ⟨[], rfl, fun _ h => (by cases h), (But.refl p HX).new nD, B.new nD, upd_same⟩
theorem pn_step {p D : Addr} {HX H1 H4 : Hp} {m : Int} {k i : Nat} {x : Int} (nD : HX D = none) (Dp : D ≠ p) (h : PN p D HX m k i H1) (b : But p H1 H4) (B : Bx H4 p (k + (i + 1))) (hi : i < 100000) (hx : 0 ≤ x ∧ x < m) :
    ∃ acc, H4 D = some (.lst acc) ∧ acc.length < sizeLine ∧ PN p D HX m k (i + 1) (upd H4 D (.lst (acc ++ [.int x]))) := by
  obtain ⟨rs, hl, hb, b1, _, hD⟩ := h
  have hsl : sizeLine = 16777216 := by decide
  refine ⟨_, b _ _ Dp hD, by rw [List.length_map]; omega, rs ++ [x], by rw [List.length_append, hl]; rfl, fun y hy => ?_, but_newer (b1.trans b) nD, B.other Dp, ?_⟩
  · rcases List.mem_append.mp hy with hy | hy
    · exact hb y hy
    · rw [List.mem_singleton.mp hy]
      exact hx
  · rw [upd_same, List.map_append]
    rfl
/-! makers drawn -/
theorem rnd_pos : ∀ {m : Mk}, m.Ok → 1 ≤ m.rnd
  | .slow n m, h => Nat.mul_pos h.1 (rnd_pos (m := m) h.2.2)
  | .slip n m, h => by
    have r := rnd_pos (m := m) h.2.2
    obtain ⟨c, hc⟩ := Nat.gcd_dvd_left m.rnd (n + 1)
    have g := gcd_le (a := m.rnd) (n := n)
    show 1 ≤ n * m.rnd / Nat.gcd m.rnd (n + 1)
    generalize Nat.gcd m.rnd (n + 1) = d at hc g
    rw [hc, Nat.mul_left_comm, Nat.mul_div_cancel_left _ (by omega)]
    have c1 : 1 ≤ c := by
      rcases Nat.eq_zero_or_pos c with z | z
      · rw [z, Nat.mul_zero] at hc
        omega
      · exact z
    exact Nat.mul_pos h.1 c1
  | .late _ m, h => rnd_pos (m := m) h.2
  | .counter _ _ _, h => (Mk.Pl.len (m := .counter _ _ _) h).1
  | .table _, h => (Mk.Pl.len (m := .table _) h).1
  | .turned _ _, h => (Mk.Pl.len (m := .turned _ _) h).1
  | .register _ _ _, h => (Mk.Pl.len (m := .register _ _ _) h).1
theorem bt_round : ∀ {m : Mk}, m.Ok → ∀ (c : Nat) (t : Int), ∃ z : Int, m.bt (t + (c : Int) * (m.rnd : Int)) = m.bt t + z * (m.inn.pl.length : Int)
  | .slow n m, h, c, t => by
    have n0 : (n : Int) ≠ 0 := by have := h.1; omega
    obtain ⟨z, hz⟩ := bt_round (m := m) h.2.2 c (t / n)
    refine ⟨z, ?_⟩
    show m.bt ((t + (c : Int) * ((n * m.rnd : Nat) : Int)) / n) = _
    rw [show (c : Int) * ((n * m.rnd : Nat) : Int) = (n : Int) * ((c : Int) * (m.rnd : Int)) by rw [Int.natCast_mul, Int.mul_left_comm], Int.add_mul_ediv_left _ _ n0]
    exact hz
  | .slip n m, h, c, t => by
    have n0 : (n : Int) ≠ 0 := by have := h.1; omega
    obtain ⟨r', hr⟩ := Nat.gcd_dvd_left m.rnd (n + 1)
    obtain ⟨e, he⟩ := Nat.gcd_dvd_right m.rnd (n + 1)
    have g := gcd_le (a := m.rnd) (n := n)
    obtain ⟨z, hz⟩ := bt_round (m := m) h.2.2 (c * e) (t + t / n)
    refine ⟨z, ?_⟩
    have eR : n * m.rnd / Nat.gcd m.rnd (n + 1) = n * r' := by
      generalize Nat.gcd m.rnd (n + 1) = d at hr g
      rw [hr, Nat.mul_left_comm, Nat.mul_div_cancel_left _ (by omega)]
    have key : (n + 1) * r' = e * m.rnd := by
      generalize Nat.gcd m.rnd (n + 1) = d at hr he
      rw [he, hr, Nat.mul_comm d e, Nat.mul_assoc]
    show m.bt ((t + (c : Int) * ((n * m.rnd / Nat.gcd m.rnd (n + 1) : Nat) : Int)) + (t + (c : Int) * ((n * m.rnd / Nat.gcd m.rnd (n + 1) : Nat) : Int)) / n) = _
    rw [eR, show (c : Int) * ((n * r' : Nat) : Int) = (n : Int) * ((c : Int) * (r' : Int)) by rw [Int.natCast_mul, Int.mul_left_comm], Int.add_mul_ediv_left _ _ n0]
    have e2 : t + (n : Int) * ((c : Int) * (r' : Int)) + (t / (n : Int) + (c : Int) * (r' : Int)) = t + t / (n : Int) + ((c * e : Nat) : Int) * (m.rnd : Int) := by
      have k1 : ((c * e : Nat) : Int) * (m.rnd : Int) = (c : Int) * (((n + 1) * r' : Nat) : Int) := by
        rw [key, Int.natCast_mul, Int.natCast_mul, Int.mul_assoc]
      have k2 : (c : Int) * (((n + 1) * r' : Nat) : Int) = (n : Int) * ((c : Int) * (r' : Int)) + (c : Int) * (r' : Int) := by
        rw [Int.natCast_mul, Int.natCast_add, Int.add_mul, Int.mul_add, Int.mul_left_comm]
        congr 1
        rw [show ((1 : Nat) : Int) * (r' : Int) = (r' : Int) by omega]
      omega
    rw [e2]
    exact hz
  | .late n m, h, c, t => by
    obtain ⟨z, hz⟩ := bt_round (m := m) h.2 c (t - n)
    refine ⟨z, ?_⟩
    show m.bt (t + (c : Int) * (m.rnd : Int) - n) = _
    rw [show t + (c : Int) * (m.rnd : Int) - (n : Int) = t - (n : Int) + (c : Int) * (m.rnd : Int) by omega]
    exact hz
  | .counter _ _ _, _, c, _ => ⟨c, rfl⟩
  | .table _, _, c, _ => ⟨c, rfl⟩
  | .turned _ _, _, c, _ => ⟨c, rfl⟩
  | .register _ _ _, _, c, _ => ⟨c, rfl⟩
theorem val_round {m : Mk} (h : m.Ok) (t : Int) : m.val (t + (m.rnd : Int)) = m.val t := by
  obtain ⟨z, hz⟩ := bt_round h 1 t
  rw [show (((1 : Nat) : Int)) * (m.rnd : Int) = (m.rnd : Int) by omega] at hz
  unfold Mk.val
  rw [hz, Int.add_mul_emod_self_right]
/-! the program's dict of sides -/
theorem ent_key {e : DictEntry} {z : Str} {i : Int} (h : entI e = some (z, i)) : ∃ t u, e.key = .str z t ∧ e.val = .int i u := by
  unfold entI at h
  split at h
  · rename_i x t j u h1 h2
    cases h
    exact ⟨t, u, h1, h2⟩
  · cases h
theorem ents_find (z : Str) : ∀ (l : List DictEntry) (kvs : List (Str × Int)), l.map entI = kvs.map some →
    l.any (·.refKey) = false ∧ ((kvs.lookup z = none ∧ l.find? (·.key.isStr z) = none) ∨ ∃ i e t, kvs.lookup z = some i ∧ l.find? (·.key.isStr z) = some e ∧ e.val = .int i t)
  | [], [], _ => ⟨rfl, .inl ⟨rfl, rfl⟩⟩
  | [], _ :: _, h => by cases h
  | _ :: _, [], h => by cases h
  | e :: l, (k, i) :: kvs, h => by
    simp only [List.map_cons, List.cons.injEq] at h
    obtain ⟨t, u, h1, h2⟩ := ent_key h.1
    obtain ⟨r, ih⟩ := ents_find z l kvs h.2
    have rk : e.refKey = false := by
      unfold DictEntry.refKey
      rw [h1]
    refine ⟨by rw [List.any_cons, rk, r]; rfl, ?_⟩
    have ek : e.key.isStr z = (k == z) := by rw [h1]; rfl
    rw [List.find?_cons, ek, List.lookup_cons]
    by_cases c : k = z
    · subst c
      refine .inr ⟨i, e, u, ?_, ?_, h2⟩
      · simp
      · simp
    · have c1 : (k == z) = false := beq_false_of_ne c
      have c2 : (z == k) = false := beq_false_of_ne fun e => c e.symm
      rw [c1, c2]
      exact ih
theorem dic_ns {K : PySem.W.Frag} {a : Addr} {kvs : List (Str × Int)} (h : dicB K a kvs = true) (z : Str) : (kvs.lookup z = none ∧ PySem.W.nsIn K a z = some none) ∨ ∃ i t, kvs.lookup z = some i ∧ PySem.W.nsIn K a z = some (some (.int i t)) := by
  unfold dicB at h
  split at h
  · rename_i c d es n sl e
    obtain ⟨r, q⟩ := ents_find z _ _ (of_decide_eq_true h)
    unfold PySem.W.nsIn
    rw [e]
    dsimp only
    rcases q with ⟨h1, h2⟩ | ⟨i, e', t, h1, h2, h3⟩
    · rw [h2, r]
      exact .inl ⟨h1, rfl⟩
    · rw [h2]
      exact .inr ⟨i, t, h1, by rw [← h3]⟩
  · cases h
/-! a dict of the program's top, in general -/
theorem op_inK {X : Cx} {K' : PySem.W.Frag} {w' : World} {C : Addr} {x : Str} {kvs : List (Str × Int)} (hK : X.K = K') (hw : X.w = w') (hC : C = He.ga K' x) (kd : ∃ es n, KDict K' w' (He.ga K' x) es n) (v : dicB K' (He.ga K' x) kvs = true) : OpR X (compareOp .In) (fun x y H Q => ∃ z, x = .str z ∧ y = .ref C ∧ Q (.bl (kvs.lookup z).isSome) H) := by
  subst hK hw hC
  obtain ⟨es, n, kd⟩ := kd
  intro pins s σ H x y v u Q I rx ry h
  obtain ⟨z, rfl, rfl, q⟩ := h
  rcases dic_ns (by assumption) z with ⟨h1, h2⟩ | ⟨i, t, h1, h2⟩
  · refine op_in_kd kd pins s σ H _ _ v u Q I rx ry ⟨z, _, rfl, rfl, h2, ?_⟩
    rw [h1] at q
    exact q
  · refine op_in_kd kd pins s σ H _ _ v u Q I rx ry ⟨z, _, rfl, rfl, h2, ?_⟩
    rw [h1] at q
    exact q
theorem ix_K {X : Cx} {K' : PySem.W.Frag} {w' : World} {C : Addr} {x : Str} {kvs : List (Str × Int)} (hK : X.K = K') (hw : X.w = w') (hC : C = He.ga K' x) (kd : ∃ es n, KDict K' w' (He.ga K' x) es n) (v : dicB K' (He.ga K' x) kvs = true) : IxR X (fun x y H Q => ∃ z i, x = .ref C ∧ y = .str z ∧ kvs.lookup z = some i ∧ Q (.int i) H) := by
  subst hK hw hC
  obtain ⟨es, n, kd⟩ := kd
  intro value slice pins s σ H x' y v' u Q I rx ry h hs
  obtain ⟨z, i, rfl, rfl, e, q⟩ := h
  have ru := rx
  cases rx
  refine tail_any (kd_type kd I) PySem.slot_dict_getitem.lookup ?_ hs
  rcases dic_ns v z with ⟨h1, h2⟩ | ⟨j, t, h1, h2⟩
  · rw [e] at h1
    cases h1
  · rw [e] at h1
    cases h1
    exact op_item_kd kd pins s σ H (V.ref (He.ga X.K x)) (V.str z) _ u Q I ru ry ⟨z, _, .int i, rfl, rfl, h2, ⟨_, rfl⟩, q⟩
def askN (z : Str) : Option Int := dl_ASKED.lookup z
def sp_asks_of (_ : PySem.W.Frag) : Sp := fun vs H Q _ => ∃ (a : Addr) (z : Str) (xs : List V) (n : Nat), vs = [.ref a] ∧ H a = some (.tup (.str z :: xs)) ∧ askN z = some (n : Int) ∧ ∀ H' t, Same H H' → H' t = some (.tup (xs.take n)) → Q (.ref t) H'
theorem cut_1n (x : V) (xs : List V) (n : Nat) : cutV (x :: xs) (some 1) (some (1 + (n : Int))) = xs.take n := by
  unfold cutV
  rw [show (1 + (n : Int)) = ((n + 1 : Nat) : Int) by omega, show (1 : Int) = ((1 : Nat) : Int) from rfl, HT.sIx_nat, HT.sIx_nat, List.length_cons, Nat.min_eq_left (show 1 ≤ xs.length + 1 by omega)]
  show (xs.take _) = _
  by_cases h : n ≤ xs.length
  · rw [Nat.min_eq_left (by omega), show n + 1 - 1 = n by omega]
  · rw [Nat.min_eq_right (by omega), show xs.length + 1 - 1 = xs.length by omega, List.take_of_length_le (Nat.le_refl _), List.take_of_length_le (by omega)]
theorem ok_asks_of (T : Defs K mg) (TT : Tabs T base) : FnOk P w K mg base CX0 1 T.f_asks_of T.fd_asks_of ["piece"] (sp_asks_of K) := by
  refine T.F_asks_of.ok sc_asks_of (fun vs H Q E h => ?_) (fun cdv A outer s H vs Q E hr h => ?_)
  · obtain ⟨a, z, xs, n, rfl, ha, hn, q⟩ := h
    rfl
  · obtain ⟨a, z, xs, n, rfl, ha, hn, q⟩ := h
    refine ⟨_, PSs.nox (pss_one (ps_ret (pe_slice sl_tupS (pv 0) (po_some pe_int) (po_some (pe_op op_add pe_int (pe_ix (ix_K (x := "ASKED") (K' := K) (w' := w) rfl rfl T.e_ASKED DW.k_ASKED (DW.v_ASKED w)) (pe_glob (v := .ref T.C_ASKED) (by rfl) T.g_ASKED rfl) (pe_ix ix_tup (pv 0) pe_int (fun _ _ => rfl)) (fun _ _ => rfl))))))), ?_⟩
    refine ⟨.ref a, rfl, 1, rfl, .ref a, rfl, a, _, 0, _, rfl, rfl, SqT.mk ha, atI_nat (j := 0) rfl, z, (n : Int), rfl, rfl, hn, _, _, rfl, rfl, _, rfl, a, _, rfl, ha, fun G t sG ht => ?_⟩
    rw [cut_1n] at ht
    exact q G t sG ht
/-! pieces of machines -/
inductive Pie
  | make (m : Mk) (k : Nat)
  | less (a : Nat)
  | both (a b : Nat)
  | either (a b : Nat)
  | oneof (a b : Nat)
  | pick (a b c : Nat)
  | keep (a b f : Nat)
  | late (a : Nat) (h : List Int)
  | keeper (a b : Nat) (m : Mk) (mo at_ : Nat)
def PieAt (H : Hp) : Pie → V → Prop
  | .make m k, v => ∃ t x, v = .ref t ∧ H t = some (.tup [.str "make", x, .int (k : Nat)]) ∧ MkAt H m x
  | .less a, v => ∃ t, v = .ref t ∧ H t = some (.tup [.str "less", .int (a : Nat)])
  | .both a b, v => ∃ t, v = .ref t ∧ H t = some (.tup [.str "both", .int (a : Nat), .int (b : Nat)])
  | .either a b, v => ∃ t, v = .ref t ∧ H t = some (.tup [.str "either", .int (a : Nat), .int (b : Nat)])
  | .oneof a b, v => ∃ t, v = .ref t ∧ H t = some (.tup [.str "oneof", .int (a : Nat), .int (b : Nat)])
  | .pick a b c, v => ∃ t, v = .ref t ∧ H t = some (.tup [.str "pick", .int (a : Nat), .int (b : Nat), .int (c : Nat)])
  | .keep a b f, v => ∃ t, v = .ref t ∧ H t = some (.tup [.str "keep", .int (a : Nat), .int (b : Nat), .int (f : Nat)])
  | .late a h, v => ∃ t s, v = .ref t ∧ H t = some (.tup [.str "late", .int (a : Nat), .ref s]) ∧ H s = some (.tup (h.map V.int))
  | .keeper a b m mo at_, v => ∃ t x, v = .ref t ∧ H t = some (.tup [.str "keeper", .int (a : Nat), .int (b : Nat), x, .int (mo : Nat), .int (at_ : Nat)]) ∧ MkAt H m x
theorem PieAt.keep {H H' : Hp} (s : ∀ a xs, H a = some (.tup xs) → H' a = some (.tup xs)) : ∀ {P : Pie} {v : V}, PieAt H P v → PieAt H' P v
  | .make _ _, _, ⟨t, x, e, h, k⟩ => ⟨t, x, e, s _ _ h, k.keep s⟩
  | .less _, _, ⟨t, e, h⟩ => ⟨t, e, s _ _ h⟩
  | .both _ _, _, ⟨t, e, h⟩ => ⟨t, e, s _ _ h⟩
  | .either _ _, _, ⟨t, e, h⟩ => ⟨t, e, s _ _ h⟩
  | .oneof _ _, _, ⟨t, e, h⟩ => ⟨t, e, s _ _ h⟩
  | .pick _ _ _, _, ⟨t, e, h⟩ => ⟨t, e, s _ _ h⟩
  | .keep _ _ _, _, ⟨t, e, h⟩ => ⟨t, e, s _ _ h⟩
  | .late _ _, _, ⟨t, b, e, h, k⟩ => ⟨t, b, e, s _ _ h, s _ _ k⟩
  | .keeper _ _ _ _ _, _, ⟨t, x, e, h, k⟩ => ⟨t, x, e, s _ _ h, k.keep s⟩
theorem PieAt.same {H H' : Hp} {P : Pie} {v : V} (h : PieAt H P v) (s : Same H H') : PieAt H' P v := h.keep fun _ _ e => s _ _ e
theorem PieAt.but {H H' : Hp} {P : Pie} {v : V} {p : Addr} {n : Nat} (h : PieAt H P v) (B : Bx H p n) (s : But p H H') : PieAt H' P v := h.keep fun _ _ e => s _ _ (B.ne_tup e) e
def Mk.Wl (m : Mk) : Prop := m.Ok ∧ m.inn.Vd ∧ m.dep ≤ 3 ∧ m.rnd ≤ 4096
def Pie.Ok (i n : Nat) : Pie → Prop
  | .make m k => m.Wl ∧ k ≤ 64
  | .less a => a < i
  | .both a b => a < i ∧ b < i
  | .either a b => a < i ∧ b < i
  | .oneof a b => a < i ∧ b < i
  | .pick a b c => a < i ∧ b < i ∧ c < i
  | .keep a b f => a < i ∧ b < i ∧ f < 2
  | .late a h => a < n ∧ (1 ≤ h.length ∧ h.length ≤ 16) ∧ ∀ x, x ∈ h → 0 ≤ x ∧ x < 2
  | .keeper a b m mo at_ => a < n ∧ b < n ∧ m.Wl ∧ 1 ≤ mo ∧ mo ≤ 64 ∧ at_ ≤ mo
/-- the pieces of a machine, one after the other -/
inductive PisAt (H : Hp) : List Pie → List V → Prop
  | nil : PisAt H [] []
  | cons {P : Pie} {Ps : List Pie} {v : V} {vs : List V} : PieAt H P v → PisAt H Ps vs → PisAt H (P :: Ps) (v :: vs)
theorem PisAt.keep {H H' : Hp} (s : ∀ a xs, H a = some (.tup xs) → H' a = some (.tup xs)) {Ps : List Pie} {vs : List V} (h : PisAt H Ps vs) : PisAt H' Ps vs := by
  induction h with
  | nil => exact .nil
  | cons a _ ih => exact .cons (a.keep s) ih
theorem PisAt.same {H H' : Hp} {Ps : List Pie} {vs : List V} (h : PisAt H Ps vs) (s : Same H H') : PisAt H' Ps vs := h.keep fun _ _ e => s _ _ e
theorem PisAt.but {H H' : Hp} {Ps : List Pie} {vs : List V} {p : Addr} {n : Nat} (h : PisAt H Ps vs) (B : Bx H p n) (s : But p H H') : PisAt H' Ps vs := h.keep fun _ _ e => s _ _ (B.ne_tup e) e
theorem PisAt.len {H : Hp} {Ps : List Pie} {vs : List V} (h : PisAt H Ps vs) : vs.length = Ps.length := by
  induction h with
  | nil => rfl
  | cons _ _ ih => rw [List.length_cons, List.length_cons, ih]
theorem PisAt.snoc {H : Hp} {Ps : List Pie} {vs : List V} {P : Pie} {v : V} (h : PisAt H Ps vs) (g : PieAt H P v) : PisAt H (Ps ++ [P]) (vs ++ [v]) := by
  induction h with
  | nil => exact .cons g .nil
  | cons a _ ih => exact .cons a ih
theorem PisAt.get {H : Hp} {Ps : List Pie} {vs : List V} (h : PisAt H Ps vs) {i : Nat} {P : Pie} (e : Ps[i]? = some P) : ∃ v, vs[i]? = some v ∧ PieAt H P v := by
  induction h generalizing i with
  | nil => cases e
  | cons a _ ih =>
    cases i with
    | zero => cases e; exact ⟨_, rfl, a⟩
    | succ i => exact ih (by simpa using e)
def PsOk (n : Nat) (Ps : List Pie) : Prop := ∀ (i : Nat) (P : Pie), Ps[i]? = some P → P.Ok i n
theorem PsOk.snoc {n : Nat} {Ps : List Pie} {P : Pie} (h : PsOk n Ps) (g : P.Ok Ps.length n) : PsOk n (Ps ++ [P]) := fun i R e => by
  by_cases l : i < Ps.length
  · rw [List.getElem?_append_left l] at e
    exact h i R e
  · have := (List.getElem?_eq_some_iff.mp e).1
    rw [List.length_append, List.length_singleton] at this
    obtain rfl : i = Ps.length := by omega
    rw [List.getElem?_append_right (Nat.le_refl _), Nat.sub_self] at e
    cases e
    exact g
/-! enumerate of a tuple -/
abbrev itObj (l : Addr) : Obj := { cls := .type "tuple_iterator", data := .fields #[.ref l, .int 0 0] }
abbrev enObj (a : Addr) : Obj := { cls := .type "enumerate", data := .fields #[.none, .bool false, .ref a, rawInt 0, .none, .none] }
set_option maxHeartbeats 1000000 in
theorem enum_newT (l : Addr) (items : Array Value) : Meets (Builtin.«enumerate.__new__» ⟨[.type "enumerate", .ref l], []⟩)
    (fun _ R s => s.heap.IsTuple l items ∧ R (.ok (.ret (.ref (s.heap.push (itObj l)).objs.size))) { s with heap := (s.heap.push (itObj l)).push (enObj s.heap.objs.size) }) :=
  .of_wp fun prog w A R s h => by
    obtain ⟨hp, g, d, tk, os⟩ := s
    obtain ⟨h1, h⟩ := h
    have hsub := sub_enumerate
    have q1 : ∀ {A' : Around} {E : Value → Shared → Prop} {Q : Value → Shared → Prop}, Q (.ref hp.objs.size) ⟨hp.push (itObj l), g, d, tk, os⟩ → wpAny (model prog w) A' (pyIter (.ref l)) Q E ⟨hp, g, d, tk, os⟩ := fun q => (begins_tuple l items).iter prog w _ _ ⟨hp, g, d, tk, os⟩ _ h1 q
    obtain ⟨⟨c, dct, dt, sl⟩, hl, hc, n, hd⟩ := h1
    replace hc : c = .type "tuple" := hc
    replace hd : dt = .seq items n := hd
    subst hc hd
    wp_walk using AutoSeq1.wpAny_loadPart' hl, q1
    refine wpAny_stack_any fun st => wpAny_pure ?_
    split
    · rename_i c _ _ _ _ _
      cases (c == Value.type "enumerate") <;> (wp_walk using AutoSeq1.wpAny_loadPart' hl, q1; exact ⟨_, rfl, h⟩)
    · wp_walk using AutoSeq1.wpAny_loadPart' hl, q1
      exact ⟨_, rfl, h⟩
theorem enum_callT {prog : Program} {w : World} {A : Around} {E : Value → Shared → Prop} {s : Shared} {l : Addr} {items : Array Value} {Q : Value → Shared → Prop} (hL : s.heap.IsTuple l items)
    (h : ∀ h', IsEnum h' (s.heap.objs.size + 1) s.heap.objs.size 0 .none → h'.IsTupleIter s.heap.objs.size l 0 → (∀ b o, s.heap.get? b = some o → h'.get? b = some o) → Q (.ref (s.heap.objs.size + 1)) { s with heap := h' }) :
    wpAny (model prog w) A (call (.type "enumerate") [.ref l]) Q E s := by
  refine callType_new F.called_enumerate (by decide) (F.typeCall_enumerate_1 _) (F.newCall_enumerate_1 _) (fun obj => F.args_object_init_2 obj _) F.entry_enumerate_new (enum_newT l items) ⟨hL, ?_⟩
  have hz : (s.heap.push (itObj l)).objs.size = s.heap.objs.size + 1 := Heap.size_push ..
  show _ ∧ _
  rw [hz]
  have he : IsEnum ((s.heap.push (itObj l)).push (enObj s.heap.objs.size)) (s.heap.objs.size + 1) s.heap.objs.size 0 .none := by
    have e := Heap.get?_push_size (s.heap.push (itObj l)) (o := enObj s.heap.objs.size) rfl
    rw [hz] at e
    exact e
  exact ⟨⟨_, he, rfl⟩, h _ he ⟨_, Heap.get?_push_of_some _ (Heap.get?_push_size _ rfl), rfl, rfl⟩ fun b o x => Heap.get?_push_of_some _ (Heap.get?_push_of_some _ x)⟩
/-- the tuple at a, each item in a new pair -/
def ItN (K : PySem.W.Frag) (a : Addr) : It :=
  ⟨fun i H => ∃ (xs : List V) (x : V), SqT K H a xs ∧ xs[i]? = some x, fun i H v H' => ∃ T x, v = .ref T ∧ H T = none ∧ H' = upd H T (.tup [.int (i : Nat), x]) ∧ ∀ xs, SqT K H a xs → xs[i]? = some x, fun i H => ∃ xs : List V, SqT K H a xs ∧ xs.length ≤ i⟩
theorem turn_N {P : Program} {w : World} {K : PySem.W.Frag} {elts : List Expr} {kk : Nat} {tpos : Pos} (a e it : Addr) (hae : a ≠ e) (hai : a ≠ it) :
    Turn P w K (.Tuple elts kk tpos) (ItN K a) [e, it] e (fun i h => (∃ old, IsEnum h e it ((i : Nat) : Int) old) ∧ h.IsTupleIter it a i ∧ e ≠ it) where
  mem := List.mem_cons_self
  obj := fun i h st b hb => by
    obtain ⟨⟨old, he⟩, ⟨o, ho, hc, hd⟩, _⟩ := st
    rcases List.mem_cons.mp hb with z | z
    · rw [z]
      exact ⟨_, he, fun v q => nomatch q⟩
    · rw [List.mem_singleton.mp z]
      exact ⟨o, ho, fun v q => by rw [hd] at q; cases q⟩
  keep := fun i h h' st k => let ⟨⟨old, he⟩, hi, hne⟩ := st; ⟨⟨old, k e List.mem_cons_self _ he⟩, hi.at fun o q => k it (List.mem_cons_of_mem _ List.mem_cons_self) o q, hne⟩
  item := by
    intro X hP hw hK hc i pins s σ H E I hf st hg
    subst hP hw hK
    obtain ⟨⟨old, he⟩, hit, hne⟩ := st
    obtain ⟨xs, x, hq, hx⟩ := hg
    obtain ⟨its, rv, p, hz⟩ := I.tuple hq
    obtain ⟨u, hu, ru⟩ := rv.get hx
    have hel : e < s.heap.objs.size := Heap.lt_size he
    have hil : it < s.heap.objs.size := by
      obtain ⟨_, q, _⟩ := hit
      exact Heap.lt_size q
    have hlt : i < its.toArray.size := by
      rw [List.size_toArray]
      exact (List.getElem?_eq_some_iff.mp hu).1
    refine wpAny_pyNext_enum_itemD (Draws.tuple (A := X.A.in1) (I.ok.hd hc) it a hai its.toArray) he ⟨hit, (show s.heap.IsTuple a its.toArray from p)⟩ hlt hne (fun z => ?_) fun x' h' tk hP' ho hst' hT hsz hk => ?_
    · rcases List.mem_cons.mp z with z | z
      · exact hne z
      · exact hae (List.mem_singleton.mp z).symm
    have ex : x' = u := by
      have hP' : its.toArray[i]? = some x' := hP'
      have hu' : its.toArray[i]? = some u := by simpa using hu
      rw [hu'] at hP'
      exact (Option.some.inj hP').symm
    subst ex
    refine ⟨_, rfl, wpAny_letOwnedTupleGo_enum (s := { s with heap := h', toks := tk + 1 }) ho fun h'' he' sb => ?_⟩
    have hT2 : h''.get? s.heap.objs.size = some { cls := .type "tuple", data := .seq #[.int i tk, x'] } := (sb.2 _ (Nat.ne_of_gt hel)).trans hT
    have new : ObjOk X.prog X.w (upd H s.heap.objs.size (.tup [.int (i : Nat), x])) h'' s.heap.objs.size (.tup [.int (i : Nat), x]) := ⟨(show 2 ≤ sizeLine by decide), [.int i tk, x'], .cons ⟨_, rfl⟩ (.cons ru .nil), ⟨_, hT2, rfl, _, rfl⟩⟩
    have I1 : Inv X pins σ (upd H s.heap.objs.size (.tup [.int (i : Nat), x])) { s with heap := h'', toks := tk + 1 } :=
      I.turnedNew (ch := [e, it]) (fun b ob hb q => (sb.2 b (fun z => hb (by rw [z]; exact List.mem_cons_self))).trans (hk b ob (fun z => hb (by rw [z]; exact List.mem_cons_self)) (fun z => hb (by rw [z]; exact List.mem_cons_of_mem _ List.mem_cons_self)) q)) hf (Nat.le_refl _) new
    refine ⟨.ref s.heap.objs.size, _, I1, rfl, ⟨_, x, rfl, I.hok.fresh (Nat.le_refl _), rfl, fun ys hy => by rw [I.tuple_inj hy hq]; exact hx⟩, ⟨⟨x', ?_⟩, hst'.1.at fun o q => (sb.2 it (Ne.symm hne)).trans q, hne⟩, fun b hb => ?_⟩
    · rw [show ((i + 1 : Nat) : Int) = (i : Int) + 1 by omega]
      exact he'
    · have hb' : b < s.heap.objs.size := by
        rcases List.mem_cons.mp hb with z | z
        · rw [z]
          exact hel
        · rw [List.mem_singleton.mp z]
          exact hil
      rw [upd_ne (Nat.ne_of_lt hb')]
      exact (hf b hb).1
  done := by
    intro X hP hw hK hc i pins s σ H E I hf st hg
    subst hP hw hK
    obtain ⟨⟨old, he⟩, hit, hne⟩ := st
    obtain ⟨xs, hq, hx⟩ := hg
    obtain ⟨its, rv, p, hz⟩ := I.tuple hq
    obtain ⟨f0, f1, f2, f3, f4, f5⟩ := hf it (List.mem_cons_of_mem _ List.mem_cons_self)
    have hl := rv.length
    have hT : s.TypeIs (.ref e) "enumerate" := ⟨_, he, rfl⟩
    have hend : its.toArray[i]? = none := by
      rw [List.getElem?_toArray, List.getElem?_eq_none (by omega)]
    unfold pyNext
    refine wpAny_bind (wpAny_attempt (wpAny_callSpecial?_slot (name := Str.ofString "__next__") hT F.slot_enumerate_next (wpAny_call_entry F.slot_enumerate_next hT F.entry_enumerate_next ?_ (F.args_enumerate_next_1 _))))
    show wpAny _ _ (field (.ref e) 2 >>= _) _ _ _
    refine wpAny_bind (wpAny_field he rfl (x := .ref it) rfl ?_)
    refine wpAny_bind (wpAny_nextOf_tuple_end (I.ok.hd hc) hit (show s.heap.IsTuple a its.toArray from p) hend fun h' x eb hx' => ?_)
    obtain ⟨o, ho, hcl⟩ := hx'
    refine wpAny_bind (wpAny_isInstance (T := "StopIteration") (b := true) ⟨o, ho, hcl⟩ isSubtype_stop ?_)
    exact wpAny_pure ⟨rfl, I.turned (t' := s.toks) (fun b o hb q => eb b o hb q) f0 f1 f3 f4 f5⟩
  self := fun A i s Q E st h => let ⟨⟨_, he⟩, _⟩ := st; wpAny_pyIter_enum he h
def iEnumT (K : PySem.W.Frag) (ta : TA) : TI := fun σ H R => ta σ H fun vs H1 => ∃ a xs, vs = [.ref a] ∧ SqT K H1 a xs ∧ R (ItN K a) H1
theorem pi_enumT {X : Cx} {e : Expr} {ta : TA} {p pos tpos : Pos} {elts : List Expr} {kk : Nat} (hg : Gl X "enumerate") (hm : X.mg "enumerate" = none) (ha : PA X [e] ta) (hs : starEach [e] X.env = [(false, eval e X.env)] := by rfl) :
    PI X (.Tuple elts kk tpos) (.Call (.Name "enumerate" p) [e] [] pos) (iEnumT X.K ta) := by
  refine ⟨fun pins s σ H R I h => ?_⟩
  refine Call_ (ld_blt I hg hm boot_enumerate (PyProof.Rows.callWith_type1 (thn (ha.run pos pins s σ H _ I h) fun us s1 ⟨vs, H1, I1, r1, q1⟩ => ?_) hs rfl))
  obtain ⟨a, xs, ex, hq, q⟩ := q1
  subst ex
  rw [Vals.ref1 r1]
  obtain ⟨its, rv, p', hz⟩ := I1.tuple hq
  have lta : a < s1.heap.objs.size := by
    obtain ⟨o, ho, _⟩ := id p'
    exact Heap.lt_size ho
  refine enum_callT (show s1.heap.IsTuple a its.toArray from p') fun h' he hit hk => wpAny_pyIter_enum he ?_
  have I2 : Inv X pins σ H1 { s1 with heap := h' } := I1.kept (t' := s1.toks) hk
  refine ⟨s1.heap.objs.size + 1, [s1.heap.objs.size + 1, s1.heap.objs.size], _, _, H1, rfl, I2, turn_N a (s1.heap.objs.size + 1) s1.heap.objs.size (Nat.ne_of_lt (Nat.lt_succ_of_lt lta)) (Nat.ne_of_lt lta), ⟨⟨.none, he⟩, hit, Nat.succ_ne_self _⟩, fun b hb => ?_, q⟩
  have hle : s1.heap.objs.size ≤ b := by
    rcases List.mem_cons.mp hb with z | z
    · rw [z]
      exact Nat.le_succ _
    · rw [List.mem_singleton.mp z]
      exact Nat.le_refl _
  exact I1.fpOk hle (I1.hok.fresh hle)
theorem walk_enumT {K : PySem.W.Frag} {a : Addr} {xs : List V} : Walk (ItN K a) xs.length (fun H => SqT K H a xs) (YPair (fun i => some (.int (i : Nat))) (fun i => xs[i]?)) := by
  refine ⟨fun i _ hi q => ⟨xs, xs[i], q, List.getElem?_eq_getElem hi⟩, fun _ q => ⟨xs, q, Nat.le_refl _⟩, fun i H v H' _ q y => ?_⟩
  obtain ⟨T, x, h1, h2, h3, h4⟩ := y
  exact ⟨T, .int (i : Nat), x, h1, h2, h3, rfl, h4 xs q⟩
theorem inK {X : Cx} {K : PySem.W.Frag} (h : X.K = K) : OpR X (compareOp .In) (rIn K false) := by
  subst h
  exact op_in_seq
/-! rules for machines: tuple(d.values()), match on a list, xs[i] += e -/
section
variable {prog : Program} {w : World} {A : Around} {E : Value → Shared → Prop} {s : Shared} {r d : Addr} {K0 : Type} [DecidableEq K0] {knd : PySem.KeyKind prog w K0} {kvs : List (K0 × Value)} {ep : Nat}
theorem code_tuple_new_vals {Q₁ : Value → Shared → Prop} (hh : A.handled = none) (hok : s.heap.IsValuesView r d ∧ s.heap.DictAt knd d kvs ep) (hn : kvs.length ≤ sizeLine)
    (h : ∀ (h' : Heap) (tk : Nat) (acc : Array Value), (∀ b o, s.heap.get? b = some o → h'.get? b = some o) → ItemsOf (fun i v => ∃ k, kvs[i]? = some (k, v)) acc kvs.length →
      Q₁ (.ref h'.objs.size) { s with heap := h'.push { cls := .type "tuple", data := .seq acc }, toks := tk }) :
    codeAny (model prog w) A (.call (.builtin "tuple.__new__") ⟨[.type "tuple", .ref r], []⟩) (wants Q₁ E) s := by
  refine codeAny_of_tree ?_
  show wpAny _ A.in1 (do checkBuiltinCall "tuple.__new__" ⟨[.type "tuple", .ref r], []⟩; again (.builtin "tuple.__new__" ⟨[.type "tuple", .ref r], []⟩)) _ _ s
  refine wpAny_bind (wpAny_of_eq (PySem.F.newCall_tuple_1 _) (wpAny_pure ⟨plainId_quiet PySem.F.plain_tuple_new _, codeAny_builtin PySem.F.entry_tuple_new ?_⟩))
  rw [Around.under_plainId PySem.F.plain_tuple_new _]
  have hsub := sub_tuple_self
  have hinit := init_tuple_lookup
  have hmh := madeHere_tuple
  have hTI : s.TypeIs (.ref r) "dict_values" := hok.1.typeIs
  have hh1 : A.in1.handled = none := hh
  wp_walk using wpAny_typeOf hTI, PySem.W.kdu_collect (A := A.in1) (PySem.W.kdl_values (prog := prog) (w := w) (knd := knd) (r := r) (d := d) (kvs := kvs) (ep := ep)) hh1 hok hn
  intro h' tk acc hk hacc
  show wpAny _ _ (Builtin.Tuple.tupleExact acc.toList.toArray >>= fun v => ret v) _ _ _
  unfold Builtin.Tuple.tupleExact
  refine wpAny_bind (wpAny_newObj_type ?_ (by show acc.toList.toArray.size ≤ sizeLine; simp only [Array.toArray_toList]; rw [hacc.1]; exact hn))
  refine wpAny_pure ?_
  have e : acc.toList.toArray = acc := by simp
  rw [e]
  exact h h' tk acc hk hacc
theorem call_tuple_vals {Q : Value → Shared → Prop} (hh : A.handled = none) (hok : s.heap.IsValuesView r d ∧ s.heap.DictAt knd d kvs ep) (hn : kvs.length ≤ sizeLine)
    (hQ : ∀ (h' : Heap) (tk : Nat) (acc : Array Value), (∀ b o, s.heap.get? b = some o → h'.get? b = some o) → ItemsOf (fun i v => ∃ k, kvs[i]? = some (k, v)) acc kvs.length →
      Q (.ref h'.objs.size) { s with heap := h'.push { cls := .type "tuple", data := .seq acc }, toks := tk }) :
    wpAny (model prog w) A (call (.type "tuple") [.ref r]) Q E s := by
  refine callType_codes (Q₁ := fun obj s₁ => s₁.TypeIs obj "tuple" ∧ Q obj s₁) PySem.F.called_tuple (PySem.F.typeCall_tuple_1 _) PySem.F.entry_object_init
    (code_tuple_new_vals (A := A.in1) hh hok hn fun h' tk acc hk hacc => ⟨⟨_, Heap.get?_push_size _ rfl, rfl⟩, hQ h' tk acc hk hacc⟩) fun obj s₁ h₁ => ?_
  exact ⟨h₁.1, PySem.F.args_object_init_2 obj _, object_init_meets PySem.F.called_tuple.init.lookup PySem.F.called_tuple.made (by decide) prog w A.in1 _ s₁ ⟨h₁.1, rfl, h₁.2⟩⟩
end
theorem kv_vals {κ : Type} : ∀ {kvs : List (κ × V)} {vs : List (κ × Value)} {us : List Value}, KV kvs vs → us.length = vs.length → (∀ (j : Nat) (u : Value), us[j]? = some u → ∃ k, vs[j]? = some (k, u)) → Vals (kvs.map (·.2)) us
  | [], [], us, _, l, _ => by
    have : us = [] := List.eq_nil_of_length_eq_zero l
    rw [this]
    exact .nil
  | p :: kvs, q :: vs, us, r, l, h => by
    match us, l with
    | u :: us, l =>
      obtain ⟨k, e⟩ := h 0 u rfl
      obtain ⟨x, h1, h2⟩ := KV.at' r e
      obtain rfl : p = (k, x) := Option.some.inj h1
      refine .cons h2 (kv_vals (vs := vs) (by cases r; assumption) (Nat.succ.inj l) fun j u e => ?_)
      exact h (j + 1) u (by simpa using e)
  | [], _ :: _, us, r, _, _ => by cases r
  | _ :: _, [], us, r, _, _ => by cases r
def tTupVals (td : TE) : TE := fun σ H Q => td σ H fun x H1 => ∃ a kvs, x = V.ref a ∧ H1 a = some (.dK kvs) ∧ kvs.length ≤ sizeLine ∧ ∀ q, H1 q = none → Q (.ref q) (upd H1 q (.tup (kvs.map (·.2))))
theorem pe_tupVals {X : Cx} {o : Expr} {p pos apos mpos : Pos} {td : TE} (hc : X.calm = true) (hg : Gl X "tuple") (hm : X.mg "tuple" = none) (hd : PE X o td) (hbase : attributeBase o "values" X.env (eval o X.env) = eval o X.env := by rfl) (hline : (apos.endLine == mpos.line) = true := by rfl)
    (na : starEach [Expr.Call (.Attribute o "values" apos) [] [] mpos] X.env = (false, eval (Expr.Call (.Attribute o "values" apos) [] [] mpos) X.env) :: starEach [] X.env := by rfl) :
    PE X (.Call (.Name "tuple" p) [.Call (.Attribute o "values" apos) [] [] mpos] [] pos) (tTupVals td) := by
  refine ⟨fun pins s σ H Q I h => ?_⟩
  refine Call_ (ld_blt I hg hm boot_tuple (PyProof.Rows.callWith_type1 (args_cons (wpAny_Call_method0_late hbase hline (thn (hd.run pins s σ H _ I h) fun v s1 ⟨x, H1, I1, r1, a, kvs, ex, ha, hl, q⟩ => ?_)) na) na))
  subst ex
  obtain rfl : v = Value.ref a := r1
  obtain ⟨_, hsys, vs, rel, dof⟩ := dk_of I1.hok ha
  obtain ⟨ep, dat⟩ := dof.dictAt
  have dat' := dat
  obtain ⟨ob, es, ho, ex, hdat, hko, hpr, hnd⟩ := dat'
  refine ⟨"dict", "dict.values", PySem.F.plainAttrs_dict, PySem.F.slot_dict_values, PySem.F.type_dict_values, ⟨ob, ho, ex.1⟩, fun b e => ?_, Calls.callWith_builtin rfl (PySem.evalArgs_none ?_)⟩
  · cases e
    exact ⟨ob, ho, ex.2.1⟩
  refine call_meetsIn PySem.F.slot_dict_values ⟨ob, ho, ex.1⟩ PySem.F.entry_dict_values (PySem.F.args_dict_values_1 _) (meets_dict_values (mixKind X.prog X.w) a hsys) ⟨⟨vs, dof⟩, ?_⟩
  have k1 : ∀ b u, s1.heap.get? b = some u → (s1.heap.push { cls := .type "dict_values", data := .fields #[.ref a] }).get? b = some u := fun b u e => Heap.get?_push_of_some _ e
  have dat1 : (s1.heap.push { cls := .type "dict_values", data := .fields #[.ref a] }).DictAt (mixKind X.prog X.w) a vs ep := dat.keep k1
  have hlv : vs.length = kvs.length := (KV.length rel).symm
  refine args_nil ?_
  refine call_tuple_vals (d := a) (knd := mixKind X.prog X.w) (I.ok.hd hc) ⟨⟨_, Heap.get?_push_size _ rfl, rfl, rfl⟩, dat1⟩ (by omega) fun h' tk acc hk hacc => ?_
  have I2 : Inv X pins σ H1 { s1 with heap := h', toks := tk } := I1.kept (t' := tk) fun b o e => hk b o (k1 b o e)
  have rv : Vals (kvs.map (·.2)) acc.toList := kv_vals rel (by rw [Array.length_toList]; exact hacc.1) fun j u e => hacc.2 j u (by rw [← Array.getElem?_toList]; exact e)
  have I3 : Inv X pins σ (upd H1 h'.objs.size (.tup (kvs.map (·.2)))) { s1 with heap := h'.push { cls := .type "tuple", data := .seq acc }, toks := tk } := by
    refine I2.laid (t' := tk) (fun b o e => Heap.get?_push_of_some _ e) (Nat.le_refl _) ⟨by rw [List.length_map]; exact hl, acc.toList, rv, ?_⟩
    have := IsTup.new h' acc
    simpa using this
  exact ⟨.ref h'.objs.size, upd H1 h'.objs.size (.tup (kvs.map (·.2))), I3, rfl, q _ (I2.hok.fresh (Nat.le_refl _))⟩
/-- xs[i], by values -/
theorem get_list {X : Cx} : PGet X (rIxL X.K) := by
  intro pins s σ H o i ov iv Q I ro ri h
  obtain ⟨p, xs, k, z, rfl, rfl, hq, he, q⟩ := h
  cases ro
  obtain ⟨t, rfl⟩ := ri
  obtain ⟨its, r, pl, hz⟩ := I.list hq
  obtain ⟨j, h1, h2, h3, h4, h5⟩ := atI_get he
  obtain ⟨w, ew, rw'⟩ := r.get h2
  have hl := r.length
  have hn := line63
  have fin : EP X pins σ Q w s := ⟨z, H, I, rw', q⟩
  by_cases h0 : 0 ≤ k
  · have hj : k.toNat = j := by
      rw [seqIndex_of h0 h5] at h1
      exact Option.some.inj h1
    exact wpAny_getItem_list pl.isList h0 (by omega) (by rw [hj]; simpa using ew) fin
  · have hj : (k + (its.toArray.size : Int)).toNat = j := by
      rw [seqIndex_neg (by omega) h4] at h1
      rw [List.size_toArray, ← hl]
      exact Option.some.inj h1
    exact wpAny_getItem_list_neg pl.isList (by omega) (by rw [List.size_toArray] <;> omega) (by omega) (by rw [hj]; simpa using ew) fin
/-! match on a list -/
abbrev TCl := Addr → List V → TS
structure PCl (X : Cx) (cs : List MatchCase) (t : TCl) : Prop where
  run : ∀ (pins : List (Addr × Obj)) (s : Shared) (σ : L2.St) (H : Hp) (D : L2.Ends) (a : Addr) (xs : List V) (first : Bool), Inv X pins σ H s → SqL X.K H a xs → t a xs D σ H →
    wpAny (model X.prog X.w) X.A (matchCases cs X.env (.ref a) first) (SP X pins D) X.xe s
def tMatchL (K : PySem.W.Frag) (te : TE) (tc : TCl) : TS := fun D σ H => te σ H fun v H1 => ∃ a xs, v = .ref a ∧ SqL K H1 a xs ∧ tc a xs D σ H1
theorem ps_matchL {X : Cx} {e : Expr} {cs : List MatchCase} {pos : Pos} {te : TE} {tc : TCl} (he : PE X e te) (hc : PCl X cs tc) : PS X (.Match e cs pos) (tMatchL X.K te tc) := by
  refine ⟨fun pins s σ H D I h => ?_⟩
  refine wpAny_Match (thn (he.run pins s σ H _ I h) fun v s1 ⟨x, H1, I1, r1, a, xs, e1, hq, q⟩ => ?_)
  subst e1
  cases r1
  exact hc.run pins s1 σ H1 D a xs true I1 hq q
theorem pcl_nil {X : Cx} : PCl X [] (fun _ _ D σ H => D.nx σ H) := ⟨fun _ _ σ H _ _ _ _ I _ h => wpAny_matchCases_nil ⟨σ, H, I, h⟩⟩
theorem pcl_any {X : Cx} {body : List Stmt} {rest : List MatchCase} {pos : Pos} {tb : TS} (hb : PSs X body tb) : PCl X (⟨.MatchAs none none pos, none, body⟩ :: rest) (fun _ _ => tb) := by
  refine ⟨fun pins s σ H D a xs first I hq h => wpAny_matchCases_cons (wpAny_matchPattern_Capture ?_)⟩
  exact wpAny_assignInOrder_none (hb.run pins s σ H D I h)
def tCaseL (word : Str) (is : List Nat) (tb : TS) (rest : TCl) : TCl := fun a xs D σ H =>
  (xs.length ≠ is.length + 1 ∧ rest a xs D σ H) ∨ ∃ z ys, xs = .str z :: ys ∧ ys.length = is.length ∧ ((z = word ∧ tb D (sets σ is ys) H) ∨ (z ≠ word ∧ rest a xs D σ H))
theorem pcl_seq {X : Cx} {e : Expr} {word : Str} {vp sp : Pos} {ps : List Pattern} {ns : List (Nat × Str)} {body : List Stmt} {rest : List MatchCase} {tb : TS} {tr : TCl} (hc : X.calm = true) (hN : X.N.Nodup) (hw : PE X e (tC (.str word))) (hcap : PCap X ps ns) (hb : PSs X body tb) (hr : PCl X rest tr)
    (hstar : (.MatchValue e vp :: ps).findIdx? (·.isStar) = none := by rfl) (hwild : ((.MatchValue e vp :: ps).all fun p => p.isWildcard || (p.isStar && p.names.isEmpty)) = false := by rfl) :
    PCl X (⟨.MatchSequence (.MatchValue e vp :: ps) sp, none, body⟩ :: rest) (tCaseL word (ns.map Prod.fst) tb tr) := by
  refine ⟨fun pins s σ H D a xs first I hq h => ?_⟩
  obtain ⟨its, rv, ht, hz⟩ := I.list hq
  have hl := rv.length
  have hl' : s.heap.IsList a its.toArray := by
    obtain ⟨o, m, e, c, d, q⟩ := ht
    exact ⟨o, e, c, m, q⟩
  have hsl : sizeLine = 16777216 := by decide
  have hfit : ((its.toArray.size : Nat) : Int) < 2 ^ 63 := by
    rw [List.size_toArray]
    omega
  have lp := hcap.len
  have miss : ∀ s', Inv X pins σ H s' → tr a xs D σ H → wpAny (model X.prog X.w) X.A (matchCases rest X.env (.ref a) false) (SP X pins D) X.xe s' := fun s' I' q => hr.run pins s' σ H D a xs false I' hq q
  refine wpAny_matchCases_cons ?_
  rcases h with ⟨hn, h⟩ | ⟨z, ys, rfl, hn, h⟩
  · rw [List.length_map] at hn
    refine matchSeq_list_miss hl' hfit (by rw [List.size_toArray, List.length_cons]; omega) ?_ hstar hwild
    exact miss _ (I.kept (t' := s.toks + 1 + 1) fun b o q => q) h
  · rw [List.length_map] at hn
    rw [List.length_cons] at hl
    refine matchSeq_list_hit hl' hfit (by rw [List.size_toArray, List.length_cons]; omega) ?_ hstar hwild
    have e1 : (Pattern.MatchValue e vp :: ps).length = its.toArray.size := by
      rw [List.size_toArray, List.length_cons]
      omega
    have key : ∀ s2 : Shared, Inv X pins σ H s2 → wpAny (model X.prog X.w) X.A (matchEach (.MatchValue e vp :: ps) X.env its) (fun r s₁ => match r with
        | none => wpAny (model X.prog X.w) X.A (matchCases rest X.env (.ref a) false) (SP X pins D) X.xe s₁
        | some bs => wpAny (model X.prog X.w) X.A (assignInOrder (bs.map fun (n, _) => bindName X.env n) (bs.map (·.2))) (fun _ s₂ => wpAny (model X.prog X.w) X.A (execs body X.env) (SP X pins D) X.xe s₂) X.xe s₁) X.xe s2 := fun s2 I1 => by
      clear e1 hfit hz ht hl'
      match its, rv, hl with
      | u :: us, .cons r1 r2, hl =>
        refine wpAny_matchEach_cons (wpAny_matchPattern_Value ?_)
        refine thn (hw.run pins s2 σ H (fun v H' => v = .str word ∧ H' = H) I1 ⟨rfl, rfl⟩) fun c s3 ⟨x, H3, I3, r3, e3, e4⟩ => ?_
        subst e3 e4
        refine thn (op_eq pins s3 σ H3 (.str z) (.str word) u c (fun v H' => v = .bl (decide (V.str z = V.str word)) ∧ H' = H3) I3 r1 r3 ⟨rfl, rfl, rfl⟩) fun d s4 ⟨y, H4, I4, r4, e5, e6⟩ => ?_
        subst e5 e6
        obtain rfl : d = Value.bool (decide (V.str z = V.str word)) := r4
        refine wpAny_truthy_bool ?_
        rcases h with ⟨rfl, h⟩ | ⟨ne, h⟩
        · rw [if_pos (decide_eq_true rfl)]
          have ul : us.length = ns.length := by
            have := r2.length
            omega
          refine hcap.each s4 us _ ul ?_
          show wpAny _ _ (assignInOrder _ _) _ _ s4
          exact bind_all hN ns us ys σ s4 _ hcap.slot ul r2 I4 fun s5 I5 => hb.run pins s5 _ H4 D I5 h
        · rw [if_neg (fun y => ne (V.str.inj (of_decide_eq_true y)))]
          exact miss s4 I4 h
    rw [e1]
    refine PySem.W.kun_itemsOf (I.ok.hd hc) hl' fun h' hx => ?_
    have I1 : Inv X pins σ H { s with heap := h', toks := s.toks + 1 + 1 } := I.kept (t' := s.toks + 1 + 1) fun b o q => hx b o (Nat.ne_of_lt (Heap.lt_size q)) q
    refine key _ ?_
    exact I1
/-- o.f within a comprehension -/
theorem pe_fldK {X : Cx} {K : PySem.W.Frag} {e : Expr} {f : Str} {pos : Pos} {ta : TE} (h : X.K = K) (he : PE X e ta) (hb : attributeBase e f X.env (eval e X.env) = eval e X.env := by rfl) : PE X (.Attribute e f pos) (tFld K ta f) := by
  subst h
  exact pe_fld he hb
/-- d.update(e), both dicts -/
def rDUpd : V → List V → Hp → VK → Prop := fun x xs H Q => ∃ (d o : Addr) (kvs more : List (Key × V)), x = .ref d ∧ xs = [.ref o] ∧ H d = some (.dK kvs) ∧ H o = some (.dK more) ∧ d ≠ o ∧ kvs.length + more.length ≤ 1000 ∧ Q .non (upd H d (.dK (mergeK kvs more)))
theorem mt_dupdate {X : Cx} : MtR X "dict.update" rDUpd := by
  intro pins s σ H x xs v us Q I rx rxs h
  obtain ⟨d, o, kvs, more, rfl, rfl, hd, ho, ne, hz, q⟩ := h
  cases rx
  obtain ⟨u, rfl, ru⟩ := rxs.one
  cases ru
  obtain ⟨z1, hd1, vs, rel, dd⟩ := dk_of I.hok hd
  obtain ⟨z2, hd2, ws, rel2, dd2⟩ := dk_of I.hok ho
  have hsl : sizeLine = 16777216 := by decide
  refine call_meetsIn PySem.F.slot_dict_update dd.typeIs PySem.F.entry_dict_update (PySem.F.args_dict_update_2 _ _) (meets_dict_update (mixKind X.prog X.w) d o ne hd2) ⟨vs, ws, dd, dd2, by rw [← rel.length, ← rel2.length]; omega, fun h' dd' _ hs => ?_⟩
  have he : ∃ q, h'.get? d = some q := let ⟨q, _, _, hq, _⟩ := dd'; ⟨q, hq⟩
  have hl : (mergeK kvs more).length ≤ sizeLine := by
    have := length_mergeK more kvs
    omega
  exact ⟨.non, _, d_write I (by rw [hd]; exact True.intro) hs he (dk_new hl hd1 (rel2.merge rel) dd'), rfl, q⟩
theorem slSK {X : Cx} {K : PySem.W.Frag} (h : X.K = K) : SlR X (rSlS K) := by
  subst h
  exact sl_tupS
theorem tupIK {X : Cx} {K : PySem.W.Frag} {tg l : Expr} {tl : TE} (h : X.K = K) (hl : PE X l tl) : PI X tg l (iTup K tl) := by
  subst h
  exact pi_tup hl
theorem neDK {X : Cx} {K : PySem.W.Frag} (h : X.K = K) (hu : X.A.units + 64 < cLine) : OpR X (compareOp .NotEq) (rNeD K) := by
  subst h
  exact op_neD hu
theorem anyK {X : Cx} {K : PySem.W.Frag} (h : X.K = K) (hc : X.calm = true) : CallR X (.builtin "any") (rAny K) := by
  subst h
  exact cr_any hc
/-- what is held behind a beat -/
def mvd (m a u d : Int) : Int := if d < u then (if m ≤ a then a else a + 1) else if u < d then (if a ≤ 0 then a else a - 1) else a
def Bt (u : Int) : Prop := u = 0 ∨ u = 1
def sp_moved (_ : PySem.W.Frag) : Sp := fun vs H Q _ => ∃ m a u d : Int, vs = [.int m, .int a, .int u, .int d] ∧ Bt u ∧ Bt d ∧ Q (.int (mvd m a u d)) H
theorem ok_moved (T : Defs K mg) (TT : Tabs T base) : FnOk P w K mg base CX0 1 T.f_moved T.fd_moved ["most", "at", "up", "down"] (sp_moved K) := by
  refine T.F_moved.ok sc_moved (fun vs H Q E h => ?_) (fun cdv A outer s H vs Q E hr h => ?_)
  · obtain ⟨m, a, u, d, rfl, hu, hd, q⟩ := h
    rfl
  · obtain ⟨m, a, u, d, rfl, hu, hd, q⟩ := h
    refine ⟨_, PSs.nox (pss_cons (ps_if (PW.pt (pw_or (PW.pt (pw_and (pt_cmpR op_gt (pv 2) (pv 3) (nomark _)) (pw_and1 (pt_cmpR op_ge (pv 1) (pv 0) (nomark _))))) (pw_or1 (PW.pt (pw_and (pt_cmpR op_lt (pv 2) (pv 3) (nomark _)) (pw_and1 (pt_cmpR op_le (pv 1) pe_int (nomark _)))))))) (pss_one (ps_ret (pv 1))) pss_nil)
    (pss_one (ps_ret (pe_op op_sub (pe_op op_add (pv 1) (pv 2)) (pv 3))))), ?_⟩
    unfold mvd at q
    have bu : -(2 ^ 64) < u ∧ u < 2 ^ 64 := by rcases hu with rfl | rfl <;> omega
    have fin : ∀ x : Int, (if d < u then (if m ≤ a then a else a + 1) else if u < d then (if a ≤ 0 then a else a - 1) else a) = x → Q (.int x) H := fun x e => by rw [← e]; exact q
    refine ⟨_, rfl, _, rfl, _, _, rfl, rfl, _, rfl, ite2 (fun e1 => ?_) (fun e1 => ?_)⟩
    · have l : d < u := of_decide_eq_true e1
      refine ⟨_, rfl, _, rfl, _, _, rfl, rfl, _, rfl, ite2 (fun e2 => ?_) (fun e2 => ?_)⟩
      · have l2 : m ≤ a := of_decide_eq_true e2
        exact ⟨_, rfl, fin _ (by rw [if_pos l, if_pos l2])⟩
      · have l2 : ¬ m ≤ a := fun z => e2 (decide_eq_true z)
        refine ⟨_, rfl, _, rfl, _, _, rfl, rfl, _, rfl, ite2 (fun e3 => ?_) (fun e3 => ?_)⟩
        · have : u < d := of_decide_eq_true e3
          omega
        · refine iteF ⟨_, rfl, _, rfl, _, _, rfl, rfl, _, rfl, _, _, rfl, rfl, fin _ ?_⟩
          rw [if_pos l, if_neg l2]
          rcases hu with rfl | rfl <;> rcases hd with rfl | rfl <;> omega
    · have l : ¬ d < u := fun z => e1 (decide_eq_true z)
      refine ⟨_, rfl, _, rfl, _, _, rfl, rfl, _, rfl, ite2 (fun e3 => ?_) (fun e3 => ?_)⟩
      · have l3 : u < d := of_decide_eq_true e3
        refine ⟨_, rfl, _, _, rfl, rfl, _, rfl, ite2 (fun e2 => ?_) (fun e2 => ?_)⟩
        · have l2 : a ≤ 0 := of_decide_eq_true e2
          exact ⟨_, rfl, fin _ (by rw [if_neg l, if_pos l3, if_pos l2])⟩
        · have l2 : ¬ a ≤ 0 := fun z => e2 (decide_eq_true z)
          refine ⟨_, rfl, _, rfl, _, _, rfl, rfl, _, rfl, _, _, rfl, rfl, fin _ ?_⟩
          rw [if_neg l, if_pos l3, if_neg l2]
          rcases hu with rfl | rfl <;> rcases hd with rfl | rfl <;> omega
      · have l3 : ¬ u < d := fun z => e3 (decide_eq_true z)
        refine iteF ⟨_, rfl, _, rfl, _, _, rfl, rfl, _, rfl, _, _, rfl, rfl, fin _ ?_⟩
        rw [if_neg l, if_neg l3]
        omega
/-! what machines do -/
inductive Hd
  | non
  | bit (b : Int)
  | ah (bs : List Int)
  | num (i : Int)
def Hd.At (H : Hp) : Hd → V → Prop
  | .non, v => v = .non
  | .bit b, v => v = .int b
  | .ah bs, v => ∃ t, v = .ref t ∧ H t = some (.tup (bs.map V.int))
  | .num i, v => v = .int i
theorem Hd.At.keep {H H' : Hp} (s : ∀ a xs, H a = some (.tup xs) → H' a = some (.tup xs)) : ∀ {h : Hd} {v : V}, h.At H v → h.At H' v
  | .non, _, e => e
  | .bit _, _, e => e
  | .ah _, _, ⟨t, e, k⟩ => ⟨t, e, s _ _ k⟩
  | .num _, _, e => e
theorem Hd.At.same {H H' : Hp} {h : Hd} {v : V} (x : h.At H v) (s : Same H H') : h.At H' v := x.keep fun _ _ e => s _ _ e
def Hd.bitD : Hd → Int
  | .bit b => b
  | _ => 0
def Hd.ahD : Hd → List Int
  | .ah bs => bs
  | _ => []
def Hd.numD : Hd → Int
  | .num i => i
  | _ => 0
def Pie.mkr : Pie → Option Mk
  | .make m _ => some m
  | .keeper _ _ m _ _ => some m
  | _ => none
noncomputable def Pie.nums (P : Pie) : List Int := match P.mkr with
  | some m => (List.range m.rnd).map fun (i : Nat) => m.val i
  | none => [0]
noncomputable def Pie.num (P : Pie) (t : Nat) : Int := P.nums.getD (t % P.nums.length) 0
def Pie.word : Pie → Str
  | .make _ _ => "make"
  | .less _ => "less"
  | .both _ _ => "both"
  | .either _ _ => "either"
  | .oneof _ _ => "oneof"
  | .pick _ _ _ => "pick"
  | .keep _ _ _ => "keep"
  | .late _ _ => "late"
  | .keeper _ _ _ _ _ => "keeper"
def Pie.asks : Pie → List Nat
  | .make _ _ => []
  | .less a => [a]
  | .both a b => [a, b]
  | .either a b => [a, b]
  | .oneof a b => [a, b]
  | .pick a b c => [a, b, c]
  | .keep a b _ => [a, b]
  | .late a _ => [a]
  | .keeper a b _ _ _ => [a, b]
def Pie.first : Pie → Hd
  | .keep _ _ f => .bit f
  | .late _ h => .ah h
  | .keeper _ _ _ _ i => .num i
  | _ => .non
def Pie.bit (P : Pie) (x : Int) (h : Hd) (as : List Int) : Int := match P with
  | .make _ k => if x < k then 1 else 0
  | .less _ => 1 - as.getD 0 0
  | .both _ _ => as.getD 0 0 * as.getD 1 0
  | .either _ _ => as.getD 0 0 + as.getD 1 0 - as.getD 0 0 * as.getD 1 0
  | .oneof _ _ => as.getD 0 0 + as.getD 1 0 - 2 * (as.getD 0 0 * as.getD 1 0)
  | .pick _ _ _ => if as.getD 0 0 = 1 then as.getD 1 0 else as.getD 2 0
  | .keep _ _ _ => if as.getD 1 0 = 1 then as.getD 0 0 else h.bitD
  | .late _ _ => h.ahD.getD 0 0
  | .keeper _ _ _ _ _ => if x < h.numD then 1 else 0
def Pie.next (P : Pie) (h : Hd) (own : Int) (as : List Int) : Hd := match P with
  | .keep _ _ _ => .bit own
  | .late _ _ => .ah ((h.ahD ++ [as.getD 0 0]).drop 1)
  | .keeper _ _ _ mo _ => .num (mvd mo h.numD (as.getD 0 0) (as.getD 1 0))
  | _ => h
/-- what a piece holds is of its kind -/
def Pie.Hok : Pie → Hd → Prop
  | .keep _ _ _, h => ∃ b : Int, h = .bit b ∧ (b = 0 ∨ b = 1)
  | .late _ ah, h => ∃ bs : List Int, h = .ah bs ∧ Bits bs ∧ bs.length = ah.length
  | .keeper _ _ _ mo _, h => ∃ i : Int, h = .num i ∧ 0 ≤ i ∧ i ≤ mo
  | _, h => h = .non
def dPie : Pie := .less 0
def asked (P : Pie) (bs : List Int) : List Int := P.asks.map fun a => bs.getD a 0
/-- the bits of the first pieces -/
noncomputable def bup (Ps : List Pie) (t : Nat) (hs : List Hd) : Nat → List Int
  | 0 => []
  | i + 1 => bup Ps t hs i ++ [(Ps.getD i dPie).bit ((Ps.getD i dPie).num t) (hs.getD i .non) (asked (Ps.getD i dPie) (bup Ps t hs i))]
noncomputable def sta (Ps : List Pie) : Nat → List Hd
  | 0 => Ps.map Pie.first
  | t + 1 => (List.range Ps.length).map fun i => (Ps.getD i dPie).next ((sta Ps t).getD i .non) ((bup Ps t (sta Ps t) Ps.length).getD i 0) (asked (Ps.getD i dPie) (bup Ps t (sta Ps t) Ps.length))
noncomputable def bts (Ps : List Pie) (t : Nat) : List Int := bup Ps t (sta Ps t) Ps.length
theorem bup_len (Ps : List Pie) (t : Nat) (hs : List Hd) : ∀ i, (bup Ps t hs i).length = i
  | 0 => rfl
  | i + 1 => by
    show (bup Ps t hs i ++ [_]).length = i + 1
    rw [List.length_append, bup_len Ps t hs i]
    rfl
theorem bup_get {Ps : List Pie} {t : Nat} {hs : List Hd} {a : Nat} : ∀ {i : Nat}, a < i → ∀ n, i ≤ n → (bup Ps t hs n).getD a 0 = (bup Ps t hs i).getD a 0 := by
  intro i h n hn
  induction n with
  | zero => omega
  | succ n ih =>
    by_cases e : i = n + 1
    · rw [e]
    · show (bup Ps t hs n ++ [_]).getD a 0 = _
      rw [List.getD_eq_getElem?_getD, List.getElem?_append_left (by rw [bup_len]; omega), ← List.getD_eq_getElem?_getD]
      exact ih (by omega)
theorem bup_own {Ps : List Pie} {t : Nat} {hs : List Hd} {i n : Nat} (h : i < n) : (bup Ps t hs n).getD i 0 = (Ps.getD i dPie).bit ((Ps.getD i dPie).num t) (hs.getD i .non) (asked (Ps.getD i dPie) (bup Ps t hs i)) := by
  rw [bup_get (i := i + 1) (by omega) n (by omega)]
  show (bup Ps t hs i ++ [_]).getD i 0 = _
  rw [List.getD_eq_getElem?_getD, List.getElem?_append_right (by rw [bup_len]; exact Nat.le_refl _), bup_len, Nat.sub_self]
  rfl
theorem sta_len (Ps : List Pie) : ∀ t, (sta Ps t).length = Ps.length
  | 0 => List.length_map _
  | t + 1 => by
    show ((List.range Ps.length).map _).length = _
    rw [List.length_map, List.length_range]
theorem bts_len (Ps : List Pie) (t : Nat) : (bts Ps t).length = Ps.length := bup_len Ps t _ _
def B01 (x : Int) : Prop := x = 0 ∨ x = 1
theorem bits_getD {bs : List Int} (h : Bits bs) (i : Nat) : B01 (bs.getD i 0) := by
  rw [List.getD_eq_getElem?_getD]
  cases e : bs[i]? with
  | none => exact .inl rfl
  | some x => exact h x (List.mem_of_getElem? e)
theorem asked_bits {P : Pie} {bs : List Int} (h : Bits bs) : Bits (asked P bs) := fun x hx => by
  obtain ⟨a, _, rfl⟩ := List.mem_map.mp hx
  exact bits_getD h a
theorem ite01 {c : Prop} [Decidable c] : B01 (if c then (1 : Int) else 0) := by
  split
  · exact .inr rfl
  · exact .inl rfl
theorem Pie.bit01 {P : Pie} {x : Int} {h : Hd} {as : List Int} {i n : Nat} (ok : P.Ok i n) (hk : P.Hok h) (ha : Bits as) : B01 (P.bit x h as) := by
  have a0 := bits_getD ha 0
  have a1 := bits_getD ha 1
  have a2 := bits_getD ha 2
  unfold B01 at a0 a1 a2
  cases P with
  | make m k => exact ite01
  | less a => show B01 (1 - as.getD 0 0); unfold B01; omega
  | both a b =>
    show B01 (as.getD 0 0 * as.getD 1 0)
    rcases a0 with e | e <;> rcases a1 with f | f <;> rw [e, f] <;> first | exact .inl rfl | exact .inr rfl
  | either a b =>
    show B01 (as.getD 0 0 + as.getD 1 0 - as.getD 0 0 * as.getD 1 0)
    rcases a0 with e | e <;> rcases a1 with f | f <;> rw [e, f] <;> first | exact .inl rfl | exact .inr rfl
  | oneof a b =>
    show B01 (as.getD 0 0 + as.getD 1 0 - 2 * (as.getD 0 0 * as.getD 1 0))
    rcases a0 with e | e <;> rcases a1 with f | f <;> rw [e, f] <;> first | exact .inl rfl | exact .inr rfl
  | pick a b c =>
    show B01 (if as.getD 0 0 = 1 then as.getD 1 0 else as.getD 2 0)
    split
    · exact a1
    · exact a2
  | keep a b f =>
    obtain ⟨b, rfl, hb⟩ := hk
    show B01 (if as.getD 1 0 = 1 then as.getD 0 0 else b)
    split
    · exact a0
    · exact hb
  | late a ah =>
    obtain ⟨bs, rfl, hb, _⟩ := hk
    exact bits_getD hb 0
  | keeper a b m mo at_ => exact ite01
theorem mvd_mid {m a u d : Int} (hu : B01 u) (hd : B01 d) (h0 : 0 ≤ a) (h1 : a ≤ m) : 0 ≤ mvd m a u d ∧ mvd m a u d ≤ m := by
  unfold mvd
  unfold B01 at hu hd
  split
  · split <;> omega
  · split
    · split <;> omega
    · omega
theorem Pie.next_ok {P : Pie} {h : Hd} {own : Int} {as : List Int} {i n : Nat} (ok : P.Ok i n) (hk : P.Hok h) (ho : B01 own) (ha : Bits as) : P.Hok (P.next h own as) := by
  cases P with
  | keep a b f => exact ⟨own, rfl, ho⟩
  | late a ah =>
    obtain ⟨bs, rfl, hb, hl⟩ := hk
    obtain ⟨_, ⟨l1, _⟩, _⟩ : a < n ∧ (1 ≤ ah.length ∧ ah.length ≤ 16) ∧ _ := ok
    refine ⟨(bs ++ [as.getD 0 0]).drop 1, rfl, fun x hx => ?_, ?_⟩
    · rcases List.mem_append.mp (List.mem_of_mem_drop hx) with hx | hx
      · exact hb x hx
      · rw [List.mem_singleton.mp hx]
        exact bits_getD ha 0
    · rw [List.length_drop, List.length_append]
      show bs.length + 1 - 1 = _
      omega
  | keeper a b m mo at_ =>
    obtain ⟨j, rfl, h0, h1⟩ := hk
    exact ⟨_, rfl, mvd_mid (bits_getD ha 0) (bits_getD ha 1) h0 h1⟩
  | _ => exact hk
theorem Pie.first_ok {P : Pie} {i n : Nat} (ok : P.Ok i n) : P.Hok P.first := by
  cases P with
  | keep a b f =>
    obtain ⟨_, _, hf⟩ : a < i ∧ b < i ∧ f < 2 := ok
    exact ⟨_, rfl, by omega⟩
  | late a ah =>
    obtain ⟨_, _, hb⟩ : a < n ∧ (1 ≤ ah.length ∧ ah.length ≤ 16) ∧ ∀ x, x ∈ ah → 0 ≤ x ∧ x < 2 := ok
    exact ⟨ah, rfl, fun x hx => by have := hb x hx; omega, rfl⟩
  | keeper a b m mo at_ =>
    obtain ⟨_, _, _, _, _, ha⟩ : a < n ∧ b < n ∧ m.Wl ∧ 1 ≤ mo ∧ mo ≤ 64 ∧ at_ ≤ mo := ok
    exact ⟨_, rfl, by omega, by omega⟩
  | _ => rfl
theorem getD_of {α : Type} {xs : List α} {i : Nat} {x d : α} (h : xs[i]? = some x) : xs.getD i d = x := by
  rw [List.getD_eq_getElem?_getD, h]
  rfl
theorem bup_bits {n : Nat} {Ps : List Pie} {t : Nat} {hs : List Hd} (ok : PsOk n Ps) (hk : ∀ (i : Nat) (P : Pie), Ps[i]? = some P → P.Hok (hs.getD i .non)) : ∀ i, i ≤ Ps.length → Bits (bup Ps t hs i)
  | 0, _ => fun x hx => by cases hx
  | i + 1, hi => fun x hx => by
    have ih := bup_bits (t := t) ok hk i (by omega)
    rcases List.mem_append.mp hx with hx | hx
    · exact ih x hx
    · rw [List.mem_singleton.mp hx]
      have e : Ps[i]? = some Ps[i] := List.getElem?_eq_getElem (by omega)
      rw [getD_of e]
      exact Pie.bit01 (ok i _ e) (hk i _ e) (asked_bits ih)
theorem sta_ok {n : Nat} {Ps : List Pie} (ok : PsOk n Ps) : ∀ (t i : Nat) (P : Pie), Ps[i]? = some P → P.Hok ((sta Ps t).getD i .non)
  | 0, i, P, e => by
    show P.Hok ((Ps.map Pie.first).getD i .non)
    rw [getD_of (show (Ps.map Pie.first)[i]? = some P.first by rw [List.getElem?_map, e]; rfl)]
    exact Pie.first_ok (ok i P e)
  | t + 1, i, P, e => by
    have il := (List.getElem?_eq_some_iff.mp e).1
    have hb := bup_bits (t := t) ok (sta_ok ok t) Ps.length (Nat.le_refl _)
    show P.Hok (((List.range Ps.length).map _).getD i .non)
    rw [getD_of (show ((List.range Ps.length).map _)[i]? = some _ by rw [List.getElem?_map, List.getElem?_range il]; rfl)]
    dsimp only
    rw [getD_of e]
    exact Pie.next_ok (ok i P e) (sta_ok ok t i P e) (bits_getD hb i) (asked_bits hb)
theorem bts_bits {n : Nat} {Ps : List Pie} (ok : PsOk n Ps) (t : Nat) : Bits (bts Ps t) := bup_bits ok (sta_ok ok t) _ (Nat.le_refl _)
theorem sta_succ {Ps : List Pie} {t i : Nat} {P : Pie} (e : Ps[i]? = some P) : (sta Ps (t + 1)).getD i Hd.non = P.next ((sta Ps t).getD i Hd.non) ((bts Ps t).getD i 0) (asked P (bts Ps t)) := by
  have il := (List.getElem?_eq_some_iff.mp e).1
  show ((List.range Ps.length).map _).getD i Hd.non = _
  rw [getD_of (show ((List.range Ps.length).map _)[i]? = some _ by rw [List.getElem?_map, List.getElem?_range il]; rfl)]
  dsimp only
  rw [getD_of e]
  rfl
theorem bts_own {Ps : List Pie} {t i : Nat} {P : Pie} (e : Ps[i]? = some P) : (bts Ps t).getD i 0 = P.bit (P.num t) ((sta Ps t).getD i Hd.non) (asked P (bup Ps t (sta Ps t) i)) := by
  have il := (List.getElem?_eq_some_iff.mp e).1
  show (bup Ps t (sta Ps t) Ps.length).getD i 0 = _
  rw [bup_own il, getD_of e]
/-- a dict from the places to bits -/
def dkv (o : Nat) : List Int → List (Key × V)
  | [] => []
  | b :: bs => (.inl (o : Int), .int b) :: dkv (o + 1) bs
theorem dkv_len : ∀ (bs : List Int) (o : Nat), (dkv o bs).length = bs.length
  | [], _ => rfl
  | _ :: bs, o => by rw [dkv, List.length_cons, List.length_cons, dkv_len bs (o + 1)]
theorem dkv_vals : ∀ (bs : List Int) (o : Nat), (dkv o bs).map (·.2) = bs.map V.int
  | [], _ => rfl
  | b :: bs, o => by rw [dkv, List.map_cons, dkv_vals bs (o + 1)]; rfl
theorem dkv_val : ∀ (bs : List Int) (o a : Nat), valV (dkv o bs) (.inl ((o + a : Nat) : Int)) = (bs[a]?).map V.int
  | [], _, _ => rfl
  | b :: bs, o, 0 => valV_pos (p := ((.inl (o : Int), .int b) : Key × V)) rfl
  | b :: bs, o, a + 1 => by
    have h : (Sum.inl (o : Int) : Key) ≠ .inl ((o + (a + 1) : Nat) : Int) := fun e => by
      have := Sum.inl.inj e
      omega
    rw [dkv]
    have := dkv_val bs (o + 1) a
    rw [show o + 1 + a = o + (a + 1) by omega] at this
    unfold valV at this ⊢
    rw [List.find?_cons, decide_eq_false h]
    exact this
theorem dkv_any : ∀ (bs : List Int) (o c : Nat), o + bs.length ≤ c → ((dkv o bs).any fun kv => decide (kv.1 = (.inl (c : Int) : Key))) = false
  | [], _, _, _ => rfl
  | b :: bs, o, c, h => by
    rw [List.length_cons] at h
    rw [dkv, List.any_cons, dkv_any bs (o + 1) c (by omega), Bool.or_false]
    exact decide_eq_false fun e => by
      have := Sum.inl.inj e
      omega
theorem dkv_snoc : ∀ (bs : List Int) (o : Nat) (b : Int), dkv o (bs ++ [b]) = dkv o bs ++ [(.inl ((o + bs.length : Nat) : Int), .int b)]
  | [], _, _ => rfl
  | x :: bs, o, b => by
    rw [List.cons_append, dkv, dkv, List.cons_append, dkv_snoc bs (o + 1) b, List.length_cons, show o + 1 + bs.length = o + (bs.length + 1) by omega]
theorem dkv_put (bs : List Int) (b : Int) : putK (dkv 0 bs) (.inl (bs.length : Int)) (.int b) = dkv 0 (bs ++ [b]) := by
  unfold putK
  rw [dkv_any bs 0 bs.length (by omega), if_neg Bool.false_ne_true, dkv_snoc, Nat.zero_add]
theorem dkv_get (bs : List Int) (a : Nat) : (valV (dkv 0 bs) (.inl (a : Int))).getD (.int 0) = .int (bs.getD a 0) := by
  have := dkv_val bs 0 a
  rw [Nat.zero_add] at this
  rw [this, List.getD_eq_getElem?_getD]
  cases bs[a]? <;> rfl
theorem dkv_at {bs : List Int} {a : Nat} (h : a < bs.length) : valV (dkv 0 bs) (.inl (a : Int)) = some (.int (bs.getD a 0)) := by
  have := dkv_val bs 0 a
  rw [Nat.zero_add] at this
  rw [this, List.getD_eq_getElem?_getD, List.getElem?_eq_getElem h]
  rfl
theorem cl_skip {word : Str} {is : List Nat} {tb : TS} {rest : TCl} {a : Addr} {xs : List V} {D : L2.Ends} {σ : L2.St} {H : Hp} (h : xs.length ≠ is.length + 1) (r : rest a xs D σ H) : tCaseL word is tb rest a xs D σ H := .inl ⟨h, r⟩
theorem cl_no {word z : Str} {is : List Nat} {tb : TS} {rest : TCl} {a : Addr} {ys : List V} {D : L2.Ends} {σ : L2.St} {H : Hp} (hl : ys.length = is.length) (ne : z ≠ word) (r : rest a (.str z :: ys) D σ H) : tCaseL word is tb rest a (.str z :: ys) D σ H := .inr ⟨z, ys, rfl, hl, .inr ⟨ne, r⟩⟩
theorem cl_yes {word : Str} {is : List Nat} {tb : TS} {rest : TCl} {a : Addr} {ys : List V} {D : L2.Ends} {σ : L2.St} {H : Hp} (hl : ys.length = is.length) (r : tb D (sets σ is ys) H) : tCaseL word is tb rest a (.str word :: ys) D σ H := .inr ⟨word, ys, rfl, hl, .inl ⟨rfl, r⟩⟩
theorem ct_skip {word : Str} {is : List Nat} {tb : TS} {rest : TCs} {a : Addr} {xs : List V} {D : L2.Ends} {σ : L2.St} {H : Hp} (h : xs.length ≠ is.length + 1) (r : rest a xs D σ H) : tCase word is tb rest a xs D σ H := .inl ⟨h, r⟩
theorem ct_no {word z : Str} {is : List Nat} {tb : TS} {rest : TCs} {a : Addr} {ys : List V} {D : L2.Ends} {σ : L2.St} {H : Hp} (hl : ys.length = is.length) (ne : z ≠ word) (r : rest a (.str z :: ys) D σ H) : tCase word is tb rest a (.str z :: ys) D σ H := .inr ⟨z, ys, rfl, hl, .inr ⟨ne, r⟩⟩
theorem ct_yes {word : Str} {is : List Nat} {tb : TS} {rest : TCs} {a : Addr} {ys : List V} {D : L2.Ends} {σ : L2.St} {H : Hp} (hl : ys.length = is.length) (r : tb D (sets σ is ys) H) : tCase word is tb rest a (.str word :: ys) D σ H := .inr ⟨word, ys, rfl, hl, .inl ⟨rfl, r⟩⟩
/-- a piece, as a tuple -/
theorem PieAt.tup {H : Hp} {P : Pie} {v : V} (h : PieAt H P v) : ∃ t xs, v = .ref t ∧ H t = some (.tup (.str P.word :: xs)) ∧ askN P.word = some (P.asks.length : Int) ∧ xs.take P.asks.length = P.asks.map fun (a : Nat) => V.int a := by
  cases P with
  | make m k => obtain ⟨t, x, e, ht, _⟩ := h; exact ⟨t, _, e, ht, (show askN "make" = some ((0 : Nat) : Int) by decide +kernel), rfl⟩
  | late a ah => obtain ⟨t, s, e, ht, _⟩ := h; exact ⟨t, _, e, ht, (show askN "late" = some ((1 : Nat) : Int) by decide +kernel), rfl⟩
  | keeper a b m mo at_ => obtain ⟨t, x, e, ht, _⟩ := h; exact ⟨t, _, e, ht, (show askN "keeper" = some ((2 : Nat) : Int) by decide +kernel), rfl⟩
  | less a => obtain ⟨t, e, ht⟩ := h; exact ⟨t, _, e, ht, (show askN "less" = some ((1 : Nat) : Int) by decide +kernel), rfl⟩
  | both a b => obtain ⟨t, e, ht⟩ := h; exact ⟨t, _, e, ht, (show askN "both" = some ((2 : Nat) : Int) by decide +kernel), rfl⟩
  | either a b => obtain ⟨t, e, ht⟩ := h; exact ⟨t, _, e, ht, (show askN "either" = some ((2 : Nat) : Int) by decide +kernel), rfl⟩
  | oneof a b => obtain ⟨t, e, ht⟩ := h; exact ⟨t, _, e, ht, (show askN "oneof" = some ((2 : Nat) : Int) by decide +kernel), rfl⟩
  | pick a b c => obtain ⟨t, e, ht⟩ := h; exact ⟨t, _, e, ht, (show askN "pick" = some ((3 : Nat) : Int) by decide +kernel), rfl⟩
  | keep a b f => obtain ⟨t, e, ht⟩ := h; exact ⟨t, _, e, ht, (show askN "keep" = some ((2 : Nat) : Int) by decide +kernel), rfl⟩
def sp_round_numbers (_ : PySem.W.Frag) : Sp := fun vs H Q _ => ∃ m v, vs = [v] ∧ MkAt H m v ∧ m.Wl ∧ ∀ H' p, Same H H' → H p = none → H' p = some (.lst (((List.range m.rnd).map fun (i : Nat) => m.val i).map V.int)) → Q (.ref p) H'
theorem ok_round_numbers (T : Defs K mg) (TT : Tabs T base) : FnOk P w K mg base CX0 10 T.f_round_numbers T.fd_round_numbers ["maker"] (sp_round_numbers K) := by
  have G_values_of : FnOk P w K mg base CX0 5 T.f_values_of T.fd_values_of ["maker", "beats"] (sp_values_of K) := ok_values_of T TT
  have G_round_of : FnOk P w K mg base CX0 9 T.f_round_of T.fd_round_of ["maker"] (sp_round_of K) := ok_round_of T TT
  refine T.F_round_numbers.ok sc_round_numbers (fun vs H Q E h => ?_) (fun cdv A outer s H vs Q E hr h => ?_)
  · obtain ⟨m, v, rfl, hm, ⟨ok, vd, dp, rn⟩, q⟩ := h
    rfl
  · obtain ⟨m, v, rfl, hm, ⟨ok, vd, dp, rn⟩, q⟩ := h
    refine ⟨_, PSs.nox (pss_one (ps_ret (pe_call G_values_of (hr.mono (by decide)) (by rfl) T.g_values_of T.F_values_of.kp T.b_values_of .nil pass0 (pa_cons (pv 0) (pa_cons (pe_callB (call_max2 rfl) (by rfl) T.m_max bt_max (pa_cons (pe_call G_round_of (hr.mono (by decide)) (by rfl) T.g_round_of T.F_round_of.kp T.b_round_of .nil pass0 (pa_cons (pv 0) pa_nil)) (pa_cons pe_int pa_nil))) pa_nil))))), ?_⟩
    have r1 := rnd_pos ok
    refine ⟨v, rfl, v, rfl, m, v, rfl, hm, ok, by omega, fun H1 s1 => ⟨_, _, rfl, m, v, m.rnd, congrArg (fun z => [v, V.int z]) ?_, hm.same s1, ok, by omega, fun H2 p s2 np hp => q H2 p (s1.trans s2) (s1.free np) hp⟩⟩
    split <;> omega
def sp_numbers_of (_ : PySem.W.Frag) : Sp := fun vs H Q _ => ∃ (P : Pie) (v : V) (i n : Nat), vs = [v] ∧ PieAt H P v ∧ P.Ok i n ∧ ∀ H' p, Same H H' → H p = none → H' p = some (.lst (P.nums.map V.int)) → Q (.ref p) H'
theorem ok_numbers_of (T : Defs K mg) (TT : Tabs T base) : FnOk P w K mg base CX0 11 T.f_numbers_of T.fd_numbers_of ["piece"] (sp_numbers_of K) := by
  have G_round_numbers : FnOk P w K mg base CX0 10 T.f_round_numbers T.fd_round_numbers ["maker"] (sp_round_numbers K) := ok_round_numbers T TT
  refine T.F_numbers_of.ok sc_numbers_of (fun vs H Q E h => ?_) (fun cdv A outer s H vs Q E hr h => ?_)
  · obtain ⟨P, v, i, n, rfl, hP, ok, q⟩ := h
    rfl
  · obtain ⟨P, v, i, n, rfl, hP, ok, q⟩ := h
    refine ⟨_, PSs.nox (pss_one (ps_match (pv 0) (pcs_seq rfl sc_numbers_of.nd pe_str (pcap_cons (i := 1) rfl (.inl rfl) (pcap_cons (i := 2) rfl (.inl rfl) pcap_nil)) (pss_one (ps_ret (pe_call G_round_numbers (hr.mono (by decide)) (by rfl) T.g_round_numbers T.F_round_numbers.kp T.b_round_numbers .nil pass0 (pa_cons (pv 1) pa_nil))))
    (pcs_seq rfl sc_numbers_of.nd pe_str (pcap_cons (i := 3) rfl (.inl rfl) (pcap_cons (i := 4) rfl (.inl rfl) (pcap_cons (i := 1) rfl (.inl rfl) (pcap_cons (i := 5) rfl (.inl rfl) (pcap_cons (i := 6) rfl (.inl rfl) pcap_nil))))) (pss_one (ps_ret (pe_call G_round_numbers (hr.mono (by decide)) (by rfl) T.g_round_numbers T.F_round_numbers.kp T.b_round_numbers .nil pass0 (pa_cons (pv 1) pa_nil))))
    (pcs_any (pss_one (ps_ret (pe_lst (pa_cons pe_int pa_nil))))))))), ?_⟩
    cases P with
    | make m k =>
      obtain ⟨t, x, rfl, ht, hm⟩ := hP
      exact ⟨.ref t, rfl, t, _, rfl, SqT.mk ht, ct_yes rfl ⟨x, rfl, m, x, rfl, hm, ok.1, q⟩⟩
    | keeper a b m mo at_ =>
      obtain ⟨t, x, rfl, ht, hm⟩ := hP
      exact ⟨.ref t, rfl, t, _, rfl, SqT.mk ht, ct_skip (by simp) (ct_yes rfl ⟨x, rfl, m, x, rfl, hm, ok.2.2.1, q⟩)⟩
    | late a ah =>
      obtain ⟨t, s, rfl, ht, _⟩ := hP
      exact ⟨.ref t, rfl, t, _, rfl, SqT.mk ht, ct_no rfl (by decide +kernel) (ct_skip (by simp) ⟨(show 1 ≤ sizeLine by decide), fun p np => q _ p (same_upd np) np upd_same⟩)⟩
    | less a =>
      obtain ⟨t, rfl, ht⟩ := hP
      exact ⟨.ref t, rfl, t, _, rfl, SqT.mk ht, ct_skip (by simp) (ct_skip (by simp) ⟨(show 1 ≤ sizeLine by decide), fun p np => q _ p (same_upd np) np upd_same⟩)⟩
    | both a b =>
      obtain ⟨t, rfl, ht⟩ := hP
      exact ⟨.ref t, rfl, t, _, rfl, SqT.mk ht, ct_no rfl (by decide +kernel) (ct_skip (by simp) ⟨(show 1 ≤ sizeLine by decide), fun p np => q _ p (same_upd np) np upd_same⟩)⟩
    | either a b =>
      obtain ⟨t, rfl, ht⟩ := hP
      exact ⟨.ref t, rfl, t, _, rfl, SqT.mk ht, ct_no rfl (by decide +kernel) (ct_skip (by simp) ⟨(show 1 ≤ sizeLine by decide), fun p np => q _ p (same_upd np) np upd_same⟩)⟩
    | oneof a b =>
      obtain ⟨t, rfl, ht⟩ := hP
      exact ⟨.ref t, rfl, t, _, rfl, SqT.mk ht, ct_no rfl (by decide +kernel) (ct_skip (by simp) ⟨(show 1 ≤ sizeLine by decide), fun p np => q _ p (same_upd np) np upd_same⟩)⟩
    | pick a b c =>
      obtain ⟨t, rfl, ht⟩ := hP
      exact ⟨.ref t, rfl, t, _, rfl, SqT.mk ht, ct_skip (by simp) (ct_skip (by simp) ⟨(show 1 ≤ sizeLine by decide), fun p np => q _ p (same_upd np) np upd_same⟩)⟩
    | keep a b f =>
      obtain ⟨t, rfl, ht⟩ := hP
      exact ⟨.ref t, rfl, t, _, rfl, SqT.mk ht, ct_skip (by simp) (ct_skip (by simp) ⟨(show 1 ≤ sizeLine by decide), fun p np => q _ p (same_upd np) np upd_same⟩)⟩
def sp_held_first (_ : PySem.W.Frag) : Sp := fun vs H Q _ => ∃ (P : Pie) (v : V), vs = [v] ∧ PieAt H P v ∧ ∀ v', P.first.At H v' → Q v' H
theorem ok_held_first (T : Defs K mg) (TT : Tabs T base) : FnOk P w K mg base CX0 1 T.f_held_first T.fd_held_first ["piece"] (sp_held_first K) := by
  refine T.F_held_first.ok sc_held_first (fun vs H Q E h => ?_) (fun cdv A outer s H vs Q E hr h => ?_)
  · obtain ⟨P, v, rfl, hP, q⟩ := h
    rfl
  · obtain ⟨P, v, rfl, hP, q⟩ := h
    refine ⟨_, PSs.nox (pss_one (ps_match (pv 0) (pcs_seq rfl sc_held_first.nd pe_str (pcap_cons (i := 1) rfl (.inl rfl) (pcap_cons (i := 2) rfl (.inl rfl) (pcap_cons (i := 3) rfl (.inl rfl) pcap_nil))) (pss_one (ps_ret (pv 3)))
    (pcs_seq rfl sc_held_first.nd pe_str (pcap_cons (i := 1) rfl (.inl rfl) (pcap_cons (i := 4) rfl (.inl rfl) pcap_nil)) (pss_one (ps_ret (pv 4)))
    (pcs_seq rfl sc_held_first.nd pe_str (pcap_cons (i := 1) rfl (.inl rfl) (pcap_cons (i := 2) rfl (.inl rfl) (pcap_cons (i := 5) rfl (.inl rfl) (pcap_cons (i := 6) rfl (.inl rfl) (pcap_cons (i := 7) rfl (.inl rfl) pcap_nil))))) (pss_one (ps_ret (pv 7)))
    (pcs_any (pss_one (ps_ret pe_non)))))))), ?_⟩
    cases P with
    | make m k =>
      obtain ⟨t, x, rfl, ht, hm⟩ := hP
      exact ⟨.ref t, rfl, t, _, rfl, SqT.mk ht, ct_skip (by simp) (ct_no rfl (by decide +kernel) (ct_skip (by simp) (q _ rfl)))⟩
    | keeper a b m mo at_ =>
      obtain ⟨t, x, rfl, ht, hm⟩ := hP
      exact ⟨.ref t, rfl, t, _, rfl, SqT.mk ht, ct_skip (by simp) (ct_skip (by simp) (ct_yes rfl ⟨_, rfl, q _ rfl⟩))⟩
    | late a ah =>
      obtain ⟨t, s, rfl, ht, hs⟩ := hP
      exact ⟨.ref t, rfl, t, _, rfl, SqT.mk ht, ct_skip (by simp) (ct_yes rfl ⟨_, rfl, q _ ⟨s, rfl, hs⟩⟩)⟩
    | less a =>
      obtain ⟨t, rfl, ht⟩ := hP
      exact ⟨.ref t, rfl, t, _, rfl, SqT.mk ht, ct_skip (by simp) (ct_skip (by simp) (ct_skip (by simp) (q _ rfl)))⟩
    | both a b =>
      obtain ⟨t, rfl, ht⟩ := hP
      exact ⟨.ref t, rfl, t, _, rfl, SqT.mk ht, ct_skip (by simp) (ct_no rfl (by decide +kernel) (ct_skip (by simp) (q _ rfl)))⟩
    | either a b =>
      obtain ⟨t, rfl, ht⟩ := hP
      exact ⟨.ref t, rfl, t, _, rfl, SqT.mk ht, ct_skip (by simp) (ct_no rfl (by decide +kernel) (ct_skip (by simp) (q _ rfl)))⟩
    | oneof a b =>
      obtain ⟨t, rfl, ht⟩ := hP
      exact ⟨.ref t, rfl, t, _, rfl, SqT.mk ht, ct_skip (by simp) (ct_no rfl (by decide +kernel) (ct_skip (by simp) (q _ rfl)))⟩
    | pick a b c =>
      obtain ⟨t, rfl, ht⟩ := hP
      exact ⟨.ref t, rfl, t, _, rfl, SqT.mk ht, ct_no rfl (by decide +kernel) (ct_skip (by simp) (ct_skip (by simp) (q _ rfl)))⟩
    | keep a b f =>
      obtain ⟨t, rfl, ht⟩ := hP
      exact ⟨.ref t, rfl, t, _, rfl, SqT.mk ht, ct_yes rfl ⟨_, rfl, q _ rfl⟩⟩
def sp_bits_asked (_ : PySem.W.Frag) : Sp := fun vs H Q _ => ∃ (t d : Addr) (as : List Nat) (bs : List Int), vs = [.ref t, .ref d] ∧ H t = some (.tup (as.map fun (a : Nat) => V.int a)) ∧ H d = some (.dK (dkv 0 bs)) ∧ as.length ≤ 3 ∧
  ∀ H' p, Same H H' → H p = none → H' p = some (.lst ((as.map fun a => bs.getD a 0).map V.int)) → Q (.ref p) H'
theorem ok_bits_asked (T : Defs K mg) (TT : Tabs T base) : FnOk P w K mg base CX0 1 T.f_bits_asked T.fd_bits_asked ["asks", "bits"] (sp_bits_asked K) := by
  refine T.F_bits_asked.ok sc_bits_asked (fun vs H Q E h => ?_) (fun cdv A outer s H vs Q E hr h => ?_)
  · obtain ⟨t, d, as, bs, rfl, ht, hd, hl, q⟩ := h
    rfl
  · obtain ⟨t, d, as, bs, rfl, ht, hd, hl, q⟩ := h
    refine ⟨_, PSs.nox (pss_one (ps_ret (pe_lc (own := [("asked", 2)]) (g := gName 2) (tt := tYes) rfl sc_bits_asked.nd (pi_tup (pv 0)) (blkOk_by (N := N_bits_asked) (sc := defScope s_bits_asked) (by decide +kernel)) (fun _ _ _ _ _ => (pg_name (i := 2) sc_bits_asked.nd rfl (.inl rfl))) (fun _ _ _ _ _ => pts_nil) (fun _ _ _ _ _ => (pe_dget2 (u1 hr) (pv 1) (pv 2) pe_int ⟨rfl, rfl, rfl, rfl⟩))))), ?_⟩
    have hsl : sizeLine = 16777216 := by decide
    refine ⟨.ref t, rfl, t, rfl, ⟨_, SqT.mk ht⟩, fun C nC => ?_⟩
    refine lc_it (walk_tup (xs := as.map fun (a : Nat) => V.int a)) (fun i G => Same H G ∧ G C = some (.lst (((as.take i).map fun a => bs.getD a 0).map V.int))) ⟨same_upd nC, upd_same⟩ (fun i G _ h => SqT.mk (h.1 _ _ ht)) (fun i x G G' hi h y => ?_) (fun G h => ?_)
    · obtain ⟨sG, hC⟩ := h
      obtain ⟨rfl, hx⟩ := y
      rw [List.getElem?_map] at hx
      obtain ⟨a, ha, rfl⟩ := Option.map_eq_some_iff.mp hx
      refine ⟨rfl, yes_ite ⟨.ref d, rfl, d, rfl, .inl ⟨_, .inl (sG _ _ hd)⟩, _, rfl, _, DGet.k (k := .inl (a : Int)) (sG _ _ hd), ?_⟩⟩
      rw [dkv_get]
      refine ⟨_, hC, by rw [List.length_map, List.length_map, List.length_take]; omega, same_newer sG nC, ?_⟩
      rw [upd_same, List.take_add_one, ha, List.map_append, List.map_append]
      rfl
    · obtain ⟨sG, hC⟩ := h
      rw [List.length_map, List.take_length] at hC
      exact q G C sG nC hC
theorem andB01 {x y : Int} (hx : B01 x) (hy : B01 y) : Builtin.bitAnd x y = x * y := by
  rcases hx with rfl | rfl <;> rcases hy with rfl | rfl <;> decide
theorem orB01 {x y : Int} (hx : B01 x) (hy : B01 y) : Builtin.bitOr x y = x + y - x * y := by
  rcases hx with rfl | rfl <;> rcases hy with rfl | rfl <;> decide
theorem xorB01 {x y : Int} (hx : B01 x) (hy : B01 y) : Builtin.bitXor x y = x + y - 2 * (x * y) := by
  rcases hx with rfl | rfl <;> rcases hy with rfl | rfl <;> decide
theorem len0 {as : List Int} (h : as.length = 0) : as = [] := List.eq_nil_of_length_eq_zero h
theorem len1 {as : List Int} (h : as.length = 1) : ∃ a, as = [a] := by
  match as, h with
  | [a], _ => exact ⟨a, rfl⟩
theorem len2 {as : List Int} (h : as.length = 2) : ∃ a b, as = [a, b] := by
  match as, h with
  | [a, b], _ => exact ⟨a, b, rfl⟩
theorem len3 {as : List Int} (h : as.length = 3) : ∃ a b c, as = [a, b, c] := by
  match as, h with
  | [a, b, c], _ => exact ⟨a, b, c, rfl⟩
def sp_bit_of (_ : PySem.W.Frag) : Sp := fun vs H Q _ => ∃ (P : Pie) (v hv : V) (x : Int) (h : Hd) (l : Addr) (as : List Int) (i n : Nat), vs = [v, .int x, hv, .ref l] ∧ PieAt H P v ∧ P.Ok i n ∧ P.Hok h ∧ h.At H hv ∧ H l = some (.lst (as.map V.int)) ∧ as.length = P.asks.length ∧ Bits as ∧
  ∀ H', Same H H' → Q (.int (P.bit x h as)) H'
theorem ok_bit_of (T : Defs K mg) (TT : Tabs T base) : FnOk P w K mg base CX0 1 T.f_bit_of T.fd_bit_of ["piece", "number", "held", "asked"] (sp_bit_of K) := by
  refine T.F_bit_of.ok sc_bit_of (fun vs H Q E h => ?_) (fun cdv A outer s H vs Q E hr h => ?_)
  · obtain ⟨P, v, hv, x, h, l, as, i, n, rfl, hP, ok, hk, hh, hl, ll, ba, q⟩ := h
    rfl
  · obtain ⟨P, v, hv, x, h, l, as, i, n, rfl, hP, ok, hk, hh, hl, ll, ba, q⟩ := h
    refine ⟨_, PSs.nox (pss_one (ps_matchL (pe_lst (pa_cons (pe_ix ix_tup (pv 0) pe_int (fun _ _ => rfl)) (StX.pa_star (pv 3) pa_nil))) (pcl_seq rfl sc_bit_of.nd pe_str pcap_nil (pss_one (ps_ret (pe_ifExp (pt_cmpR op_lt (pv 1) (pe_ix ix_tup (pv 0) pe_int (fun _ _ => rfl)) (nomark _)) pe_int pe_int)))
    (pcl_seq rfl sc_bit_of.nd pe_str (pcap_cons (i := 4) rfl (.inl rfl) pcap_nil) (pss_one (ps_ret (pe_op op_sub pe_int (pv 4))))
    (pcl_seq rfl sc_bit_of.nd pe_str (pcap_cons (i := 4) rfl (.inl rfl) (pcap_cons (i := 5) rfl (.inl rfl) pcap_nil)) (pss_one (ps_ret (pe_op op_and (pv 4) (pv 5))))
    (pcl_seq rfl sc_bit_of.nd pe_str (pcap_cons (i := 4) rfl (.inl rfl) (pcap_cons (i := 5) rfl (.inl rfl) pcap_nil)) (pss_one (ps_ret (pe_op op_or (pv 4) (pv 5))))
    (pcl_seq rfl sc_bit_of.nd pe_str (pcap_cons (i := 4) rfl (.inl rfl) (pcap_cons (i := 5) rfl (.inl rfl) pcap_nil)) (pss_one (ps_ret (pe_op op_xor (pv 4) (pv 5))))
    (pcl_seq rfl sc_bit_of.nd pe_str (pcap_cons (i := 4) rfl (.inl rfl) (pcap_cons (i := 5) rfl (.inl rfl) (pcap_cons (i := 6) rfl (.inl rfl) pcap_nil))) (pss_one (ps_ret (pe_ifExp (pt_cmpR op_eq (pv 4) pe_int (nomark _)) (pv 5) (pv 6))))
    (pcl_seq rfl sc_bit_of.nd pe_str (pcap_cons (i := 4) rfl (.inl rfl) (pcap_cons (i := 5) rfl (.inl rfl) pcap_nil)) (pss_one (ps_ret (pe_ifExp (pt_cmpR op_eq (pv 5) pe_int (nomark _)) (pv 4) (pv 2))))
    (pcl_seq rfl sc_bit_of.nd pe_str (pcap_cons (i := 4) rfl (.inl rfl) pcap_nil) (pss_one (ps_ret (pe_ifExp (pt_truth (pv 2) (by intro _; rfl)) (pe_ix ix_tup (pv 2) pe_int (fun _ _ => rfl)) (pv 4))))
    (pcl_seq rfl sc_bit_of.nd pe_str (pcap_cons (i := 4) rfl (.inl rfl) (pcap_cons (i := 5) rfl (.inl rfl) pcap_nil)) (pss_one (ps_ret (pe_ifExp (pt_cmpR op_lt (pv 1) (pv 2) (nomark _)) pe_int pe_int)))
    pcl_nil))))))))))), ?_⟩
    have hP0 := hP
    obtain ⟨t, xs, rfl, ht, _, _⟩ := hP.tup
    have hsl : sizeLine = 16777216 := by decide
    have l3 : P.asks.length ≤ 3 := by
      cases P <;> first | exact (by decide : 0 ≤ 3) | exact (by decide : 1 ≤ 3) | exact (by decide : 2 ≤ 3) | exact (by decide : 3 ≤ 3)
    refine ⟨.ref t, rfl, t, _, 0, _, rfl, rfl, SqT.mk ht, atI_nat (j := 0) rfl, .ref l, rfl, l, _, rfl, .inr (SqL.mk hl), ?_, fun d nd => ?_⟩
    · simp only [List.length_cons, List.length_append, List.length_map, List.length_nil]
      omega
    have sd := same_upd nd (o := .lst (V.str P.word :: (as.map V.int ++ [])))
    have ht2 := sd _ _ ht
    have hd := upd_same (H := H) (a := d) (o := .lst (V.str P.word :: (as.map V.int ++ [])))
    have q1 : ∀ b : Int, P.bit x h as = b → Q (.int b) (upd H d (.lst (V.str P.word :: (as.map V.int ++ [])))) := fun b e => e ▸ q _ sd
    have hP2 := hP0.same sd
    have hh2 := hh.same sd
    have fin : ∀ (K : Nat), True := fun _ => trivial
    clear fin
    refine ⟨d, _, rfl, SqL.mk upd_same, ?_⟩
    clear hd
    generalize upd H d (.lst (V.str P.word :: (as.map V.int ++ []))) = G at sd ht2 q1 hP2 hh2 ⊢
    cases P with
    | make m k =>
      obtain rfl := len0 ll
      obtain ⟨t', y, e, hy, _⟩ := hP2
      cases e
      refine cl_yes rfl ⟨_, rfl, .ref t, rfl, t, _, 2, _, rfl, rfl, SqT.mk hy, atI_nat (j := 2) rfl, _, _, rfl, rfl, _, rfl, ite2 (fun c => ?_) (fun c => ?_)⟩
      · exact q1 1 (if_pos (of_decide_eq_true c))
      · exact q1 0 (if_neg fun z => c (decide_eq_true z))
    | less a =>
      obtain ⟨a0, rfl⟩ := len1 ll
      exact cl_skip (by simp) (cl_yes rfl ⟨_, rfl, _, _, rfl, rfl, q1 _ rfl⟩)
    | both a b =>
      obtain ⟨a0, a1, rfl⟩ := len2 ll
      exact cl_skip (by simp) (cl_skip (by simp) (cl_yes rfl ⟨_, rfl, _, rfl, _, _, rfl, rfl, q1 _ (andB01 (ba a0 (by simp)) (ba a1 (by simp))).symm⟩))
    | either a b =>
      obtain ⟨a0, a1, rfl⟩ := len2 ll
      exact cl_skip (by simp) (cl_skip (by simp) (cl_no (z := "either") rfl (by decide +kernel) (cl_yes rfl ⟨_, rfl, _, rfl, _, _, rfl, rfl, q1 _ (orB01 (ba a0 (by simp)) (ba a1 (by simp))).symm⟩)))
    | oneof a b =>
      obtain ⟨a0, a1, rfl⟩ := len2 ll
      exact cl_skip (by simp) (cl_skip (by simp) (cl_no (z := "oneof") rfl (by decide +kernel) (cl_no (z := "oneof") rfl (by decide +kernel) (cl_yes rfl ⟨_, rfl, _, rfl, _, _, rfl, rfl, q1 _ (xorB01 (ba a0 (by simp)) (ba a1 (by simp))).symm⟩))))
    | pick a b c =>
      obtain ⟨a0, a1, a2, rfl⟩ := len3 ll
      refine cl_skip (by simp) (cl_skip (by simp) (cl_skip (by simp) (cl_skip (by simp) (cl_skip (by simp) (cl_yes rfl ⟨_, rfl, rfl, _, rfl, ite2 (fun c => ?_) (fun c => ?_)⟩)))))
      · exact ⟨_, rfl, q1 _ (if_pos (V.int.inj (of_decide_eq_true c)))⟩
      · exact ⟨_, rfl, q1 _ (if_neg fun z => c (decide_eq_true (congrArg V.int z)))⟩
    | keep a b f =>
      obtain ⟨a0, a1, rfl⟩ := len2 ll
      obtain ⟨b0, rfl, _⟩ := hk
      obtain rfl : hv = .int b0 := hh2
      refine cl_skip (by simp) (cl_skip (by simp) (cl_no (z := "keep") rfl (by decide +kernel) (cl_no (z := "keep") rfl (by decide +kernel) (cl_no (z := "keep") rfl (by decide +kernel) (cl_skip (by simp) (cl_yes rfl ⟨_, rfl, rfl, _, rfl, ite2 (fun c => ?_) (fun c => ?_)⟩))))))
      · exact ⟨_, rfl, q1 _ (if_pos (V.int.inj (of_decide_eq_true c)))⟩
      · exact ⟨_, rfl, q1 _ (if_neg fun z => c (decide_eq_true (congrArg V.int z)))⟩
    | late a ah =>
      obtain ⟨a0, rfl⟩ := len1 ll
      obtain ⟨bs, rfl, _, bl⟩ := hk
      obtain ⟨s, rfl, hs⟩ := hh2
      obtain ⟨_, ⟨l1, _⟩, _⟩ : a < n ∧ (1 ≤ ah.length ∧ ah.length ≤ 16) ∧ _ := ok
      cases bs with
      | nil => exact absurd bl (by simp only [List.length_nil]; omega)
      | cons b0 br =>
        exact cl_skip (by simp) (cl_no (z := "late") rfl (by decide +kernel) (cl_skip (by simp) (cl_skip (by simp) (cl_skip (by simp) (cl_skip (by simp) (cl_skip (by simp) (cl_yes rfl ⟨_, rfl, _, .inr (.inl ⟨_, SqT.mk hs, rfl⟩), iteT ⟨_, rfl, s, _, 0, _, rfl, rfl, SqT.mk hs, atI_nat (j := 0) rfl, q1 _ rfl⟩⟩)))))))
    | keeper a b m mo at_ =>
      obtain ⟨a0, a1, rfl⟩ := len2 ll
      obtain ⟨j, rfl, _⟩ := hk
      obtain rfl : hv = .int j := hh2
      refine cl_skip (by simp) (cl_skip (by simp) (cl_no (z := "keeper") rfl (by decide +kernel) (cl_no (z := "keeper") rfl (by decide +kernel) (cl_no (z := "keeper") rfl (by decide +kernel) (cl_skip (by simp) (cl_no (z := "keeper") rfl (by decide +kernel) (cl_skip (by simp) (cl_yes rfl ⟨_, rfl, _, rfl, _, _, rfl, rfl, _, rfl, ite2 (fun c => ?_) (fun c => ?_)⟩))))))))
      · exact q1 1 (if_pos (of_decide_eq_true c))
      · exact q1 0 (if_neg fun z => c (decide_eq_true z))
/-- a piece holds something -/
def Pie.hold : Pie → Bool
  | .keep _ _ _ => true
  | .late _ _ => true
  | .keeper _ _ _ _ _ => true
  | _ => false
def sp_held_behind (_ : PySem.W.Frag) : Sp := fun vs H Q _ => ∃ (P : Pie) (v hv : V) (o : Int) (h : Hd) (l : Addr) (as : List Int) (i n : Nat), vs = [v, hv, .int o, .ref l] ∧ P.hold = true ∧ PieAt H P v ∧ P.Ok i n ∧ P.Hok h ∧ h.At H hv ∧ H l = some (.lst (as.map V.int)) ∧ as.length = P.asks.length ∧ Bits as ∧
  ∀ H' v', Same H H' → (P.next h o as).At H' v' → Q v' H'
theorem ok_held_behind (T : Defs K mg) (TT : Tabs T base) : FnOk P w K mg base CX0 2 T.f_held_behind T.fd_held_behind ["piece", "held", "own", "asked"] (sp_held_behind K) := by
  have G_moved : FnOk P w K mg base CX0 1 T.f_moved T.fd_moved ["most", "at", "up", "down"] (sp_moved K) := ok_moved T TT
  refine T.F_held_behind.ok sc_held_behind (fun vs H Q E h => ?_) (fun cdv A outer s H vs Q E hr h => ?_)
  · obtain ⟨P, v, hv, o, h, l, as, i, n, rfl, hld, hP, ok, hk, hh, hl, ll, ba, q⟩ := h
    rfl
  · obtain ⟨P, v, hv, o, h, l, as, i, n, rfl, hld, hP, ok, hk, hh, hl, ll, ba, q⟩ := h
    refine ⟨_, PSs.nox (pss_one (ps_matchL (pe_lst (pa_cons (pe_ix ix_tup (pv 0) pe_int (fun _ _ => rfl)) (StX.pa_star (pv 3) pa_nil))) (pcl_seq rfl sc_held_behind.nd pe_str (pcap_cons (i := 4) rfl (.inl rfl) (pcap_cons (i := 5) rfl (.inl rfl) pcap_nil)) (pss_one (ps_ret (pv 2)))
    (pcl_seq rfl sc_held_behind.nd pe_str (pcap_cons (i := 4) rfl (.inl rfl) pcap_nil) (pss_one (ps_ret (pe_slice sl_tupS (pe_op op_catS (pv 1) (pe_tup (pa_cons (pv 4) pa_nil))) (po_some pe_int) po_none)))
    (pcl_seq rfl sc_held_behind.nd pe_str (pcap_cons (i := 6) rfl (.inl rfl) (pcap_cons (i := 7) rfl (.inl rfl) pcap_nil)) (pss_one (ps_ret (pe_call G_moved (hr.mono (by decide)) (by rfl) T.g_moved T.F_moved.kp T.b_moved .nil pass0 (pa_cons (pe_ix ix_tup (pv 0) pe_int (fun _ _ => rfl)) (pa_cons (pv 1) (pa_cons (pv 6) (pa_cons (pv 7) pa_nil)))))))
    pcl_nil))))), ?_⟩
    have hP0 := hP
    obtain ⟨t, xs, rfl, ht, _, _⟩ := hP.tup
    have hsl : sizeLine = 16777216 := by decide
    have l3 : P.asks.length ≤ 3 := by
      cases P <;> first | exact (by decide : 0 ≤ 3) | exact (by decide : 1 ≤ 3) | exact (by decide : 2 ≤ 3) | exact (by decide : 3 ≤ 3)
    refine ⟨.ref t, rfl, t, _, 0, _, rfl, rfl, SqT.mk ht, atI_nat (j := 0) rfl, .ref l, rfl, l, _, rfl, .inr (SqL.mk hl), ?_, fun d nd => ?_⟩
    · simp only [List.length_cons, List.length_append, List.length_map, List.length_nil]
      omega
    have sd := same_upd nd (o := .lst (V.str P.word :: (as.map V.int ++ [])))
    have hP2 := hP0.same sd
    have hh2 := hh.same sd
    refine ⟨d, _, rfl, SqL.mk upd_same, ?_⟩
    generalize upd H d (.lst (V.str P.word :: (as.map V.int ++ []))) = G at sd hP2 hh2 ⊢
    cases P with
    | keep a b f =>
      obtain ⟨a0, a1, rfl⟩ := len2 ll
      exact cl_yes rfl ⟨_, rfl, q G _ sd rfl⟩
    | late a ah =>
      obtain ⟨a0, rfl⟩ := len1 ll
      obtain ⟨bs, rfl, _, bl⟩ := hk
      obtain ⟨s, rfl, hs⟩ := hh2
      obtain ⟨_, ⟨l1, l16⟩, _⟩ : a < n ∧ (1 ≤ ah.length ∧ ah.length ≤ 16) ∧ _ := ok
      refine cl_skip (by simp) (cl_yes rfl ⟨_, rfl, _, rfl, (show 1 ≤ sizeLine by decide), fun c nc => ?_⟩)
      have s2 := same_upd nc (o := .tup [.int a0])
      refine ⟨s, c, _, _, rfl, rfl, s2 _ _ hs, upd_same, by rw [List.length_map, List.length_singleton]; omega, fun G2 c2 s3 hc2 => ⟨1, rfl, c2, _, rfl, hc2, fun G3 c3 s4 hc3 => ?_⟩⟩
      refine q G3 _ (sd.trans (s2.trans (s3.trans s4))) ⟨c3, rfl, ?_⟩
      rw [hc3, show cutV (bs.map V.int ++ [V.int a0]) (some 1) none = (bs.map V.int ++ [V.int a0]).drop 1 from cut_hi _ 1]
      show _ = some (HO.tup (((bs ++ [a0]).drop 1).map V.int))
      rw [List.map_drop, List.map_append]
      rfl
    | keeper a b m mo at_ =>
      obtain ⟨a0, a1, rfl⟩ := len2 ll
      obtain ⟨j, rfl, _⟩ := hk
      obtain rfl : hv = .int j := hh2
      obtain ⟨t', y, e, hy, _⟩ := hP2
      cases e
      exact cl_no (z := "keeper") rfl (by decide +kernel) (cl_skip (by simp) (cl_yes rfl ⟨.ref t, rfl, t, _, 4, _, rfl, rfl, SqT.mk hy, atI_nat (j := 4) rfl, _, rfl, _, rfl, _, rfl, _, _, _, _, rfl, ba a0 (by simp), ba a1 (by simp), q G _ sd rfl⟩))
    | _ => cases hld
/-- a tuple, or one of which the very object is known -/
def tupO : Option Obj → List V → HO
  | none, xs => .tup xs
  | some o, xs => .frz o (.tup xs)
theorem SqO {K : PySem.W.Frag} {H : Hp} {a : Addr} {ob : Option Obj} {xs : List V} (h : H a = some (tupO ob xs)) : SqT K H a xs := by
  cases ob with
  | none => exact SqT.mk h
  | some o => exact .inl (.inr ⟨o, h⟩)
/-! machines as they stand -/
def lcmF (ns : List Nat) : Nat := ns.foldl (fun c n => c * n / Nat.gcd c n) 1
theorem lcmF_snoc (ns : List Nat) (n : Nat) : lcmF (ns ++ [n]) = lcmF ns * n / Nat.gcd (lcmF ns) n := by
  unfold lcmF
  rw [List.foldl_append]
  rfl
def sp_common_length (_ : PySem.W.Frag) : Sp := fun vs H Q _ => ∃ (l : Addr) (qs : List (Addr × List V)), vs = [.ref l] ∧ H l = some (.lst (qs.map fun q => V.ref q.1)) ∧ (∀ q, q ∈ qs → H q.1 = some (.lst q.2) ∧ 1 ≤ q.2.length ∧ q.2.length ≤ 100000) ∧ Q (.int (lcmF (qs.map fun q => q.2.length) : Nat)) H
theorem ok_common_length (T : Defs K mg) (TT : Tabs T base) : FnOk P w K mg base CX0 2 T.f_common_length T.fd_common_length ["lists"] (sp_common_length K) := by
  have G_common_divisor : FnOk P w K mg base CX0 1 T.f_common_divisor T.fd_common_divisor ["one", "other"] (sp_common_divisor K) := ok_common_divisor T TT
  refine T.F_common_length.ok sc_common_length (fun vs H Q E h => ?_) (fun cdv A outer s H vs Q E hr h => ?_)
  · obtain ⟨l, qs, rfl, hl, hq, q⟩ := h
    rfl
  · obtain ⟨l, qs, rfl, hl, hq, q⟩ := h
    refine ⟨_, PSs.nox (pss_cons (ps_set (i := 1) sc_common_length.nd rfl (.inl rfl) pe_int)
    (pss_cons ((ps_for PassesOwn.never rfl (pi_list (pv 0)) (pg_name (i := 2) sc_common_length.nd rfl (.inl rfl)) (pss_one (ps_set (i := 1) sc_common_length.nd rfl (.inl rfl) (pe_op op_fdiv (pe_op op_mul (pv 1) (pe_callB call_len_seq (by rfl) T.m_len bt_len (pa_cons (pv 2) pa_nil))) (pe_call G_common_divisor (hr.mono (by decide)) (by rfl) T.g_common_divisor T.F_common_divisor.kp T.b_common_divisor .nil pass0 (pa_cons (pv 1) (pa_cons (pe_callB call_len_seq (by rfl) T.m_len bt_len (pa_cons (pv 2) pa_nil)) pa_nil))))))))
    (pss_one (ps_ret (pv 1))))), ?_⟩
    refine ⟨.ref l, rfl, l, rfl, ⟨_, SqL.mk hl⟩, for_list (xs := qs.map fun q => V.ref q.1) (fun i σ G => ∃ y, σ = [some (.ref l), some (.int (lcmF ((qs.take i).map fun q => q.2.length) : Nat)), y] ∧ G = H) ⟨none, rfl, rfl⟩ ?_ ?_ ?_⟩
    · rintro i σ G _ ⟨y, rfl, rfl⟩
      exact SqL.mk hl
    · rintro i x σ G hx ⟨y, rfl, rfl⟩
      rw [List.getElem?_map] at hx
      obtain ⟨p, hp, rfl⟩ := Option.map_eq_some_iff.mp hx
      obtain ⟨h1, h2, h3⟩ := hq p (List.mem_of_getElem? hp)
      refine ⟨_, rfl, .ref p.1, rfl, p.1, _, rfl, .inl (SqL.mk h1), _, _, rfl, rfl, .inr ⟨by omega, by omega⟩, _, rfl, .ref p.1, rfl, p.1, _, rfl, .inl (SqL.mk h1), _, _, rfl, ?_⟩
      generalize hc : lcmF ((qs.take i).map fun q => q.2.length) = c
      have g1 : 1 ≤ Nat.gcd c p.2.length := Nat.gcd_pos_of_pos_right c (by omega)
      have g2 : Nat.gcd c p.2.length ≤ p.2.length := Nat.le_of_dvd (by omega) (Nat.gcd_dvd_right c p.2.length)
      have ge : (if (1 : Int) > ((Int.gcd (c : Int) (p.2.length : Int) : Nat) : Int) then (1 : Int) else ((Int.gcd (c : Int) (p.2.length : Int) : Nat) : Int)) = ((Nat.gcd c p.2.length : Nat) : Int) := by
        have e : Int.gcd (c : Int) (p.2.length : Int) = Nat.gcd c p.2.length := rfl
        rw [e]
        split <;> omega
      rw [ge]
      refine ⟨_, _, rfl, rfl, ⟨by omega, by omega⟩, some (.ref p.1), ?_, rfl⟩
      have tk : qs.take (i + 1) = qs.take i ++ [p] := by
        rw [List.take_add_one, hp]
        rfl
      have e : (((c : Nat) : Int) * (p.2.length : Int)) / ((Nat.gcd c p.2.length : Nat) : Int) = ((lcmF ((qs.take (i + 1)).map fun q => q.2.length) : Nat) : Int) := by
        rw [tk, List.map_append, List.map_singleton, lcmF_snoc, hc, ← Int.natCast_mul, ← Int.natCast_ediv]
      show [some (V.ref l), some (V.int ((((c : Nat) : Int) * (p.2.length : Int)) / ((Nat.gcd c p.2.length : Nat) : Int))), some (V.ref p.1)] = _
      rw [e]
    · rintro σ G ⟨y, rfl, rfl⟩
      rw [List.length_map, List.take_length]
      exact ⟨_, rfl, q⟩
/-- where the parts of a machine stand -/
structure MA where
  dx : Addr
  pa : Addr
  aa : Addr
  na : Addr
  ha : Addr
  hg : Addr
  ca : Addr
  cm : Int
  Hn : Hp
def mfl (A : MA) (t : Int) : List (Str × V) := [("pieces", .ref A.pa), ("asks", .ref A.aa), ("numbers", .ref A.na), ("common", .int A.cm), ("held", .ref A.ha), ("holding", .ref A.hg), ("counts", .ref A.ca), ("beats", .int t)]
theorem ml_pieces (A : MA) (t : Int) : (mfl A t).lookup ("pieces" : Str) = some (.ref A.pa) := by kernel_rfl
theorem ml_asks (A : MA) (t : Int) : (mfl A t).lookup ("asks" : Str) = some (.ref A.aa) := by kernel_rfl
theorem ml_numbers (A : MA) (t : Int) : (mfl A t).lookup ("numbers" : Str) = some (.ref A.na) := by kernel_rfl
theorem ml_common (A : MA) (t : Int) : (mfl A t).lookup ("common" : Str) = some (.int A.cm) := by kernel_rfl
theorem ml_held (A : MA) (t : Int) : (mfl A t).lookup ("held" : Str) = some (.ref A.ha) := by kernel_rfl
theorem ml_holding (A : MA) (t : Int) : (mfl A t).lookup ("holding" : Str) = some (.ref A.hg) := by kernel_rfl
theorem ml_counts (A : MA) (t : Int) : (mfl A t).lookup ("counts" : Str) = some (.ref A.ca) := by kernel_rfl
theorem ml_beats (A : MA) (t : Int) : (mfl A t).lookup ("beats" : Str) = some (.int t) := by kernel_rfl
theorem ml_nobeat (A : MA) (t : Int) : (mfl A t).lookup ("beat" : Str) = none := by kernel_rfl
theorem mp_beats (A : MA) (t u : Int) : putF "beats" (.int u) (mfl A t) = mfl A u := by kernel_rfl
theorem ml_len (A : MA) (t : Int) : (mfl A t).length < 1000 := (by decide : 8 < 1000)
theorem mp_all (A : MA) : putF "beats" (.int 0) (putF "counts" (.ref A.ca) (putF "holding" (.ref A.hg) (putF "held" (.ref A.ha) (putF "common" (.int A.cm) (putF "numbers" (.ref A.na) (putF "asks" (.ref A.aa) (putF "pieces" (.ref A.pa) []))))))) = mfl A 0 := by kernel_rfl
def holdL (Ps : List Pie) : List Nat := (List.range Ps.length).filter fun i => (Ps.getD i dPie).hold
def cntL (n : Nat) (f : Nat → Int) : List V := ((List.range n).map f).map V.int
/-- what a list holds, piece by piece -/
def HeldL (H : Hp) (n : Nat) (vs : List V) (hs : Nat → Hd) : Prop := vs.length = n ∧ ∀ i, i < n → ∃ v, vs[i]? = some v ∧ (hs i).At H v
/-- the common round -/
noncomputable def cmL (Ps : List Pie) : Nat := lcmF (Ps.map fun P => P.nums.length)
structure MaAt (C : Addr) (H0 H : Hp) (M : Addr) (A : MA) (Ps : List Pie) (f : Nat → Int) (t : Nat) (hs : Nat → Hd) : Prop where
  ins : H M = some (.ins C A.dx (mfl A t))
  h0 : But M H0 A.Hn
  insn : ∃ fs, A.Hn M = some (.ins C A.dx fs)
  kp : ∀ a o, a ≠ M → A.Hn a = some o → H a = some o
  pcs : ∃ xs, (∃ ob, A.Hn A.pa = some (tupO ob xs)) ∧ PisAt A.Hn Ps xs
  ask : ∃ xs, A.Hn A.aa = some (.lst xs) ∧ ∀ (i : Nat) (P : Pie), Ps[i]? = some P → ∃ q, xs[i]? = some (.ref q) ∧ A.Hn q = some (.tup (P.asks.map fun (a : Nat) => V.int a))
  num : ∃ xs, A.Hn A.na = some (.lst xs) ∧ ∀ (i : Nat) (P : Pie), Ps[i]? = some P → ∃ q, xs[i]? = some (.ref q) ∧ A.Hn q = some (.lst (P.nums.map V.int))
  hdn : A.Hn A.ha = none
  hgn : A.Hn A.hg = none
  can : A.Hn A.ca = none
  ne : A.ha ≠ A.ca ∧ A.ha ≠ A.hg ∧ A.hg ≠ A.ca ∧ A.ha ≠ M ∧ A.hg ≠ M ∧ A.ca ≠ M
  held : ∃ vs, H A.ha = some (.lst vs) ∧ HeldL H Ps.length vs hs
  hold : H A.hg = some (.lst ((holdL Ps).map fun (i : Nat) => V.int i))
  cnt : H A.ca = some (.lst (cntL Ps.length f))
  cme : A.cm = (cmL Ps : Nat)
theorem PisAt.ok_get {H : Hp} {Ps : List Pie} {vs : List V} (h : PisAt H Ps vs) {i : Nat} {v : V} (e : vs[i]? = some v) : ∃ P, Ps[i]? = some P ∧ PieAt H P v := by
  have il := (List.getElem?_eq_some_iff.mp e).1
  have hl := h.len
  obtain ⟨u, hu, hp⟩ := h.get (i := i) (P := Ps[i]'(by omega)) (List.getElem?_eq_getElem (by omega))
  rw [e] at hu
  cases hu
  exact ⟨_, List.getElem?_eq_getElem (by omega), hp⟩
theorem get_snoc {α : Type} {xs : List α} {x : α} {j : Nat} (h : j < xs.length) : (xs ++ [x])[j]? = xs[j]? := List.getElem?_append_left h
theorem get_last {α : Type} {xs : List α} {x : α} : (xs ++ [x])[xs.length]? = some x := by
  rw [List.getElem?_append_right (Nat.le_refl _), Nat.sub_self]
  rfl
theorem Pie.nums_len {P : Pie} {i n : Nat} (ok : P.Ok i n) : 1 ≤ P.nums.length ∧ P.nums.length ≤ 4096 := by
  have w : ∀ m : Mk, m.Wl → 1 ≤ ((List.range m.rnd).map fun (i : Nat) => m.val i).length ∧ ((List.range m.rnd).map fun (i : Nat) => m.val i).length ≤ 4096 := fun m h => by
    rw [List.length_map, List.length_range]
    exact ⟨rnd_pos h.1, h.2.2.2⟩
  cases P with
  | make m k => exact w m ok.1
  | keeper a b m mo at_ => exact w m ok.2.2.1
  | _ => exact ⟨Nat.le_refl _, (by decide : 1 ≤ 4096)⟩
theorem first_none {P : Pie} {H : Hp} {v : V} (h : P.first.At H v) : decide (v = V.non) = !P.hold := by
  cases P with
  | keep a b f => obtain rfl : v = .int _ := h; rfl
  | late a ah => obtain ⟨t, rfl, _⟩ := h; rfl
  | keeper a b m mo at_ => obtain rfl : v = .int _ := h; rfl
  | _ => obtain rfl : v = .non := h; rfl
def sp_Machine___init__ {K : PySem.W.Frag} {mg : Str → Option Value} (T : Defs K mg) : Sp := fun vs H Q _ => ∃ (x dx pa : Addr) (xs : List V) (Ps : List Pie), vs = [.ref x, .ref pa] ∧ H x = some (.ins T.C_Machine dx []) ∧ (∃ ob, H pa = some (tupO ob xs)) ∧ PisAt H Ps xs ∧ Ps.length ≤ 24 ∧ PsOk Ps.length Ps ∧
  ∀ H' A, MaAt T.C_Machine H H' x A Ps (fun _ => 0) 0 (fun i => (sta Ps 0).getD i .non) → Q .non H'
theorem but_upd {x : Addr} {H : Hp} {o : HO} : But x H (upd H x o) := fun c p hc e => by rw [upd_ne hc]; exact e
theorem ok_Machine___init__ (T : Defs K mg) (TT : Tabs T base) : FnOk P w K mg base CX0 12 T.f_Machine___init__ T.fd_Machine___init__ ["self", "pieces"] (sp_Machine___init__ T) := by
  have G_common_length : FnOk P w K mg base CX0 2 T.f_common_length T.fd_common_length ["lists"] (sp_common_length K) := ok_common_length T TT
  have G_asks_of : FnOk P w K mg base CX0 1 T.f_asks_of T.fd_asks_of ["piece"] (sp_asks_of K) := ok_asks_of T TT
  have G_numbers_of : FnOk P w K mg base CX0 11 T.f_numbers_of T.fd_numbers_of ["piece"] (sp_numbers_of K) := ok_numbers_of T TT
  have G_held_first : FnOk P w K mg base CX0 1 T.f_held_first T.fd_held_first ["piece"] (sp_held_first K) := ok_held_first T TT
  refine T.F_Machine___init__.ok sc_Machine___init__ (fun vs H Q E h => ?_) (fun cdv A outer s H vs Q E hr h => ?_)
  · obtain ⟨x, dx, pa, xs, Ps, rfl, hx, ⟨ob, hpa⟩, hps, n24, ok, q⟩ := h
    rfl
  · obtain ⟨x, dx, pa, xs, Ps, rfl, hx, ⟨ob, hpa⟩, hps, n24, ok, q⟩ := h
    refine ⟨_, PSs.nox (pss_cons (ps_fld (pv 0) (pv 1) rfl)
    (pss_cons (ps_fld (pv 0) (pe_lc (own := [("piece", 2)]) (g := gName 2) (tt := tYes) rfl sc_Machine___init__.nd (pi_tup (pv 1)) (blkOk_by (N := N_Machine___init__) (sc := defScope s_Machine___init__) (by decide +kernel)) (fun _ _ _ _ _ => (pg_name (i := 2) sc_Machine___init__.nd rfl (.inl rfl))) (fun _ _ _ _ _ => pts_nil) (fun _ _ _ _ _ => (pe_call G_asks_of (hr.mono (by decide)) (by rfl) T.g_asks_of T.F_asks_of.kp T.b_asks_of .nil pass0 (pa_cons (pv 2) pa_nil)))) rfl)
    (pss_cons (ps_fld (pv 0) (pe_lc (own := [("piece", 2)]) (g := gName 2) (tt := tYes) rfl sc_Machine___init__.nd (pi_tup (pv 1)) (blkOk_by (N := N_Machine___init__) (sc := defScope s_Machine___init__) (by decide +kernel)) (fun _ _ _ _ _ => (pg_name (i := 2) sc_Machine___init__.nd rfl (.inl rfl))) (fun _ _ _ _ _ => pts_nil) (fun _ _ _ _ _ => (pe_call G_numbers_of (hr.mono (by decide)) (by rfl) T.g_numbers_of T.F_numbers_of.kp T.b_numbers_of .nil pass0 (pa_cons (pv 2) pa_nil)))) rfl)
    (pss_cons (ps_fld (pv 0) (pe_call G_common_length (hr.mono (by decide)) (by rfl) T.g_common_length T.F_common_length.kp T.b_common_length .nil pass0 (pa_cons (pe_fld (pv 0) rfl) pa_nil)) rfl)
    (pss_cons (ps_fld (pv 0) (pe_lc (own := [("piece", 2)]) (g := gName 2) (tt := tYes) rfl sc_Machine___init__.nd (pi_tup (pv 1)) (blkOk_by (N := N_Machine___init__) (sc := defScope s_Machine___init__) (by decide +kernel)) (fun _ _ _ _ _ => (pg_name (i := 2) sc_Machine___init__.nd rfl (.inl rfl))) (fun _ _ _ _ _ => pts_nil) (fun _ _ _ _ _ => (pe_call G_held_first (hr.mono (by decide)) (by rfl) T.g_held_first T.F_held_first.kp T.b_held_first .nil pass0 (pa_cons (pv 2) pa_nil)))) rfl)
    (pss_cons (ps_fld (pv 0) (pe_lc (own := [("at", 3)]) (g := gName 3) rfl sc_Machine___init__.nd (pi_range1 (by rfl) T.m_range (pa_cons (pe_callB call_len_seq (by rfl) T.m_len bt_len (pa_cons (pv 1) pa_nil)) pa_nil)) (blkOk_by (N := N_Machine___init__) (sc := defScope s_Machine___init__) (by decide +kernel)) (fun _ _ _ _ _ => (pg_name (i := 3) sc_Machine___init__.nd rfl (.inl rfl))) (fun _ _ _ _ _ => pts_one (pt_cmpR op_notN (pe_ix (ixlK (K := K) rfl) (pe_fldK (K := K) rfl (pv 0)) (pv 3) (fun _ _ => rfl)) pe_non (nomark _))) (fun _ _ _ _ _ => (pv 3))) rfl)
    (pss_cons (ps_fld (pv 0) (pe_op op_rep (pe_lst (pa_cons pe_int pa_nil)) (pe_callB call_len_seq (by rfl) T.m_len bt_len (pa_cons (pv 1) pa_nil))) rfl)
    (pss_one (ps_fld (pv 0) pe_int rfl))))))))), ?_⟩
    have hsl : sizeLine = 16777216 := by decide
    have ll := hps.len
    have pax : pa ≠ x := ne_of hpa hx (fun z => by cases ob <;> cases z)
    refine ⟨_, rfl, _, rfl, x, _, dx, [], rfl, hx, T.cl_Machine, T.na_Machine_pieces, (by decide : 0 < 1000), ?_⟩
    have b1 : But x H (upd H x (.ins T.C_Machine dx (putF "pieces" (.ref pa) []))) := but_upd
    have x1 := upd_same (H := H) (a := x) (o := .ins T.C_Machine dx (putF "pieces" (.ref pa) []))
    generalize upd H x (.ins T.C_Machine dx (putF "pieces" (.ref pa) [])) = H1 at b1 x1 ⊢
    -- what is asked
    refine ⟨.ref pa, rfl, pa, rfl, ⟨_, SqO (b1 _ _ pax hpa)⟩, fun C nC => ?_⟩
    have Cx : C ≠ x := (ne_of_none x1 nC).symm
    refine lc_it (walk_tup (xs := xs)) (fun i G => Same H1 G ∧ ∃ rs : List V, rs.length = i ∧ (∀ (j : Nat) (P : Pie), j < i → Ps[j]? = some P → ∃ q, rs[j]? = some (.ref q) ∧ G q = some (.tup (P.asks.map fun (a : Nat) => V.int a))) ∧ G C = some (.lst rs)) ⟨same_upd nC, [], rfl, fun j P h => absurd h (by omega), upd_same⟩ (fun i G _ h => SqO (h.1 _ _ (b1 _ _ pax hpa))) (fun i v G G' hi h y => ?_) (fun G h => ?_)
    · obtain ⟨sG, rs, hl, hr, hC⟩ := h
      obtain ⟨rfl, hv⟩ := y
      obtain ⟨P, hP, hpv⟩ := hps.ok_get hv
      obtain ⟨t, ys, rfl, ht, hask, htk⟩ := hpv.tup
      have tx : t ≠ x := ne_of ht hx (fun z => by cases z)
      refine ⟨rfl, yes_ite ⟨.ref t, rfl, t, P.word, ys, P.asks.length, rfl, sG _ _ (b1 _ _ tx ht), hask, fun G2 q sq hq => ?_⟩⟩
      rw [htk] at hq
      have hC2 := sq _ _ hC
      have qC : q ≠ C := ne_of hq hC2 (fun z => by cases z)
      refine ⟨_, hC2, by omega, same_newer (sG.trans sq) nC, rs ++ [.ref q], by rw [List.length_append, hl]; rfl, fun j R hj hR => ?_, upd_same⟩
      by_cases e : j < i
      · obtain ⟨q', h1, h2⟩ := hr j R e hR
        have h2' := sq _ _ h2
        exact ⟨q', by rw [get_snoc (by omega)]; exact h1, by rw [upd_ne (ne_of h2' hC2 (fun z => by cases z))]; exact h2'⟩
      · obtain rfl : j = rs.length := by omega
        rw [hl, hP] at hR
        cases hR
        exact ⟨q, get_last, by rw [upd_ne qC]; exact hq⟩
    obtain ⟨s2, as_, la, ha_, hC⟩ := h
    rw [ll] at la
    have has : ∀ (j : Nat) (P : Pie), Ps[j]? = some P → ∃ q, as_[j]? = some (.ref q) ∧ G q = some (.tup (P.asks.map fun (a : Nat) => V.int a)) := fun j P e => ha_ j P (by have := (List.getElem?_eq_some_iff.mp e).1; omega) e
    clear ha_
    refine ⟨_, rfl, x, _, dx, _, rfl, s2 _ _ x1, T.cl_Machine, T.na_Machine_asks, (by decide : 1 < 1000), ?_⟩
    have b3 : But x H (upd G x (.ins T.C_Machine dx (putF "asks" (.ref C) (putF "pieces" (.ref pa) [])))) := (b1.trans (same_but s2)).trans but_upd
    have bG : But x G (upd G x (.ins T.C_Machine dx (putF "asks" (.ref C) (putF "pieces" (.ref pa) [])))) := but_upd
    have x3 := upd_same (H := G) (a := x) (o := .ins T.C_Machine dx (putF "asks" (.ref C) (putF "pieces" (.ref pa) [])))
    generalize upd G x (.ins T.C_Machine dx (putF "asks" (.ref C) (putF "pieces" (.ref pa) []))) = H3 at b3 bG x3 ⊢
    have hC3 := bG _ _ Cx hC
    have has3 : ∀ (j : Nat) (P : Pie), Ps[j]? = some P → ∃ q, as_[j]? = some (.ref q) ∧ H3 q = some (.tup (P.asks.map fun (a : Nat) => V.int a)) := fun j P e => by
      obtain ⟨q, h1, h2⟩ := has j P e
      exact ⟨q, h1, bG _ _ (ne_of h2 (s2 _ _ x1) (fun z => by cases z)) h2⟩
    clear has bG hC s2 nC
    -- the numbers
    have hpa3 := b3 _ _ pax hpa
    have hps3 : PisAt H3 Ps xs := hps.keep fun a ys e => b3 _ _ (ne_of e hx (fun z => by cases z)) e
    refine ⟨.ref pa, rfl, pa, rfl, ⟨_, SqO hpa3⟩, fun D nD => ?_⟩
    have Dx : D ≠ x := (ne_of_none x3 nD).symm
    refine lc_it (walk_tup (xs := xs)) (fun i G => Same H3 G ∧ ∃ rs : List (Addr × List V), rs.length = i ∧ (∀ (j : Nat) (P : Pie), j < i → Ps[j]? = some P → ∃ q, rs[j]? = some (q, P.nums.map V.int) ∧ q ≠ D ∧ G q = some (.lst (P.nums.map V.int))) ∧ G D = some (.lst (rs.map fun q => V.ref q.1))) ⟨same_upd nD, [], rfl, fun j P h => absurd h (by omega), upd_same⟩ (fun i G _ h => SqO (h.1 _ _ hpa3)) (fun i v G G' hi h y => ?_) (fun G h => ?_)
    · obtain ⟨sG, rs, hl, hr, hD⟩ := h
      obtain ⟨rfl, hv⟩ := y
      obtain ⟨P, hP, hpv⟩ := hps3.ok_get hv
      refine ⟨rfl, yes_ite ⟨v, rfl, P, v, i, Ps.length, rfl, hpv.same sG, ok i P hP, fun G2 q sq nq hq => ?_⟩⟩
      have hD2 := sq _ _ hD
      have qD : q ≠ D := (ne_of_none hD nq).symm
      refine ⟨_, hD2, by rw [List.length_map]; omega, same_newer (sG.trans sq) nD, rs ++ [(q, P.nums.map V.int)], by rw [List.length_append, hl]; rfl, fun j R hj hR => ?_, by rw [upd_same, List.map_append]; rfl⟩
      by_cases e : j < i
      · obtain ⟨q', h1, h2, h3⟩ := hr j R e hR
        exact ⟨q', by rw [get_snoc (by omega)]; exact h1, h2, by rw [upd_ne h2]; exact sq _ _ h3⟩
      · obtain rfl : j = rs.length := by omega
        rw [hl, hP] at hR
        cases hR
        exact ⟨q, get_last, qD, by rw [upd_ne qD]; exact hq⟩
    obtain ⟨s4, qs, lq, hq_, hD⟩ := h
    rw [ll] at lq
    have hqs : ∀ (j : Nat) (P : Pie), Ps[j]? = some P → ∃ q, qs[j]? = some (q, P.nums.map V.int) ∧ q ≠ D ∧ G q = some (.lst (P.nums.map V.int)) := fun j P e => hq_ j P (by have := (List.getElem?_eq_some_iff.mp e).1; omega) e
    clear hq_
    refine ⟨_, rfl, x, _, dx, _, rfl, s4 _ _ x3, T.cl_Machine, T.na_Machine_numbers, (by decide : 2 < 1000), ?_⟩
    have b5 : But x H (upd G x (.ins T.C_Machine dx (putF "numbers" (.ref D) (putF "asks" (.ref C) (putF "pieces" (.ref pa) []))))) := (b3.trans (same_but s4)).trans but_upd
    have bG : But x G (upd G x (.ins T.C_Machine dx (putF "numbers" (.ref D) (putF "asks" (.ref C) (putF "pieces" (.ref pa) []))))) := but_upd
    have x5 := upd_same (H := G) (a := x) (o := .ins T.C_Machine dx (putF "numbers" (.ref D) (putF "asks" (.ref C) (putF "pieces" (.ref pa) []))))
    generalize upd G x (.ins T.C_Machine dx (putF "numbers" (.ref D) (putF "asks" (.ref C) (putF "pieces" (.ref pa) [])))) = H5 at b5 bG x5 ⊢
    have hD5 := bG _ _ Dx hD
    have hC5 := bG _ _ Cx (s4 _ _ hC3)
    have has5 : ∀ (j : Nat) (P : Pie), Ps[j]? = some P → ∃ q, as_[j]? = some (.ref q) ∧ H5 q = some (.tup (P.asks.map fun (a : Nat) => V.int a)) := fun j P e => by
      obtain ⟨q, h1, h2⟩ := has3 j P e
      have h2' := s4 _ _ h2
      exact ⟨q, h1, bG _ _ (ne_of h2' (s4 _ _ x3) (fun z => by cases z)) h2'⟩
    have hqs5 : ∀ (j : Nat) (P : Pie), Ps[j]? = some P → ∃ q, qs[j]? = some (q, P.nums.map V.int) ∧ H5 q = some (.lst (P.nums.map V.int)) := fun j P e => by
      obtain ⟨q, h1, h2, h3⟩ := hqs j P e
      exact ⟨q, h1, bG _ _ (ne_of h3 (s4 _ _ x3) (fun z => by cases z)) h3⟩
    clear hqs has3 bG hD s4 nD hC3 b3 x3 hpa3 hps3
    -- the common round
    refine ⟨_, rfl, x, _, dx, _, _, rfl, x5, T.cl_Machine, T.na_Machine_numbers, (by kernel_rfl), D, qs, rfl, hD5, fun q hq => ?_, ?_⟩
    · obtain ⟨j, hj⟩ := List.getElem?_of_mem hq
      have jl := (List.getElem?_eq_some_iff.mp hj).1
      have eP : Ps[j]? = some (Ps[j]'(by omega)) := List.getElem?_eq_getElem (by omega)
      obtain ⟨q', h1, h2⟩ := hqs5 j _ eP
      rw [hj] at h1
      cases h1
      have := Pie.nums_len (ok j _ eP)
      refine ⟨h2, ?_, ?_⟩
      · show 1 ≤ (List.map V.int _).length
        rw [List.length_map]
        exact this.1
      · show (List.map V.int _).length ≤ 100000
        rw [List.length_map]
        omega
    have hcm : lcmF (qs.map fun q => q.2.length) = cmL Ps := by
      unfold cmL
      congr 1
      refine List.ext_getElem? fun j => ?_
      rw [List.getElem?_map, List.getElem?_map]
      by_cases hj : j < Ps.length
      · have eP : Ps[j]? = some (Ps[j]'hj) := List.getElem?_eq_getElem hj
        obtain ⟨q, h1, _⟩ := hqs5 j _ eP
        rw [h1, eP]
        show some (List.map V.int _).length = some _
        rw [List.length_map]
      · rw [List.getElem?_eq_none (by omega), List.getElem?_eq_none (by omega)]
        rfl
    generalize lcmF (qs.map fun q => q.2.length) = cm at hcm ⊢
    refine ⟨_, rfl, x, _, dx, _, rfl, x5, T.cl_Machine, T.na_Machine_common, (by decide : 3 < 1000), ?_⟩
    have b7 : But x H (upd H5 x (.ins T.C_Machine dx (putF "common" (.int (cm : Nat)) (putF "numbers" (.ref D) (putF "asks" (.ref C) (putF "pieces" (.ref pa) [])))))) := b5.trans but_upd
    have bG : But x H5 (upd H5 x (.ins T.C_Machine dx (putF "common" (.int (cm : Nat)) (putF "numbers" (.ref D) (putF "asks" (.ref C) (putF "pieces" (.ref pa) [])))))) := but_upd
    have x7 := upd_same (H := H5) (a := x) (o := .ins T.C_Machine dx (putF "common" (.int (cm : Nat)) (putF "numbers" (.ref D) (putF "asks" (.ref C) (putF "pieces" (.ref pa) [])))))
    generalize upd H5 x (.ins T.C_Machine dx (putF "common" (.int (cm : Nat)) (putF "numbers" (.ref D) (putF "asks" (.ref C) (putF "pieces" (.ref pa) []))))) = H7 at b7 bG x7 ⊢
    have hD7 := bG _ _ Dx hD5
    have hC7 := bG _ _ Cx hC5
    have has7 : ∀ (j : Nat) (P : Pie), Ps[j]? = some P → ∃ q, as_[j]? = some (.ref q) ∧ H7 q = some (.tup (P.asks.map fun (a : Nat) => V.int a)) := fun j P e => by
      obtain ⟨q, h1, h2⟩ := has5 j P e
      exact ⟨q, h1, bG _ _ (ne_of h2 x5 (fun z => by cases z)) h2⟩
    have hqs7 : ∀ (j : Nat) (P : Pie), Ps[j]? = some P → ∃ q, (qs.map fun q => V.ref q.1)[j]? = some (.ref q) ∧ H7 q = some (.lst (P.nums.map V.int)) := fun j P e => by
      obtain ⟨q, h1, h2⟩ := hqs5 j P e
      exact ⟨q, by rw [List.getElem?_map, h1]; rfl, bG _ _ (ne_of h2 x5 (fun z => by cases z)) h2⟩
    clear has5 hqs5 bG hD5 hC5 x5
    have hpa7 := b7 _ _ pax hpa
    have hps7 : PisAt H7 Ps xs := hps.keep fun a ys e => b7 _ _ (ne_of e hx (fun z => by cases z)) e
    -- what is held
    refine ⟨.ref pa, rfl, pa, rfl, ⟨_, SqO hpa7⟩, fun Eh nE => ?_⟩
    have Ex : Eh ≠ x := (ne_of_none x7 nE).symm
    refine lc_it (walk_tup (xs := xs)) (fun i G => Same H7 G ∧ ∃ vs : List V, vs.length = i ∧ (∀ (j : Nat) (P : Pie), j < i → Ps[j]? = some P → ∃ v, vs[j]? = some v ∧ P.first.At G v) ∧ G Eh = some (.lst vs)) ⟨same_upd nE, [], rfl, fun j P h => absurd h (by omega), upd_same⟩ (fun i G _ h => SqO (h.1 _ _ hpa7)) (fun i v G G' hi h y => ?_) (fun G h => ?_)
    · obtain ⟨sG, vs, hl, hr, hE⟩ := h
      obtain ⟨rfl, hv⟩ := y
      obtain ⟨P, hP, hpv⟩ := hps7.ok_get hv
      have up : ∀ (u : V) (h : Hd), h.At G' u → ∀ o, h.At (upd G' Eh (.lst o)) u := fun u h z o => z.keep fun a ys e => by
        rw [upd_ne (ne_of e hE (fun z => by cases z))]
        exact e
      refine ⟨rfl, yes_ite ⟨v, rfl, P, v, rfl, hpv.same sG, fun u hu => ⟨_, hE, by omega, same_newer sG nE, vs ++ [u], by rw [List.length_append, hl]; rfl, fun j R hj hR => ?_, upd_same⟩⟩⟩
      by_cases e : j < i
      · obtain ⟨w', h1, h2⟩ := hr j R e hR
        exact ⟨w', by rw [get_snoc (by omega)]; exact h1, up _ _ h2 _⟩
      · obtain rfl : j = vs.length := by omega
        rw [hl, hP] at hR
        cases hR
        exact ⟨u, get_last, up _ _ hu _⟩
    obtain ⟨s8, vs, lv, hv_, hE⟩ := h
    rw [ll] at lv
    refine ⟨_, rfl, x, _, dx, _, rfl, s8 _ _ x7, T.cl_Machine, T.na_Machine_held, (by decide : 4 < 1000), ?_⟩
    have k9 : But x H7 (upd G x (.ins T.C_Machine dx (putF "held" (.ref Eh) (putF "common" (.int (cm : Nat)) (putF "numbers" (.ref D) (putF "asks" (.ref C) (putF "pieces" (.ref pa) []))))))) := (same_but s8).trans but_upd
    have bG : But x G (upd G x (.ins T.C_Machine dx (putF "held" (.ref Eh) (putF "common" (.int (cm : Nat)) (putF "numbers" (.ref D) (putF "asks" (.ref C) (putF "pieces" (.ref pa) []))))))) := but_upd
    have x9 := upd_same (H := G) (a := x) (o := .ins T.C_Machine dx (putF "held" (.ref Eh) (putF "common" (.int (cm : Nat)) (putF "numbers" (.ref D) (putF "asks" (.ref C) (putF "pieces" (.ref pa) []))))))
    generalize upd G x (.ins T.C_Machine dx (putF "held" (.ref Eh) (putF "common" (.int (cm : Nat)) (putF "numbers" (.ref D) (putF "asks" (.ref C) (putF "pieces" (.ref pa) [])))))) = H9 at k9 bG x9 ⊢
    have hE9 := bG _ _ Ex hE
    have hv9 : ∀ (j : Nat) (P : Pie), Ps[j]? = some P → ∃ v, vs[j]? = some v ∧ P.first.At H9 v := fun j P e => by
      obtain ⟨v, h1, h2⟩ := hv_ j P (by have := (List.getElem?_eq_some_iff.mp e).1; omega) e
      exact ⟨v, h1, h2.keep fun a ys z => bG _ _ (ne_of z (s8 _ _ x7) (fun z => by cases z)) z⟩
    clear hv_ bG hE s8
    have hpa9 := k9 _ _ pax hpa7
    -- which hold
    refine ⟨.ref pa, rfl, pa, _, rfl, .inr (SqO hpa9), (xs.length : Nat), rfl, by omega, by omega, fun F nF => ?_⟩
    have Fx : F ≠ x := (ne_of_none x9 nF).symm
    refine lc_range (fun i G => Same H9 G ∧ G F = some (.lst (((List.range i).filter fun i => (Ps.getD i dPie).hold).map fun (i : Nat) => V.int i))) ⟨same_upd nF, upd_same⟩ (fun i G hi h => ?_) (fun G h => ?_)
    · obtain ⟨sG, hF⟩ := h
      rw [Int.toNat_natCast] at hi
      have eP : Ps[i]? = some (Ps[i]'(by omega)) := List.getElem?_eq_getElem (by omega)
      obtain ⟨v, h1, h2⟩ := hv9 i _ eP
      have hl2 : ((List.range i).filter fun i => (Ps.getD i dPie).hold).length ≤ i := Nat.le_trans (List.length_filter_le _ _) (by rw [List.length_range]; exact Nat.le_refl _)
      refine ⟨rfl, _, rfl, x, _, dx, _, _, rfl, sG _ _ x9, T.cl_Machine, T.na_Machine_held, (by kernel_rfl), _, rfl, Eh, _, (i : Nat), v, rfl, by rw [Int.zero_add], SqL.mk (sG _ _ hE9), atI_nat h1, rfl, _, rfl, ?_⟩
      rw [first_none h2, Bool.not_not]
      have eF : (List.range (i + 1)).filter (fun i => (Ps.getD i dPie).hold) = (List.range i).filter (fun i => (Ps.getD i dPie).hold) ++ (if (Ps[i]'(by omega)).hold = true then [i] else []) := by
        rw [List.range_succ, List.filter_append, List.filter_cons, List.filter_nil, getD_of eP]
      rw [eF]
      cases hh : (Ps[i]'(by omega)).hold with
      | true =>
        refine iteT ⟨_, rfl, _, hF, by rw [List.length_map]; omega, same_newer sG nF, ?_⟩
        rw [upd_same, List.map_append, Int.zero_add]
        rfl
      | false =>
        refine iteF ⟨sG, ?_⟩
        rw [hF, if_neg Bool.false_ne_true, List.append_nil]
    obtain ⟨s10, hF⟩ := h
    rw [Int.toNat_natCast, ll] at hF
    refine ⟨_, rfl, x, _, dx, _, rfl, s10 _ _ x9, T.cl_Machine, T.na_Machine_holding, (by decide : 5 < 1000), ?_⟩
    have k11 : But x H9 (upd G x (.ins T.C_Machine dx (putF "holding" (.ref F) (putF "held" (.ref Eh) (putF "common" (.int (cm : Nat)) (putF "numbers" (.ref D) (putF "asks" (.ref C) (putF "pieces" (.ref pa) [])))))))) := (same_but s10).trans but_upd
    have bG : But x G (upd G x (.ins T.C_Machine dx (putF "holding" (.ref F) (putF "held" (.ref Eh) (putF "common" (.int (cm : Nat)) (putF "numbers" (.ref D) (putF "asks" (.ref C) (putF "pieces" (.ref pa) [])))))))) := but_upd
    have x11 := upd_same (H := G) (a := x) (o := .ins T.C_Machine dx (putF "holding" (.ref F) (putF "held" (.ref Eh) (putF "common" (.int (cm : Nat)) (putF "numbers" (.ref D) (putF "asks" (.ref C) (putF "pieces" (.ref pa) [])))))))
    generalize upd G x (.ins T.C_Machine dx (putF "holding" (.ref F) (putF "held" (.ref Eh) (putF "common" (.int (cm : Nat)) (putF "numbers" (.ref D) (putF "asks" (.ref C) (putF "pieces" (.ref pa) []))))))) = H11 at k11 bG x11 ⊢
    have hF11 := bG _ _ Fx hF
    have hE11 := k11 _ _ Ex hE9
    have hpa11 := k11 _ _ pax hpa9
    -- the counts
    refine ⟨(show 1 ≤ sizeLine by decide), fun z0 nz0 => ?_⟩
    have s12 := same_upd nz0 (o := .lst [.int 0])
    have hz0 := upd_same (H := H11) (a := z0) (o := .lst [.int 0])
    generalize upd H11 z0 (.lst [.int 0]) = H12 at s12 hz0 ⊢
    refine ⟨.ref pa, rfl, pa, _, rfl, .inr (SqO (s12 _ _ hpa11)), z0, (xs.length : Nat), _, rfl, rfl, hz0, by omega, by omega, by rw [Int.toNat_natCast, List.length_singleton]; omega, fun ca nca => ?_⟩
    have cax : ca ≠ x := (ne_of_none (s12 _ _ x11) nca).symm
    have s13 := s12.trans (same_upd nca (o := .lst (List.replicate ((xs.length : Nat) : Int).toNat [V.int 0]).flatten))
    have hca : (upd H12 ca (.lst (List.replicate ((xs.length : Nat) : Int).toNat [V.int 0]).flatten)) ca = some (.lst (cntL Ps.length (fun _ => 0))) := by
      rw [upd_same, Int.toNat_natCast, ll]
      unfold cntL
      rw [List.map_map]
      congr 2
      induction Ps.length with
      | zero => rfl
      | succ n ih =>
        rw [List.replicate_succ', List.flatten_append, ih, List.range_succ, List.map_append]
        rfl
    have nF7 : H7 F = none := by
      cases e : H7 F with
      | none => rfl
      | some o =>
        rw [k9 _ _ Fx e] at nF
        cases nF
    have nca7 : H7 ca = none := by
      cases e : H7 ca with
      | none => rfl
      | some o =>
        rw [s12 _ _ (k11 _ _ cax (k9 _ _ cax e))] at nca
        cases nca
    have EF : Eh ≠ F := ne_of_none hE9 nF
    have Eca : Eh ≠ ca := ne_of_none (s12 _ _ hE11) nca
    have Fca : F ≠ ca := ne_of_none (s12 _ _ hF11) nca
    generalize upd H12 ca (.lst (List.replicate ((xs.length : Nat) : Int).toNat [V.int 0]).flatten) = H13 at s13 hca ⊢
    refine ⟨_, rfl, x, _, dx, _, rfl, s13 _ _ x11, T.cl_Machine, T.na_Machine_counts, (by decide : 6 < 1000), ?_⟩
    refine ⟨_, rfl, x, _, dx, _, rfl, upd_same, T.cl_Machine, T.na_Machine_beats, (by decide : 7 < 1000), ?_⟩
    have bf : ∀ o1 o2, But x H13 (upd (upd H13 x o1) x o2) := fun o1 o2 => but_upd.trans but_upd
    have kk : ∀ o1 o2, But x H7 (upd (upd H13 x o1) x o2) := fun o1 o2 => ((k9.trans k11).trans (same_but s13)).trans (bf o1 o2)
    refine q _ ⟨dx, pa, C, D, Eh, F, ca, (cm : Nat), H7⟩ ⟨upd_same.trans (congrArg (fun f => some (HO.ins T.C_Machine dx f)) (mp_all ⟨dx, pa, C, D, Eh, F, ca, (cm : Nat), H7⟩)), b7, ⟨_, x7⟩, kk _ _, ⟨xs, ⟨_, hpa7⟩, hps7⟩, ⟨as_, hC7, has7⟩, ⟨_, hD7, hqs7⟩, nE, nF7, nca7, ⟨Eca, EF, Fca, Ex, Fx, cax⟩, ⟨vs, bf _ _ _ _ Ex (s13 _ _ hE11), lv, fun i hi => ?_⟩, bf _ _ _ _ Fx (s13 _ _ hF11), bf _ _ _ _ cax hca, by rw [← hcm]⟩
    have eP : Ps[i]? = some Ps[i] := List.getElem?_eq_getElem hi
    obtain ⟨v, h1, h2⟩ := hv9 i _ eP
    refine ⟨v, h1, ?_⟩
    have e0 : (sta Ps 0).getD i Hd.non = Ps[i].first := getD_of (show (Ps.map Pie.first)[i]? = some Ps[i].first by rw [List.getElem?_map, eP]; rfl)
    show ((sta Ps 0).getD i Hd.non).At _ v
    rw [e0]
    exact h2.keep fun a ys e => bf _ _ _ _ (ne_of e x9 (fun z => by cases z)) (s13 _ _ (k11 _ _ (ne_of e x9 (fun z => by cases z)) e))
/-! dicts whose keys are tuples of numbers, None and tuples of numbers -/
def K1 (H : Hp) (k : NestedKey) (v : V) : Prop := (k = .none ∧ v = .non) ∨ (∃ i, k = .num i ∧ v = .int i) ∨ ∃ (b : Addr) (ns : List Int), k = .tup (ns.map .num) ∧ v = .ref b ∧ H b = some (.tup (ns.map V.int))
def K2 (H : Hp) (k : NestedKey) (b : Addr) : Prop := ∃ (ks : List NestedKey) (vs : List V), k = .tup ks ∧ H b = some (.tup vs) ∧ Paired (K1 H) ks vs
theorem K1.keep {H H' : Hp} (s : ∀ a xs, H a = some (.tup xs) → H' a = some (.tup xs)) {k : NestedKey} {v : V} (h : K1 H k v) : K1 H' k v := by
  rcases h with h | h | ⟨b, ns, e1, e2, e3⟩
  · exact .inl h
  · exact .inr (.inl h)
  · exact .inr (.inr ⟨b, ns, e1, e2, s _ _ e3⟩)
theorem K2.keep {H H' : Hp} (s : ∀ a xs, H a = some (.tup xs) → H' a = some (.tup xs)) {k : NestedKey} {b : Addr} (h : K2 H k b) : K2 H' k b := by
  obtain ⟨ks, vs, e1, e2, e3⟩ := h
  exact ⟨ks, vs, e1, s _ _ e2, Paired.mapP e3 fun _ _ z => z.keep s⟩
theorem nums_all {h : Heap} : ∀ {ns : List Int} {us : List Value}, Vals (ns.map V.int) us → NestedAll h (ns.map .num) us
  | [], _, r => by
    rw [List.map_nil] at r
    cases r
    exact .nil
  | n :: ns, _, r => by
    rw [List.map_cons] at r
    cases r with
    | cons r1 r2 =>
      obtain ⟨t, rfl⟩ := r1
      exact .cons (.int n t) (nums_all r2)
theorem K1.is {P : Program} {w : World} {H : Hp} {h : Heap} (ok : HOk P w H h) {k : NestedKey} {v : V} {u : Value} (x : K1 H k v) (r : RelV v u) : NestedIs h k u ∧ k.depth ≤ 1 := by
  rcases x with ⟨rfl, rfl⟩ | ⟨i, rfl, rfl⟩ | ⟨b, ns, rfl, rfl, e⟩
  · obtain rfl : u = Value.none := r
    exact ⟨.none, by simp [NestedKey.depth]⟩
  · obtain ⟨t, rfl⟩ := r
    exact ⟨.int i t, by simp [NestedKey.depth]⟩
  · obtain rfl : u = Value.ref b := r
    obtain ⟨_, its, rv, o, h1, h2, n, h3⟩ := (show ObjOk P w H h b (.tup (ns.map V.int)) from ok b _ e)
    refine ⟨.tup h1 h2 h3 (by simpa using nums_all rv), ?_⟩
    have : ∀ ns : List Int, NestedKey.depthAll (ns.map .num) = 0 := fun ns => by
      induction ns with
      | nil => simp [NestedKey.depthAll]
      | cons n ns ih => simp [NestedKey.depthAll, NestedKey.depth, ih]
    simp [NestedKey.depth, this]
theorem K2.is {P : Program} {w : World} {H : Hp} {h : Heap} (ok : HOk P w H h) {k : NestedKey} {b : Addr} (x : K2 H k b) : (nestedKind P w).is h k b := by
  obtain ⟨ks, vs, rfl, e, rel⟩ := x
  obtain ⟨_, its, rv, o, h1, h2, n, h3⟩ := (show ObjOk P w H h b (.tup vs) from ok b _ e)
  have all : ∀ {ks : List NestedKey} {vs : List V} {us : List Value}, Paired (K1 H) ks vs → Vals vs us → NestedAll h ks us ∧ NestedKey.depthAll ks ≤ 1 := by
    intro ks vs us rel
    induction rel generalizing us with
    | nil =>
      intro rv
      cases rv
      exact ⟨.nil, by simp [NestedKey.depthAll]⟩
    | cons h1 t ih =>
      intro rv
      cases rv with
      | cons r1 r2 =>
        obtain ⟨a1, a2⟩ := K1.is ok h1 r1
        obtain ⟨b1, b2⟩ := ih r2
        refine ⟨.cons a1 b1, ?_⟩
        simp only [NestedKey.depthAll]
        omega
  obtain ⟨a1, a2⟩ := all rel rv
  refine ⟨.tup h1 h2 h3 (by simpa using a1), ?_⟩
  simp only [NestedKey.depth]
  omega
abbrev RN (p : NestedKey × Addr × V) (q : NestedKey × Addr × Value) : Prop := p.1 = q.1 ∧ p.2.1 = q.2.1 ∧ RelV p.2.2 q.2.2
def DN (P : Program) (w : World) (a : Addr) (kvs : List (NestedKey × Addr × V)) : HO := .ext fun h => kvs.length ≤ sizeLine ∧ (a == sysModules) = false ∧ ∃ xs : List (NestedKey × Addr × Value), Paired RN kvs xs ∧ ∃ o es ep, h.get? a = some o ∧ o.ExactDict ∧ o.data = .dict es ep ∧ es.toList = xs.map (entryOfKey (nestedKind P w)) ∧ (xs.map (·.1)).Nodup
def KN (H : Hp) (kvs : List (NestedKey × Addr × V)) : Prop := ∀ x, x ∈ kvs → K2 H x.1 x.2.1
theorem KN.keep {H H' : Hp} (s : ∀ a xs, H a = some (.tup xs) → H' a = some (.tup xs)) {kvs : List (NestedKey × Addr × V)} (h : KN H kvs) : KN H' kvs := fun x hx => (h x hx).keep s
theorem dn_ok {P : Program} {w : World} {H : Hp} {h : Heap} {a : Addr} {kvs : List (NestedKey × Addr × V)} {xs : List (NestedKey × Addr × Value)} (hl : kvs.length ≤ sizeLine) (hd : (a == sysModules) = false) (rel : Paired RN kvs xs) (x : h.DictOfH (nestedKind P w) a xs) : ObjOk P w H h a (DN P w a kvs) := by
  obtain ⟨o, es, ep, h1, h2, h3, h4, _, h5⟩ := x
  refine ⟨⟨hl, hd, xs, rel, o, es, ep, h1, h2, h3, h4, h5⟩, ⟨o, h1⟩, fun g1 g2 ⟨a1, a2, ys, a3, o', es', ep', b1, b2⟩ k => ⟨a1, a2, ys, a3, o', es', ep', k _ b1, b2⟩⟩
theorem dn_of {P : Program} {w : World} {H : Hp} {h : Heap} {a : Addr} {kvs : List (NestedKey × Addr × V)} (ok : HOk P w H h) (e : H a = some (DN P w a kvs)) (hk : KN H kvs) : kvs.length ≤ sizeLine ∧ (a == sysModules) = false ∧ ∃ xs, Paired RN kvs xs ∧ h.DictOfH (nestedKind P w) a xs := by
  obtain ⟨⟨hl, hd, xs, rel, o, es, ep, h1, h2, h3, h4, h5⟩, _⟩ := (show ObjOk P w H h a (DN P w a kvs) from ok a _ e)
  refine ⟨hl, hd, xs, rel, o, es, ep, h1, h2, h3, h4, ?_, h5⟩
  have all : ∀ {l : List (NestedKey × Addr × V)} {m : List (NestedKey × Addr × Value)}, Paired RN l m → KN H l → ∀ x ∈ m, (nestedKind P w).is h x.1 x.2.1 := by
    intro l m q
    induction q with
    | nil => intro _ x hx; exact nomatch hx
    | @cons p q ps qs hq t ih =>
      intro hk x hx
      rcases List.mem_cons.mp hx with e | hx
      · subst e
        have := hk p (List.mem_cons_self ..)
        rw [hq.1, hq.2.1] at this
        exact this.is ok
      · exact ih (fun y hy => hk y (List.mem_cons_of_mem _ hy)) x hx
  exact all rel hk
def atN (kvs : List (NestedKey × Addr × V)) (k : NestedKey) : Option V := (kvs.find? fun x => decide (x.1 = k)).map (·.2.2)
theorem atN_rel {kvs : List (NestedKey × Addr × V)} {xs : List (NestedKey × Addr × Value)} (r : Paired RN kvs xs) (k : NestedKey) : RelO (atN kvs k) ((atKey xs k).map (·.2)) := by
  induction r with
  | nil => exact True.intro
  | @cons p q ps qs h t ih =>
    obtain ⟨h1, _, h2⟩ := h
    by_cases e : p.1 = k
    · have e' : q.1 = k := h1.symm.trans e
      have b : atKey (q :: qs) k = some q.2 := by simp [atKey, List.find?_cons, e']
      have c : atN (p :: ps) k = some p.2.2 := by simp [atN, List.find?_cons, e]
      rw [b, c]
      exact h2
    · have e' : ¬ q.1 = k := fun z => e (h1.trans z)
      have b : atKey (q :: qs) k = atKey qs k := by simp [atKey, List.find?_cons, e']
      have c : atN (p :: ps) k = atN ps k := by simp [atN, List.find?_cons, e]
      rw [b, c]
      exact ih
theorem dn_empty {P : Program} {w : World} {H : Hp} (h : Heap) (hb : sysModules < h.objs.size) : ObjOk P w H (h.push { cls := .type "dict", data := .dict #[] }) h.objs.size (DN P w h.objs.size []) :=
  dn_ok (xs := []) (Nat.zero_le _) (beq_eq_false_iff_ne.mpr (Ne.symm (Nat.ne_of_lt hb))) .nil (Heap.DictOfH.new h)
/-- {} -/
def tDNewN (P : Program) (w : World) : TE := fun _ H Q => ∀ p, H p = none → Q (.ref p) (upd H p (DN P w p []))
theorem pe_dnewN {X : Cx} {pos : Pos} : PE X (.Dict [] [] pos) (tDNewN X.prog X.w) := ⟨fun pins s σ H Q I h =>
  wpAny_Dict_empty ⟨.ref s.heap.objs.size, _, I.laid (a := s.heap.objs.size) (o := DN X.prog X.w s.heap.objs.size []) (t' := s.toks) (fun _ _ q => Heap.get?_push_of_some _ q) (Nat.le_refl _) (dn_empty s.heap I.big), rfl, h _ (I.hok.fresh (Nat.le_refl _))⟩⟩
/-- y in d -/
def tNIn (P : Program) (w : World) (ty td : TE) : TE := fun σ H Q => ty σ H fun y H1 => td σ H1 fun x H2 => ∃ (a b : Addr) (kvs : List (NestedKey × Addr × V)) (k : NestedKey), x = .ref a ∧ y = .ref b ∧ H2 a = some (DN P w a kvs) ∧ KN H2 kvs ∧ K2 H2 k b ∧ Q (.bl (atN kvs k).isSome) H2
theorem pc_nin {X : Cx} {i o : Expr} {ty td : TE} (hu : X.A.units + 64 < cLine) (hi : PE X i ty) (ho : PE X o td) : PC X .In i o (tNIn X.prog X.w ty td) := by
  refine ⟨fun pins s σ H Q I h => ?_⟩
  refine thn (hi.run pins s σ H _ I h) fun iv s1 ⟨y, H1, I1, ry, q1⟩ => thn (ho.run pins s1 σ H1 _ I1 q1) fun u s2 ⟨x, H2, I2, rx, a, b, kvs, k, ex, ey, ea, hk, hkey, q2⟩ => ?_
  subst ex ey
  obtain rfl : u = Value.ref a := rx
  obtain rfl : iv = Value.ref b := ry
  obtain ⟨hl, hd, xs, rel, dd⟩ := dn_of I2.hok ea hk
  refine wpAny_in_heap (knd := nestedKind X.prog X.w) (show X.A.in1.units + 8 < cLine by show X.A.units + 1 + 8 < cLine; omega) (hkey.is I2.hok) hd dd ?_
  have e : (atKey xs k).isSome = (atN kvs k).isSome := by
    rw [(atN_rel rel k).isSome_eq, Option.isSome_map]
  rw [e]
  exact ⟨.bl (atN kvs k).isSome, H2, I2.tok _, rfl, q2⟩
/-- d[y] -/
def tNGet (P : Program) (w : World) (td ty : TE) : TE := fun σ H Q => td σ H fun x H1 => ty σ H1 fun y H2 => ∃ (a b : Addr) (kvs : List (NestedKey × Addr × V)) (k : NestedKey) (v : V), x = .ref a ∧ y = .ref b ∧ H2 a = some (DN P w a kvs) ∧ KN H2 kvs ∧ K2 H2 k b ∧ atN kvs k = some v ∧ Q v H2
theorem pe_nget {X : Cx} {o i : Expr} {pos : Pos} {td ty : TE} (hu : X.A.units + 64 < cLine) (ho : PE X o td) (hi : PE X i ty) (hs : NoSl i) : PE X (.Subscript o i pos) (tNGet X.prog X.w td ty) := by
  refine ⟨fun pins s σ H Q I h => ?_⟩
  refine subD_of PySem.F.slot_dict_getitem.lookup hs (thn (ho.run pins s σ H _ I h) fun u s1 ⟨x, H1, I1, rx, q1⟩ => thn (hi.run pins s1 σ H1 _ I1 q1) fun iv s2 ⟨y, H2, I2, ry, a, b, kvs, k, v, ex, ey, ea, hk, hkey, hv, q2⟩ => ?_)
  subst ex ey
  obtain rfl : u = Value.ref a := rx
  obtain rfl : iv = Value.ref b := ry
  obtain ⟨hl, hd, xs, rel, dd⟩ := dn_of I2.hok ea hk
  obtain ⟨w', hw, rw'⟩ := RelO.some_of (v := v) (o := (atKey xs k).map (·.2)) (by rw [← hv]; exact atN_rel rel k)
  obtain ⟨p, hp, hp2⟩ := Option.map_eq_some_iff.mp hw
  refine ⟨dd.typeIs, wpAny_getItem_heap (knd := nestedKind X.prog X.w) (show X.A.in1.units + 8 < cLine by show X.A.units + 1 + 8 < cLine; omega) (hkey.is I2.hok) dd hp ?_⟩
  rw [hp2]
  exact ⟨v, H2, I2.tok _, rw', q2⟩
/-- d[y] = v, y new -/
def sNPut (P : Program) (w : World) (td ty tv : TE) : TS := fun D σ H => tv σ H fun v H1 => td σ H1 fun x H2 => ty σ H2 fun y H3 => ∃ (a b : Addr) (kvs : List (NestedKey × Addr × V)) (k : NestedKey), x = .ref a ∧ y = .ref b ∧ H3 a = some (DN P w a kvs) ∧ KN H3 kvs ∧ K2 H3 k b ∧ atN kvs k = none ∧ kvs.length < sizeLine ∧ D.nx σ (upd H3 a (DN P w a (kvs ++ [(k, b, v)])))
theorem paired_snoc {α β : Type} {R : α → β → Prop} : ∀ {xs : List α} {ys : List β} {x : α} {y : β}, Paired R xs ys → R x y → Paired R (xs ++ [x]) (ys ++ [y])
  | _, _, _, _, .nil, r => .cons r .nil
  | _, _, _, _, .cons h t, r => .cons h (paired_snoc t r)
theorem ps_nput {X : Cx} {o i value : Expr} {pos pos' : Pos} {td ty tv : TE} (hu : X.A.units + 64 < cLine) (ho : PE X o td) (hi : PE X i ty) (hv : PE X value tv) (hs : swapsWith value (some (.Subscript o i pos')) pos.line X.env = pure false) :
    PS X (.Assign [.Subscript o i pos'] value pos) (sNPut X.prog X.w td ty tv) := by
  refine ⟨fun pins s σ H D I h => ?_⟩
  refine wpAny_Assign_Subscript (thn (hv.run pins s σ H _ I h) fun r s1 ⟨v, H1, I1, rv, q1⟩ => thn (ho.run pins s1 σ H1 _ I1 q1) fun u s2 ⟨x, H2, I2, rx, q2⟩ => thn (hi.run pins s2 σ H2 _ I2 q2) fun iv s3 ⟨y, H3, I3, ry, a, b, kvs, k, ex, ey, ea, hk, hkey, hn, hl, q3⟩ => ?_) hs
  subst ex ey
  obtain rfl : u = Value.ref a := rx
  obtain rfl : iv = Value.ref b := ry
  obtain ⟨_, hd, xs, rel, dd⟩ := dn_of I3.hok ea hk
  have len := Paired.length rel
  have hno : atKey xs k = none := by
    have := atN_rel rel k
    rw [hn] at this
    cases e : atKey xs k with
    | none => rfl
    | some p => rw [e] at this; exact (show False from this).elim
  refine wpAny_setItem_heap (knd := nestedKind X.prog X.w) (hsz := by omega) (show X.A.in1.units + 8 < cLine by show X.A.units + 1 + 8 < cLine; omega) (hkey.is I3.hok) dd fun h' dd' hs => ?_
  rw [storedH_new hno] at dd'
  have he : ∃ q, h'.get? a = some q := let ⟨q, _, _, hq, _⟩ := dd'; ⟨q, hq⟩
  exact ⟨σ, _, d_write I3 (by rw [ea]; exact True.intro) hs he (dn_ok (by rw [List.length_append]; show kvs.length + 1 ≤ _; omega) hd (paired_snoc rel ⟨rfl, rfl, rv⟩) dd'), q3⟩
theorem dnewNK {X : Cx} {P : Program} {w : World} {pos : Pos} (h : X.prog = P) (h2 : X.w = w) : PE X (.Dict [] [] pos) (tDNewN P w) := by
  subst h h2
  exact pe_dnewN
theorem pninK {X : Cx} {P : Program} {w : World} {i o : Expr} {ty td : TE} (h : X.prog = P) (h2 : X.w = w) (hu : X.A.units + 64 < cLine) (hi : PE X i ty) (ho : PE X o td) : PC X .In i o (tNIn P w ty td) := by
  subst h h2
  exact pc_nin hu hi ho
theorem ngetK {X : Cx} {P : Program} {w : World} {o i : Expr} {pos : Pos} {td ty : TE} (h : X.prog = P) (h2 : X.w = w) (hu : X.A.units + 64 < cLine) (ho : PE X o td) (hi : PE X i ty) (hs : NoSl i) : PE X (.Subscript o i pos) (tNGet P w td ty) := by
  subst h h2
  exact pe_nget hu ho hi hs
theorem nputK {X : Cx} {P : Program} {w : World} {o i value : Expr} {pos pos' : Pos} {td ty tv : TE} (h : X.prog = P) (h2 : X.w = w) (hu : X.A.units + 64 < cLine) (ho : PE X o td) (hi : PE X i ty) (hv : PE X value tv) (hs : swapsWith value (some (.Subscript o i pos')) pos.line X.env = pure false) :
    PS X (.Assign [.Subscript o i pos'] value pos) (sNPut P w td ty tv) := by
  subst h h2
  exact ps_nput hu ho hi hv hs
/-! a beat -/
theorem num_at {P : Pie} {t : Nat} (h : 1 ≤ P.nums.length) : atI (P.nums.map V.int) ((t : Int) % ((P.nums.map V.int).length : Nat)) = some (.int (P.num t)) := by
  rw [List.length_map]
  have l : t % P.nums.length < P.nums.length := Nat.mod_lt _ (by omega)
  have e : ((t : Int) % (P.nums.length : Int)) = ((t % P.nums.length : Nat) : Int) := rfl
  rw [e]
  refine atI_nat ?_
  rw [List.getElem?_map, List.getElem?_eq_getElem l]
  show some (V.int _) = some (V.int (P.nums.getD (t % P.nums.length) 0))
  rw [getD_of (List.getElem?_eq_getElem l)]
theorem cntL_get {n i : Nat} {f : Nat → Int} (h : i < n) : (cntL n f)[i]? = some (.int (f i)) := by
  unfold cntL
  rw [List.getElem?_map, List.getElem?_map, List.getElem?_range h]
  rfl
theorem cntL_len (n : Nat) (f : Nat → Int) : (cntL n f).length = n := by
  unfold cntL
  rw [List.length_map, List.length_map, List.length_range]
theorem cntL_congr {n : Nat} {f g : Nat → Int} (h : ∀ i, i < n → f i = g i) : cntL n f = cntL n g := by
  unfold cntL
  rw [List.map_congr_left fun i hi => h i (List.mem_range.mp hi)]
theorem cntL_set {n i : Nat} {f : Nat → Int} {x : Int} : (cntL n f).set i (.int x) = cntL n (fun j => if j = i then x else f j) := by
  apply List.ext_getElem?
  intro j
  rw [List.getElem?_set]
  by_cases hj : j < n
  · rw [cntL_get hj, cntL_get hj]
    by_cases e : i = j
    · rw [if_pos e, if_pos (by rw [cntL_len]; omega), if_pos e.symm]
    · rw [if_neg e, if_neg fun z => e z.symm]
  · rw [List.getElem?_eq_none (by rw [cntL_len]; omega), List.getElem?_eq_none (by rw [cntL_len]; omega)]
    by_cases e : i = j
    · rw [if_pos e, if_neg (by rw [cntL_len]; omega)]
    · rw [if_neg e]
theorem holdL_get {Ps : List Pie} {k i : Nat} (h : (holdL Ps)[k]? = some i) : ∃ P, Ps[i]? = some P ∧ P.hold = true := by
  have m := List.mem_of_getElem? h
  obtain ⟨h1, h2⟩ := List.mem_filter.mp m
  have il := List.mem_range.mp h1
  have e : Ps[i]? = some Ps[i] := List.getElem?_eq_getElem il
  rw [getD_of e] at h2
  exact ⟨_, e, h2⟩
theorem holdL_new {Ps : List Pie} {k i : Nat} (h : (holdL Ps)[k]? = some i) : i ∉ (holdL Ps).take k := fun m => by
  have nd : (holdL Ps).Nodup := (List.nodup_range).filter _
  obtain ⟨j, hj⟩ := List.getElem?_of_mem m
  have hj2 := (List.getElem?_eq_some_iff.mp hj).1
  rw [List.length_take] at hj2
  rw [List.getElem?_take_of_lt (by omega)] at hj
  have kl := (List.getElem?_eq_some_iff.mp h)
  have jl := (List.getElem?_eq_some_iff.mp hj)
  obtain ⟨kl, ke⟩ := kl
  obtain ⟨jl, je⟩ := jl
  exact List.pairwise_iff_getElem.mp nd j k jl kl (by omega) (je.trans ke.symm)
theorem holdL_mem {Ps : List Pie} {i : Nat} {P : Pie} (e : Ps[i]? = some P) : i ∈ holdL Ps ↔ P.hold = true := by
  unfold holdL
  rw [List.mem_filter, List.mem_range, getD_of e]
  exact ⟨fun h => h.2, fun h => ⟨(List.getElem?_eq_some_iff.mp e).1, h⟩⟩
theorem next_none {P : Pie} {h : Hd} {o : Int} {as : List Int} (n : P.hold = false) : P.next h o as = h := by
  cases P <;> first | rfl | cases n
theorem asks3 (P : Pie) : P.asks.length ≤ 3 := by
  cases P <;> first | exact (by decide : 0 ≤ 3) | exact (by decide : 1 ≤ 3) | exact (by decide : 2 ≤ 3) | exact (by decide : 3 ≤ 3)
def Frm (M ha ca : Addr) (H H' : Hp) : Prop := ∀ a o, a ≠ M → a ≠ ha → a ≠ ca → H a = some o → H' a = some o
def sp_Machine_beat {K : PySem.W.Frag} {mg : Str → Option Value} (T : Defs K mg) : Sp := fun vs H Q _ => ∃ (x : Addr) (A : MA) (H0 : Hp) (Ps : List Pie) (f : Nat → Int) (t : Nat), vs = [.ref x] ∧ MaAt T.C_Machine H0 H x A Ps f t (fun i => (sta Ps t).getD i .non) ∧ PsOk Ps.length Ps ∧ Ps.length ≤ 24 ∧
  ∀ H' p, MaAt T.C_Machine H0 H' x A Ps (fun i => f i + (bts Ps t).getD i 0) ((t + 1 : Nat)) (fun i => (sta Ps (t + 1)).getD i .non) → Frm x A.ha A.ca H H' → H p = none → H' p = some (.tup ((bts Ps t).map V.int)) → Q (.ref p) H'
theorem ok_Machine_beat (T : Defs K mg) (TT : Tabs T base) : FnOk P w K mg base CX0 3 T.f_Machine_beat T.fd_Machine_beat ["self"] (sp_Machine_beat T) := by
  have G_bit_of : FnOk P w K mg base CX0 1 T.f_bit_of T.fd_bit_of ["piece", "number", "held", "asked"] (sp_bit_of K) := ok_bit_of T TT
  have G_bits_asked : FnOk P w K mg base CX0 1 T.f_bits_asked T.fd_bits_asked ["asks", "bits"] (sp_bits_asked K) := ok_bits_asked T TT
  have G_held_behind : FnOk P w K mg base CX0 2 T.f_held_behind T.fd_held_behind ["piece", "held", "own", "asked"] (sp_held_behind K) := ok_held_behind T TT
  refine T.F_Machine_beat.ok sc_Machine_beat (fun vs H Q E h => ?_) (fun cdv A outer s H vs Q E hr h => ?_)
  · obtain ⟨x, A, H0, Ps, f, t, rfl, ma, ok, n24, q⟩ := h
    rfl
  · obtain ⟨x, A, H0, Ps, f, t, rfl, ma, ok, n24, q⟩ := h
    refine ⟨_, PSs.nox (pss_cons (ps_set (i := 1) sc_Machine_beat.nd rfl (.inl rfl) pe_dnewK)
    (pss_cons ((ps_for PassesOwn.never rfl (pi_enumT (by rfl) T.m_enumerate (pa_cons (pe_fld (pv 0) rfl) pa_nil)) (pg_tup rfl (pgs_cons (pg_name (i := 2) sc_Machine_beat.nd rfl (.inl rfl)) (pgs_cons (pg_name (i := 3) sc_Machine_beat.nd rfl (.inl rfl)) pgs_nil))) (pss_cons (ps_set (i := 4) sc_Machine_beat.nd rfl (.inl rfl) (pe_ix ix_list (pe_ix ix_list (pe_fld (pv 0) rfl) (pv 2) (fun _ _ => rfl)) (pe_op op_mod (pe_fld (pv 0) rfl) (pe_callB call_len_seq (by rfl) T.m_len bt_len (pa_cons (pe_ix ix_list (pe_fld (pv 0) rfl) (pv 2) (fun _ _ => rfl)) pa_nil))) (fun _ _ => rfl)))
    (pss_cons (ps_asg (pe_call G_bit_of (hr.mono (by decide)) (by rfl) T.g_bit_of T.F_bit_of.kp T.b_bit_of .nil pass0 (pa_cons (pv 3) (pa_cons (pv 4) (pa_cons (pe_ix ix_list (pe_fld (pv 0) rfl) (pv 2) (fun _ _ => rfl)) (pa_cons (pe_call G_bits_asked (hr.mono (by decide)) (by rfl) T.g_bits_asked T.F_bits_asked.kp T.b_bits_asked .nil pass0 (pa_cons (pe_ix ix_list (pe_fld (pv 0) rfl) (pv 2) (fun _ _ => rfl)) (pa_cons (pv 1) pa_nil))) pa_nil))))) (pg_sub (pv 1) (pv 2) (set_dict (u1 hr))))
    (pss_one (ps_augS (pe_fld (pv 0) rfl) (pv 2) get_list (pe_dget (u1 hr) (pv 1) (pv 2) (fun _ _ => rfl)) ip_add set_list))))))
    (pss_cons ((ps_for PassesOwn.never rfl (pi_list (pe_fld (pv 0) rfl)) (pg_name (i := 2) sc_Machine_beat.nd rfl (.inl rfl)) (pss_cons (ps_set (i := 5) sc_Machine_beat.nd rfl (.inl rfl) (pe_call G_bits_asked (hr.mono (by decide)) (by rfl) T.g_bits_asked T.F_bits_asked.kp T.b_bits_asked .nil pass0 (pa_cons (pe_ix ix_list (pe_fld (pv 0) rfl) (pv 2) (fun _ _ => rfl)) (pa_cons (pv 1) pa_nil))))
    (pss_one (ps_asg (pe_call G_held_behind (hr.mono (by decide)) (by rfl) T.g_held_behind T.F_held_behind.kp T.b_held_behind .nil pass0 (pa_cons (pe_ix ix_tup (pe_fld (pv 0) rfl) (pv 2) (fun _ _ => rfl)) (pa_cons (pe_ix ix_list (pe_fld (pv 0) rfl) (pv 2) (fun _ _ => rfl)) (pa_cons (pe_dget (u1 hr) (pv 1) (pv 2) (fun _ _ => rfl)) (pa_cons (pv 5) pa_nil))))) (pg_sub (pe_fld (pv 0) rfl) (pv 2) set_list))))))
    (pss_cons (ps_fldaug (pv 0) pe_int in_add)
    (pss_one (ps_ret (pe_tupVals rfl (by rfl) T.m_tuple (pv 1)))))))), ?_⟩
    have hsl : sizeLine = 16777216 := by decide
    obtain ⟨xs, ⟨ob, hxs⟩, hps⟩ := ma.pcs
    obtain ⟨as_, has, hask⟩ := ma.ask
    obtain ⟨ns, hns, hnum⟩ := ma.num
    obtain ⟨vs, hvs, lvs, hheld⟩ := ma.held
    obtain ⟨fs, hfs⟩ := ma.insn
    obtain ⟨n1, n2, n3, n4, n5, n6⟩ := ma.ne
    have ll := hps.len
    have hst := sta_ok ok t
    have hbt := fun i (hi : i ≤ Ps.length) => bup_bits (t := t) ok hst i hi
    have isx : ∀ a xs, A.Hn a = some (.tup xs) → a ≠ x := fun a xs e => ne_of e hfs (fun z => by cases z)
    have isxO : ∀ a ob xs, A.Hn a = some (tupO ob xs) → a ≠ x := fun a ob xs e => ne_of e hfs (fun z => by cases ob <;> cases z)
    have isl : ∀ a xs, A.Hn a = some (.lst xs) → a ≠ x := fun a xs e => ne_of e hfs (fun z => by cases z)
    intro d nd
    have s1 := same_upd nd (o := .dK [])
    have hd1 := upd_same (H := H) (a := d) (o := .dK [])
    have dx' : ∀ (a : Addr) (o : HO), H a = some o → a ≠ d := fun a o e => ne_of_none e nd
    have dca : A.ca ≠ d := dx' _ _ ma.cnt
    generalize upd H d (.dK []) = H1 at s1 hd1 ⊢
    -- what stays in the first loop
    have st : ∀ G : Hp, (∀ (a : Addr) (o : HO), a ≠ d → a ≠ A.ca → H1 a = some o → G a = some o) → (∀ (a : Addr) (o : HO), a ≠ x → A.Hn a = some o → G a = some o) ∧ G x = some (.ins T.C_Machine A.dx (mfl A t)) ∧ G A.ha = some (.lst vs) ∧ G A.hg = some (.lst ((holdL Ps).map fun (i : Nat) => V.int i)) := fun G fr =>
      ⟨fun a o ax e => fr _ _ (dx' _ _ (ma.kp a o ax e)) (ne_of_none e ma.can) (s1 _ _ (ma.kp a o ax e)), fr _ _ (dx' _ _ ma.ins) n6.symm (s1 _ _ ma.ins), fr _ _ (dx' _ _ hvs) n1 (s1 _ _ hvs), fr _ _ (dx' _ _ ma.hold) n3 (s1 _ _ ma.hold)⟩
    have fr0 : ∀ (a : Addr) (o : HO), a ≠ d → a ≠ A.ca → H1 a = some o → H1 a = some o := fun _ _ _ _ e => e
    refine ⟨_, rfl, x, _, A.dx, _, _, rfl, (st H1 fr0).2.1, T.cl_Machine, T.na_Machine_pieces, ml_pieces A t, A.pa, _, rfl, SqO ((st H1 fr0).1 _ _ (isxO _ _ _ hxs) hxs), for_it (walk_enumT (K := K) (a := A.pa) (xs := xs)) (fun i σ G => ∃ y2 y3 y4, σ = [some (.ref x), some (.ref d), y2, y3, y4, none] ∧ (∀ a o, a ≠ d → a ≠ A.ca → H1 a = some o → G a = some o) ∧ G d = some (.dK (dkv 0 (bup Ps t (sta Ps t) i))) ∧ G A.ca = some (.lst (cntL Ps.length fun j => if j < i then f j + (bts Ps t).getD j 0 else f j))) ⟨none, none, none, rfl, fr0, hd1, ?_⟩ ?_ ?_ ?_⟩
    · rw [s1 _ _ ma.cnt]
      exact congrArg (fun z => some (HO.lst z)) (cntL_congr fun i _ => (if_neg (Nat.not_lt_zero i)).symm)
    · rintro i σ G _ ⟨_, _, _, _, fr, _⟩
      exact SqO ((st G fr).1 _ _ (isxO _ _ _ hxs) hxs)
    · rintro i v σ G G' hi ⟨y2, y3, y4, rfl, fr, hd, hc⟩ ⟨T', x1, x2, rfl, nT, rfl, e1, e2⟩
      have e1 : some (V.int (i : Nat)) = some x1 := e1
      cases e1
      obtain ⟨P, hP, hpv⟩ := hps.ok_get e2
      have il := (List.getElem?_eq_some_iff.mp hP).1
      have okP := ok i P hP
      refine ⟨T', _, rfl, SqT.mk upd_same, rfl, _, _, rfl, _, _, rfl, rfl, ?_⟩
      have s2 := same_upd nT (o := .tup [.int (i : Nat), x2])
      generalize upd G T' (.tup [.int (i : Nat), x2]) = G2 at s2 ⊢
      have fr2 : ∀ a o, a ≠ d → a ≠ A.ca → H1 a = some o → G2 a = some o := fun a o h1 h2 e => s2 _ _ (fr a o h1 h2 e)
      have hd2 := s2 _ _ hd
      have hc2 := s2 _ _ hc
      clear fr hd hc s2 nT
      obtain ⟨kp2, hM2, hvs2, _⟩ := st G2 fr2
      obtain ⟨qn, hq1, hq2⟩ := hnum i P hP
      obtain ⟨qa, ha1, ha2⟩ := hask i P hP
      obtain ⟨hv, hv1, hv2⟩ := hheld i il
      have nl := Pie.nums_len okP
      have hq2' := kp2 _ _ (isl _ _ hq2) hq2
      have ha2' := kp2 _ _ (isx _ _ ha2) ha2
      have hns2 := kp2 _ _ (isl _ _ hns) hns
      have has2 := kp2 _ _ (isl _ _ has) has
      have hpv2 : PieAt G2 P x2 := hpv.keep fun a ys e => kp2 _ _ (isx _ _ e) e
      have hv2' : ((sta Ps t).getD i .non).At G2 hv := hv2.keep fun a ys e => fr2 _ _ (dx' _ _ e) (ne_of e ma.cnt (fun z => by cases z)) (s1 _ _ e)
      refine ⟨_, rfl, x, _, A.dx, _, _, rfl, hM2, T.cl_Machine, T.na_Machine_numbers, ml_numbers A t, _, rfl, A.na, _, _, _, rfl, rfl, SqL.mk hns2, atI_nat hq1, ?_⟩
      refine ⟨_, rfl, x, _, A.dx, _, _, rfl, hM2, T.cl_Machine, T.na_Machine_beats, ml_beats A t, _, rfl, x, _, A.dx, _, _, rfl, hM2, T.cl_Machine, T.na_Machine_numbers, ml_numbers A t, _, rfl, A.na, _, _, _, rfl, rfl, SqL.mk hns2, atI_nat hq1, qn, _, rfl, .inl (SqL.mk hq2'), _, _, rfl, rfl, ?_, qn, _, _, _, rfl, rfl, SqL.mk hq2', num_at nl.1, ?_⟩
      · show (0 : Int) < ((P.nums.map V.int).length : Nat)
        rw [List.length_map]
        omega
      refine ⟨_, rfl, _, rfl, _, rfl, x, _, A.dx, _, _, rfl, hM2, T.cl_Machine, T.na_Machine_held, ml_held A t, _, rfl, A.ha, _, _, _, rfl, rfl, SqL.mk hvs2, atI_nat hv1, ?_⟩
      refine ⟨_, rfl, x, _, A.dx, _, _, rfl, hM2, T.cl_Machine, T.na_Machine_asks, ml_asks A t, _, rfl, A.aa, _, _, _, rfl, rfl, SqL.mk has2, atI_nat ha1, _, rfl, qa, d, P.asks, bup Ps t (sta Ps t) i, rfl, ha2', hd2, asks3 P, fun G3 l s3 nl3 hl3 => ?_⟩
      refine ⟨P, x2, hv, P.num t, (sta Ps t).getD i .non, l, asked P (bup Ps t (sta Ps t) i), i, Ps.length, rfl, hpv2.same s3, okP, hst i P hP, hv2'.same s3, hl3, List.length_map _, asked_bits (hbt i (by omega)), fun G4 s4 => ?_⟩
      have s24 := s3.trans s4
      have hd4 := s24 _ _ hd2
      have hc4 := s24 _ _ hc2
      refine ⟨_, rfl, _, rfl, d, _, rfl, DPut.k (k := .inl (i : Int)) hd4 (by rw [dkv_len, bup_len]; omega), ?_⟩
      have eb : P.bit (P.num t) ((sta Ps t).getD i .non) (asked P (bup Ps t (sta Ps t) i)) = (bts Ps t).getD i 0 := (bts_own hP).symm
      have ed : putK (dkv 0 (bup Ps t (sta Ps t) i)) (.inl (i : Int)) (.int (P.bit (P.num t) ((sta Ps t).getD i .non) (asked P (bup Ps t (sta Ps t) i)))) = dkv 0 (bup Ps t (sta Ps t) (i + 1)) := by
        have := dkv_put (bup Ps t (sta Ps t) i) (P.bit (P.num t) ((sta Ps t).getD i .non) (asked P (bup Ps t (sta Ps t) i)))
        rw [bup_len] at this
        rw [this]
        show _ = dkv 0 (bup Ps t (sta Ps t) i ++ [_])
        rw [getD_of hP]
      rw [ed]
      have hd5 := upd_same (H := G4) (a := d) (o := .dK (dkv 0 (bup Ps t (sta Ps t) (i + 1))))
      have hc5 : (upd G4 d (.dK (dkv 0 (bup Ps t (sta Ps t) (i + 1))))) A.ca = _ := (upd_ne dca).trans hc4
      have fr5 : ∀ a o, a ≠ d → a ≠ A.ca → H1 a = some o → (upd G4 d (.dK (dkv 0 (bup Ps t (sta Ps t) (i + 1))))) a = some o := fun a o h1 h2 e => (upd_ne h1).trans (s24 _ _ (fr2 a o h1 h2 e))
      generalize upd G4 d (.dK (dkv 0 (bup Ps t (sta Ps t) (i + 1)))) = G5 at hd5 hc5 fr5 ⊢
      have hM5 := (st G5 fr5).2.1
      have gb : (bup Ps t (sta Ps t) (i + 1)).getD i 0 = (bts Ps t).getD i 0 := (bup_get (Ps := Ps) (t := t) (hs := sta Ps t) (a := i) (i := i + 1) (by omega) Ps.length (by omega)).symm
      refine ⟨_, rfl, x, _, A.dx, _, _, rfl, hM5, T.cl_Machine, T.na_Machine_counts, ml_counts A t, _, rfl, A.ca, _, _, _, rfl, rfl, SqL.mk hc5, atI_nat (cntL_get il), _, rfl, _, rfl, d, _, rfl, (dkv_at (bs := bup Ps t (sta Ps t) (i + 1)) (a := i) (by rw [bup_len]; omega)) ▸ DGet.k (k := .inl (i : Int)) hd5, ?_⟩
      rw [gb]
      refine ⟨_, _, rfl, rfl, A.ca, _, _, i, rfl, rfl, hc5, ix_at (by rw [cntL_len]; exact il), ?_⟩
      refine ⟨_, _, _, rfl, fun a o h1 h2 e => (upd_ne h2).trans (fr5 a o h1 h2 e), (upd_ne dca.symm).trans hd5, ?_⟩
      rw [upd_same, cntL_set]
      refine congrArg (fun z => some (HO.lst z)) (cntL_congr fun j _ => ?_)
      by_cases e : j = i
      · subst e
        rw [if_pos rfl, if_neg (Nat.lt_irrefl j), if_pos (Nat.lt_succ_self j)]
      · rw [if_neg e]
        by_cases e2 : j < i
        · rw [if_pos e2, if_pos (by omega)]
        · rw [if_neg e2, if_neg (by omega)]
    rintro σ G ⟨y2, y3, y4, rfl, fr, hd, hc⟩
    have hc : G A.ca = some (.lst (cntL Ps.length fun j => f j + (bts Ps t).getD j 0)) := by
      rw [hc]
      exact congrArg (fun z => some (HO.lst z)) (cntL_congr fun j hj => if_pos (by omega))
    rw [ll] at hd
    have hd : G d = some (.dK (dkv 0 (bts Ps t))) := hd
    obtain ⟨kpG, hMG, hvsG, hhgG⟩ := st G fr
    have bb : Bits (bts Ps t) := bts_bits ok t
    have dha : A.ha ≠ d := dx' _ _ hvs
    -- what is held behind
    have st2 : ∀ F : Hp, (∀ (a : Addr) (o : HO), a ≠ A.ha → G a = some o → F a = some o) → (∀ (a : Addr) (o : HO), a ≠ x → A.Hn a = some o → F a = some o) ∧ F x = some (.ins T.C_Machine A.dx (mfl A t)) ∧ F A.hg = some (.lst ((holdL Ps).map fun (i : Nat) => V.int i)) ∧ F d = some (.dK (dkv 0 (bts Ps t))) ∧ F A.ca = some (.lst (cntL Ps.length fun j => f j + (bts Ps t).getD j 0)) := fun F fr =>
      ⟨fun a o ax e => fr _ _ (ne_of_none e ma.hdn) (kpG a o ax e), fr _ _ n4.symm hMG, fr _ _ n2.symm hhgG, fr _ _ dha.symm hd, fr _ _ n1.symm hc⟩
    have fz : ∀ (a : Addr) (o : HO), a ≠ A.ha → G a = some o → G a = some o := fun _ _ _ e => e
    refine ⟨_, rfl, x, _, A.dx, _, _, rfl, hMG, T.cl_Machine, T.na_Machine_holding, ml_holding A t, A.hg, rfl, ⟨_, SqL.mk hhgG⟩, for_list (xs := (holdL Ps).map fun (i : Nat) => V.int i) (fun k σ F => ∃ y2 y5, σ = [some (.ref x), some (.ref d), y2, y3, y4, y5] ∧ (∀ (a : Addr) (o : HO), a ≠ A.ha → G a = some o → F a = some o) ∧ ∃ vs', F A.ha = some (.lst vs') ∧ HeldL F Ps.length vs' (fun i => if i ∈ (holdL Ps).take k then (sta Ps (t + 1)).getD i .non else (sta Ps t).getD i .non)) ⟨_, _, rfl, fz, vs, hvsG, lvs, fun i hi => ?_⟩ ?_ ?_ ?_⟩
    · obtain ⟨v, h1, h2⟩ := hheld i hi
      refine ⟨v, h1, ?_⟩
      show (if i ∈ (holdL Ps).take 0 then (sta Ps (t + 1)).getD i .non else (sta Ps t).getD i Hd.non).At G v
      rw [if_neg (by simp)]
      exact h2.keep fun a ys e => fr _ _ (dx' _ _ e) (ne_of e ma.cnt (fun z => by cases z)) (s1 _ _ e)
    · rintro k σ F _ ⟨_, _, _, fF, _⟩
      exact SqL.mk (st2 F fF).2.2.1
    · rintro k v σ F hk ⟨y2, y5, rfl, fF, vs', hvF, lvF, heldF⟩
      rw [List.getElem?_map] at hk
      obtain ⟨i, hki, rfl⟩ := Option.map_eq_some_iff.mp hk
      obtain ⟨P, hP, hold⟩ := holdL_get hki
      have il := (List.getElem?_eq_some_iff.mp hP).1
      have okP := ok i P hP
      have nin := holdL_new hki
      obtain ⟨kpF, hMF, hhgF, hdF, hcF⟩ := st2 F fF
      obtain ⟨qa, ha1, ha2⟩ := hask i P hP
      obtain ⟨x2, hx2, hpv⟩ := hps.get hP
      obtain ⟨hv, hv1, hv2⟩ := heldF i il
      have hv2 : (if i ∈ (holdL Ps).take k then (sta Ps (t + 1)).getD i .non else (sta Ps t).getD i Hd.non).At F hv := hv2
      rw [if_neg nin] at hv2
      have ha2' := kpF _ _ (isx _ _ ha2) ha2
      have hasF := kpF _ _ (isl _ _ has) has
      have hpvF : PieAt F P x2 := hpv.keep fun a ys e => kpF _ _ (isx _ _ e) e
      have hxsF := kpF _ _ (isxO _ _ _ hxs) hxs
      refine ⟨_, rfl, x, _, A.dx, _, _, rfl, hMF, T.cl_Machine, T.na_Machine_asks, ml_asks A t, _, rfl, A.aa, _, _, _, rfl, rfl, SqL.mk hasF, atI_nat ha1, _, rfl, qa, d, P.asks, bts Ps t, rfl, ha2', hdF, asks3 P, fun F2 l s2 nl2 hl2 => ?_⟩
      have fF2 : ∀ (a : Addr) (o : HO), a ≠ A.ha → G a = some o → F2 a = some o := fun a o h1 e => s2 _ _ (fF a o h1 e)
      obtain ⟨kpF2, hMF2, hhgF2, hdF2, hcF2⟩ := st2 F2 fF2
      have hvF2 := s2 _ _ hvF
      refine ⟨_, rfl, x, _, A.dx, _, _, rfl, hMF2, T.cl_Machine, T.na_Machine_pieces, ml_pieces A t, _, rfl, A.pa, _, _, _, rfl, rfl, SqO (s2 _ _ hxsF), atI_nat hx2, ?_⟩
      refine ⟨_, rfl, x, _, A.dx, _, _, rfl, hMF2, T.cl_Machine, T.na_Machine_held, ml_held A t, _, rfl, A.ha, _, _, _, rfl, rfl, SqL.mk hvF2, atI_nat hv1, ?_⟩
      refine ⟨_, rfl, _, rfl, d, _, rfl, (dkv_at (bs := bts Ps t) (a := i) (by rw [bts_len]; exact il)) ▸ DGet.k (k := .inl (i : Int)) hdF2, _, rfl, ?_⟩
      refine ⟨P, x2, hv, (bts Ps t).getD i 0, (sta Ps t).getD i .non, l, asked P (bts Ps t), i, Ps.length, rfl, hold, hpvF.same s2, okP, hst i P hP, hv2.same s2, hl2, List.length_map _, asked_bits bb, fun F3 v' s3 hv' => ?_⟩
      rw [← sta_succ hP] at hv'
      have fF3 : ∀ (a : Addr) (o : HO), a ≠ A.ha → G a = some o → F3 a = some o := fun a o h1 e => s3 _ _ (fF2 a o h1 e)
      obtain ⟨kpF3, hMF3, hhgF3, hdF3, hcF3⟩ := st2 F3 fF3
      have hvF3 := s3 _ _ hvF2
      refine ⟨_, rfl, x, _, A.dx, _, _, rfl, hMF3, T.cl_Machine, T.na_Machine_held, ml_held A t, _, rfl, A.ha, _, _, i, rfl, rfl, hvF3, ix_at (by rw [lvF]; exact il), ?_⟩
      have up : ∀ (u : V) (h : Hd), h.At F3 u → ∀ o, h.At (upd F3 A.ha (.lst o)) u := fun u h z o => z.keep fun a ys e => by
        rw [upd_ne (ne_of e hvF3 (fun z => by cases z))]
        exact e
      refine ⟨_, _, rfl, fun a o h1 e => (upd_ne h1).trans (fF3 a o h1 e), vs'.set i v', upd_same, by rw [List.length_set]; exact lvF, fun j hj => ?_⟩
      have tk : (holdL Ps).take (k + 1) = (holdL Ps).take k ++ [i] := by
        rw [List.take_add_one, hki]
        rfl
      by_cases e : j = i
      · subst e
        refine ⟨v', by rw [List.getElem?_set_self (by omega)], ?_⟩
        show (if j ∈ (holdL Ps).take (k + 1) then (sta Ps (t + 1)).getD j .non else (sta Ps t).getD j Hd.non).At _ v'
        rw [if_pos (by rw [tk]; simp)]
        exact up _ _ hv' _
      · obtain ⟨u, h1, h2⟩ := heldF j hj
        refine ⟨u, by rw [List.getElem?_set_ne (fun z => e z.symm)]; exact h1, ?_⟩
        have h2 : (if j ∈ (holdL Ps).take k then (sta Ps (t + 1)).getD j .non else (sta Ps t).getD j Hd.non).At F u := h2
        show (if j ∈ (holdL Ps).take (k + 1) then (sta Ps (t + 1)).getD j .non else (sta Ps t).getD j Hd.non).At _ u
        have em : (j ∈ (holdL Ps).take (k + 1)) = (j ∈ (holdL Ps).take k) := propext (by rw [tk, List.mem_append, List.mem_singleton]; exact ⟨fun z => z.resolve_right e, .inl⟩)
        simp only [em]
        exact up _ _ ((h2.same s2).same s3) _
    rintro σ F ⟨y2, y5, rfl, fF, vs', hvF, lvF, heldF⟩
    obtain ⟨kpF, hMF, hhgF, hdF, hcF⟩ := st2 F fF
    refine ⟨_, rfl, x, _, A.dx, _, _, rfl, hMF, T.cl_Machine, T.na_Machine_beats, ml_beats A t, _, _, rfl, rfl, A.dx, _, hMF, ml_len A t, ?_⟩
    rw [mp_beats, show (t : Int) + 1 = ((t + 1 : Nat) : Int) by omega]
    have hM9 := upd_same (H := F) (a := x) (o := .ins T.C_Machine A.dx (mfl A ((t + 1 : Nat) : Int)))
    have b9 : But x F (upd F x (.ins T.C_Machine A.dx (mfl A ((t + 1 : Nat) : Int)))) := but_upd
    have dx9 : d ≠ x := (dx' _ _ ma.ins).symm
    generalize upd F x (.ins T.C_Machine A.dx (mfl A ((t + 1 : Nat) : Int))) = F9 at hM9 b9 ⊢
    refine ⟨_, rfl, d, _, rfl, b9 _ _ dx9 hdF, by rw [dkv_len, bts_len]; omega, fun p np => ?_⟩
    rw [dkv_vals]
    have sp := same_upd np (o := .tup ((bts Ps t).map V.int))
    have frm : Frm x A.ha A.ca H (upd F9 p (.tup ((bts Ps t).map V.int))) := fun a o h1 h2 h3 e => sp _ _ (b9 _ _ h1 (fF _ _ h2 (fr _ _ (dx' _ _ e) h3 (s1 _ _ e))))
    have px : p ≠ x := (ne_of_none hM9 np).symm
    have pha : p ≠ A.ha := (ne_of_none (b9 _ _ n4 hvF) np).symm
    have pca : p ≠ A.ca := (ne_of_none (b9 _ _ n6 hcF) np).symm
    have npH : H p = none := by
      cases e : H p with
      | none => rfl
      | some o =>
        have := b9 _ _ px (fF _ _ pha (fr _ _ (dx' _ _ e) pca (s1 _ _ e)))
        rw [np] at this
        cases this
    refine q _ p ⟨sp _ _ hM9, ma.h0, ma.insn, fun a o ax e => sp _ _ (b9 _ _ ax (kpF a o ax e)), ⟨xs, ⟨_, hxs⟩, hps⟩, ⟨as_, has, hask⟩, ⟨ns, hns, hnum⟩, ma.hdn, ma.hgn, ma.can, ma.ne, ⟨vs', sp _ _ (b9 _ _ n4 hvF), lvF, fun i hi => ?_⟩, sp _ _ (b9 _ _ n5 hhgF), sp _ _ (b9 _ _ n6 hcF), ma.cme⟩ frm npH upd_same
    obtain ⟨u, h1, h2⟩ := heldF i hi
    refine ⟨u, h1, ?_⟩
    have eP : Ps[i]? = some Ps[i] := List.getElem?_eq_getElem hi
    have e : (if i ∈ (holdL Ps).take ((holdL Ps).map fun (i : Nat) => V.int i).length then (sta Ps (t + 1)).getD i .non else (sta Ps t).getD i Hd.non) = (sta Ps (t + 1)).getD i Hd.non := by
      rw [List.length_map, List.take_length]
      by_cases hh : Ps[i].hold = true
      · rw [if_pos ((holdL_mem eP).mpr hh)]
      · rw [if_neg (fun z => hh ((holdL_mem eP).mp z)), sta_succ eP, next_none (by simpa using hh)]
    have h2 : (if i ∈ (holdL Ps).take ((holdL Ps).map fun (i : Nat) => V.int i).length then (sta Ps (t + 1)).getD i .non else (sta Ps t).getD i Hd.non).At F u := h2
    rw [e] at h2
    exact h2.keep fun a ys z => sp _ _ (b9 _ _ (ne_of z hMF (fun z => by cases z)) z)
/-! a machine until it goes round -/
theorem MaAt.bas {C : Addr} {H0 H : Hp} {M : Addr} {A : MA} {Ps : List Pie} {f : Nat → Int} {t : Nat} {hs : Nat → Hd} (ma : MaAt C H0 H M A Ps f t hs) : But M H0 H := fun a o n e => ma.kp a o n (ma.h0 a o n e)
theorem MaAt.to {C : Addr} {H0 H H' : Hp} {M D : Addr} {A : MA} {Ps : List Pie} {f : Nat → Int} {t : Nat} {hs : Nat → Hd} {oD : HO} (ma : MaAt C H0 H M A Ps f t hs) (s : ∀ (a : Addr) (o : HO), a ≠ D → H a = some o → H' a = some o) (hD : H D = some oD) (nt : ∀ xs, HO.tup xs ≠ oD) (ni : ∀ c x fs, HO.ins c x fs ≠ oD) (nD : A.Hn D = none) (ne : D ≠ A.ha ∧ D ≠ A.hg ∧ D ≠ A.ca) : MaAt C H0 H' M A Ps f t hs := by
  have nM : M ≠ D := ne_of ma.ins hD (ni _ _ _)
  obtain ⟨vs, h1, h2, h3⟩ := ma.held
  refine ⟨s _ _ nM ma.ins, ma.h0, ma.insn, fun a o ax e => s _ _ (ne_of_none e nD) (ma.kp a o ax e), ma.pcs, ma.ask, ma.num, ma.hdn, ma.hgn, ma.can, ma.ne, ⟨vs, s _ _ ne.1.symm h1, h2, fun i hi => ?_⟩, s _ _ ne.2.1.symm ma.hold, s _ _ ne.2.2.symm ma.cnt, ma.cme⟩
  obtain ⟨v, g1, g2⟩ := h3 i hi
  exact ⟨v, g1, g2.keep fun a xs e => s _ _ (ne_of e hD (nt _)) e⟩
theorem MaAt.same {C : Addr} {H0 H H' : Hp} {M : Addr} {A : MA} {Ps : List Pie} {f : Nat → Int} {t : Nat} {hs : Nat → Hd} (ma : MaAt C H0 H M A Ps f t hs) (s : Same H H') : MaAt C H0 H' M A Ps f t hs := by
  obtain ⟨vs, h1, h2, h3⟩ := ma.held
  refine ⟨s _ _ ma.ins, ma.h0, ma.insn, fun a o ax e => s _ _ (ma.kp a o ax e), ma.pcs, ma.ask, ma.num, ma.hdn, ma.hgn, ma.can, ma.ne, ⟨vs, s _ _ h1, h2, fun i hi => ?_⟩, s _ _ ma.hold, s _ _ ma.cnt, ma.cme⟩
  obtain ⟨v, g1, g2⟩ := h3 i hi
  exact ⟨v, g1, g2.same s⟩
def Hd.key : Hd → NestedKey
  | .non => .none
  | .bit b => .num b
  | .ah bs => .tup (bs.map .num)
  | .num i => .num i
/-- what it holds ahead of beat t -/
noncomputable def skey (Ps : List Pie) (t : Nat) : NestedKey := .tup (.num ((t % cmL Ps : Nat) : Int) :: (sta Ps t).map Hd.key)
theorem Hd.At.k1 {H : Hp} {h : Hd} {v : V} (x : h.At H v) : K1 H h.key v := by
  cases h with
  | non => exact .inl ⟨rfl, x⟩
  | bit b => exact .inr (.inl ⟨b, rfl, x⟩)
  | ah bs =>
    obtain ⟨t, e, k⟩ := x
    exact .inr (.inr ⟨t, bs, rfl, e, k⟩)
  | num i => exact .inr (.inl ⟨i, rfl, x⟩)
theorem paired_of {α β : Type} {R : α → β → Prop} : ∀ {xs : List α} {ys : List β}, xs.length = ys.length → (∀ (i : Nat) (x : α) (y : β), xs[i]? = some x → ys[i]? = some y → R x y) → Paired R xs ys
  | [], [], _, _ => .nil
  | [], _ :: _, h, _ => by cases h
  | _ :: _, [], h, _ => by cases h
  | x :: xs, y :: ys, h, f => .cons (f 0 x y rfl rfl) (paired_of (by simpa using h) fun i a b e1 e2 => f (i + 1) a b (by simpa using e1) (by simpa using e2))
theorem lcmF_pos : ∀ {ns : List Nat}, (∀ n, n ∈ ns → 1 ≤ n) → 1 ≤ lcmF ns := by
  intro ns h
  unfold lcmF
  have : ∀ (ns : List Nat) (c : Nat), 1 ≤ c → (∀ n, n ∈ ns → 1 ≤ n) → 1 ≤ ns.foldl (fun c n => c * n / Nat.gcd c n) c := by
    intro ns
    induction ns with
    | nil => intro c hc _; exact hc
    | cons n ns ih =>
      intro c hc h
      exact ih _ (Nat.lcm_pos hc (h n List.mem_cons_self)) fun m hm => h m (List.mem_cons_of_mem _ hm)
  exact this ns 1 (Nat.le_refl 1) h
theorem cmL_pos {Ps : List Pie} {n : Nat} (ok : PsOk n Ps) : 1 ≤ cmL Ps := lcmF_pos fun m hm => by
  obtain ⟨P, hP, rfl⟩ := List.mem_map.mp hm
  obtain ⟨j, hj⟩ := List.getElem?_of_mem hP
  exact (Pie.nums_len (ok j P hj)).1
def sp_Machine_held_now {K : PySem.W.Frag} {mg : Str → Option Value} (T : Defs K mg) : Sp := fun vs H Q _ => ∃ (x : Addr) (A : MA) (H0 : Hp) (Ps : List Pie) (f : Nat → Int) (t : Nat), vs = [.ref x] ∧ MaAt T.C_Machine H0 H x A Ps f t (fun i => (sta Ps t).getD i .non) ∧ PsOk Ps.length Ps ∧ Ps.length ≤ 24 ∧
  ∀ H' p, Same H H' → H p = none → K2 H' (skey Ps t) p → Q (.ref p) H'
theorem ok_Machine_held_now (T : Defs K mg) (TT : Tabs T base) : FnOk P w K mg base CX0 1 T.f_Machine_held_now T.fd_Machine_held_now ["self"] (sp_Machine_held_now T) := by
  refine T.F_Machine_held_now.ok sc_Machine_held_now (fun vs H Q E h => ?_) (fun cdv A outer s H vs Q E hr h => ?_)
  · obtain ⟨x, A, H0, Ps, f, t, rfl, ma, ok, n24, q⟩ := h
    rfl
  · obtain ⟨x, A, H0, Ps, f, t, rfl, ma, ok, n24, q⟩ := h
    refine ⟨_, PSs.nox (pss_one (ps_ret (pe_tup (pa_cons (pe_op op_mod (pe_fld (pv 0) rfl) (pe_fld (pv 0) rfl)) (StX.pa_star (pe_fld (pv 0) rfl) pa_nil))))), ?_⟩
    have hsl : sizeLine = 16777216 := by decide
    have cp := cmL_pos ok
    obtain ⟨vs, hvs, lvs, hheld⟩ := ma.held
    refine ⟨_, rfl, x, _, A.dx, _, _, rfl, ma.ins, T.cl_Machine, T.na_Machine_beats, ml_beats A t, _, rfl, x, _, A.dx, _, _, rfl, ma.ins, T.cl_Machine, T.na_Machine_common, ml_common A t, _, _, rfl, rfl, by rw [ma.cme]; omega, _, rfl, x, _, A.dx, _, _, rfl, ma.ins, T.cl_Machine, T.na_Machine_held, ml_held A t, _, _, rfl, .inr (SqL.mk hvs), ?_⟩
    refine ⟨?_, fun p np => ?_⟩
    · show (vs ++ []).length + 1 ≤ _
      rw [List.append_nil]
      omega
    show Q (.ref p) (upd H p (.tup (.int ((t : Int) % A.cm) :: (vs ++ []))))
    rw [List.append_nil]
    refine q _ p (same_upd np) np ⟨_, _, rfl, upd_same, .cons (.inr (.inl ⟨_, rfl, ?_⟩)) (paired_of (by rw [List.length_map, sta_len, lvs]) fun i k v e1 e2 => ?_)⟩
    · show V.int ((t : Int) % A.cm) = _
      rw [ma.cme]
      rfl
    have il : i < Ps.length := by
      have := (List.getElem?_eq_some_iff.mp e2).1
      omega
    obtain ⟨u, h1, h2⟩ := hheld i il
    rw [e2] at h1
    cases h1
    rw [List.getElem?_map, List.getElem?_eq_getElem (by rw [sta_len]; exact il)] at e1
    cases e1
    have e3 : (sta Ps t).getD i .non = (sta Ps t)[i]'(by rw [sta_len]; exact il) := getD_of (List.getElem?_eq_getElem _)
    have h2 : ((sta Ps t).getD i .non).At H v := h2
    rw [e3] at h2
    exact (h2.same (same_upd np)).k1
theorem dn_nt {P : Program} {w : World} {a : Addr} {kvs : List (NestedKey × Addr × V)} : ∀ xs, HO.tup xs ≠ DN P w a kvs := fun xs z => by
  unfold DN at z
  cases z
theorem dn_nl {P : Program} {w : World} {a : Addr} {kvs : List (NestedKey × Addr × V)} : ∀ xs, HO.lst xs ≠ DN P w a kvs := fun xs z => by
  unfold DN at z
  cases z
theorem dn_ni {P : Program} {w : World} {a : Addr} {kvs : List (NestedKey × Addr × V)} : ∀ c x fs, HO.ins c x fs ≠ DN P w a kvs := fun c x fs z => by
  unfold DN at z
  cases z
theorem ml_noheld (A : MA) (t : Int) : (mfl A t).lookup ("held_now" : Str) = none := by kernel_rfl
/-- rows told, beat by beat -/
def ToldAt (H : Hp) (l : Addr) (Ps : List Pie) (n : Nat) : Prop := ∃ rs : List V, H l = some (.lst rs) ∧ rs.length = n ∧ ∀ j, j < n → ∃ p, rs[j]? = some (.ref p) ∧ H p = some (.tup ((bts Ps j).map V.int))
/-- ahead of beat n it holds again what it held ahead of beat s, and nothing twice ahead of that -/
structure Rep (Ps : List Pie) (n s : Nat) : Prop where
  lt : s < n
  eq : skey Ps n = skey Ps s
  no : ∀ i j, i < j → j < n → skey Ps i ≠ skey Ps j
theorem Rep.uniq {Ps : List Pie} {n s n' s' : Nat} (h : Rep Ps n s) (h' : Rep Ps n' s') : n = n' ∧ s = s' := by
  have e : n = n' := by
    rcases Nat.lt_trichotomy n n' with z | z | z
    · exact absurd h.eq.symm (h'.no s n h.lt z)
    · exact z
    · exact absurd h'.eq.symm (h.no s' n' h'.lt z)
  subst e
  refine ⟨rfl, ?_⟩
  have q := h.eq.symm.trans h'.eq
  rcases Nat.lt_trichotomy s s' with z | z | z
  · exact absurd q (h.no s s' z h'.lt)
  · exact z
  · exact absurd q.symm (h.no s' s z h.lt)
def SeenL (Ps : List Pie) (kvs : List (NestedKey × Addr × V)) (i : Nat) : Prop := kvs.length = i ∧ ∀ j, j < i → ∃ b, kvs[j]? = some (skey Ps j, b, .int (j : Nat))
theorem SeenL.snoc {Ps : List Pie} {kvs : List (NestedKey × Addr × V)} {i : Nat} (h : SeenL Ps kvs i) (b : Addr) : SeenL Ps (kvs ++ [(skey Ps i, b, .int (i : Nat))]) (i + 1) := by
  obtain ⟨hl, hj⟩ := h
  refine ⟨by rw [List.length_append, hl]; rfl, fun j jl => ?_⟩
  by_cases e : j < i
  · obtain ⟨b', hb⟩ := hj j e
    exact ⟨b', by rw [get_snoc (by omega)]; exact hb⟩
  · obtain rfl : j = i := by omega
    exact ⟨b, by rw [← hl]; rw [hl]; exact hl ▸ get_last⟩
theorem SeenL.look {Ps : List Pie} {kvs : List (NestedKey × Addr × V)} {i : Nat} (h : SeenL Ps kvs i) (k : NestedKey) : (atN kvs k = none ∧ ∀ j, j < i → skey Ps j ≠ k) ∨ ∃ j, j < i ∧ skey Ps j = k ∧ atN kvs k = some (.int (j : Nat)) := by
  obtain ⟨hl, hj⟩ := h
  unfold atN
  cases e : kvs.find? fun x => decide (x.1 = k) with
  | none =>
    refine .inl ⟨rfl, fun j jl z => ?_⟩
    obtain ⟨b, hb⟩ := hj j jl
    have := List.find?_eq_none.mp e _ (List.mem_of_getElem? hb)
    exact this (decide_eq_true z)
  | some x =>
    refine .inr ?_
    have m := List.mem_of_find?_eq_some e
    have hk := List.find?_some e
    obtain ⟨j, hx⟩ := List.getElem?_of_mem m
    have jl := (List.getElem?_eq_some_iff.mp hx).1
    obtain ⟨b, hb⟩ := hj j (by omega)
    rw [hx] at hb
    cases hb
    exact ⟨j, by omega, of_decide_eq_true hk, rfl⟩
def lenL : Option HO → Nat
  | some (.lst xs) => xs.length
  | _ => 0
def sp_run_to_settle {K : PySem.W.Frag} {mg : Str → Option Value} (T : Defs K mg) : Sp := fun vs H Q _ => ∃ (pa : Addr) (xs : List V) (Ps : List Pie), vs = [.ref pa] ∧ (∃ ob, H pa = some (tupO ob xs)) ∧ PisAt H Ps xs ∧ Ps.length ≤ 24 ∧ PsOk Ps.length Ps ∧
  (∀ H' tk l n s, Same H H' → Rep Ps n s → n ≤ 8192 → H' tk = some (.tup [.int (s : Nat), .ref l]) → ToldAt H' l Ps n → Q (.ref tk) H') ∧ ∀ H', Same H H' → (∀ i j, i < j → j ≤ 8192 → skey Ps i ≠ skey Ps j) → Q .non H'
theorem ok_run_to_settle (T : Defs K mg) (TT : Tabs T base) : FnOk P w K mg base CX0 14 T.f_run_to_settle T.fd_run_to_settle ["pieces"] (sp_run_to_settle T) := by
  have G_Machine___init__ : FnOk P w K mg base CX0 12 T.f_Machine___init__ T.fd_Machine___init__ ["self", "pieces"] (sp_Machine___init__ T) := ok_Machine___init__ T TT
  have G_Machine_held_now : FnOk P w K mg base CX0 1 T.f_Machine_held_now T.fd_Machine_held_now ["self"] (sp_Machine_held_now T) := ok_Machine_held_now T TT
  have G_Machine_beat : FnOk P w K mg base CX0 3 T.f_Machine_beat T.fd_Machine_beat ["self"] (sp_Machine_beat T) := ok_Machine_beat T TT
  refine T.F_run_to_settle.ok sc_run_to_settle (fun vs H Q E h => ?_) (fun cdv A outer s H vs Q E hr h => ?_)
  · obtain ⟨pa, xs, Ps, rfl, ⟨ob, hpa⟩, hps, n24, ok, q1, q0⟩ := h
    rfl
  · obtain ⟨pa, xs, Ps, rfl, ⟨ob, hpa⟩, hps, n24, ok, q1, q0⟩ := h
    refine ⟨_, PSs.nox (pss_cons (ps_set (i := 1) sc_run_to_settle.nd rfl (.inl rfl) (pe_make T.mk_Machine G_Machine___init__ (hr.mono (by decide)) (by rfl) T.g_Machine T.b_Machine___init__ .nil pass0 (pa_cons (pv 0) pa_nil)))
    (pss_cons (ps_set (i := 2) sc_run_to_settle.nd rfl (.inl rfl) (dnewNK (P := P) (w := w) rfl rfl))
    (pss_cons (ps_set (i := 3) sc_run_to_settle.nd rfl (.inl rfl) (pe_lst pa_nil))
    (pss_cons (ps_while PassesOwn.never (pt_cmpR op_le (pe_callB call_len_seq (by rfl) T.m_len bt_len (pa_cons (pv 3) pa_nil)) (pe_globI (by rfl) T.i_MOST_SETTLING) (nomark _)) (pss_cons (ps_set (i := 4) sc_run_to_settle.nd rfl (.inl rfl) (pe_meth0 (pv 1) T.cl_Machine T.mt_Machine_held_now G_Machine_held_now (hr.mono (by decide)) T.b_Machine_held_now .nil pass0))
    (pss_cons (ps_if (pt_cmp (pninK (P := P) (w := w) rfl rfl hr.units (pv 4) (pv 2)) rfl) (pss_one (ps_ret (pe_tup (pa_cons (ngetK (P := P) (w := w) rfl rfl hr.units (pv 2) (pv 4) (fun _ _ => rfl)) (pa_cons (pv 3) pa_nil))))) pss_nil)
    (pss_cons (nputK (P := P) (w := w) rfl rfl hr.units (pv 2) (pv 4) (pe_callB call_len_seq (by rfl) T.m_len bt_len (pa_cons (pv 3) pa_nil)) rfl)
    (pss_one (ps_expr (pe_bm PySem.F.plainAttrs_list PySem.F.slot_list_append PySem.F.type_list_append mt_append (pv 3) (pa_cons (pe_meth0 (pv 1) T.cl_Machine T.mt_Machine_beat G_Machine_beat (hr.mono (by decide)) T.b_Machine_beat .nil pass0) pa_nil))))))))
    (pss_one (ps_ret pe_non)))))), ?_⟩
    have hsl : sizeLine = 16777216 := by decide
    have ll := hps.len
    refine ⟨_, rfl, fun x dx nx ndx ne => ?_⟩
    have s0 : Same H (upd (upd H dx (.own x)) x (.ins T.C_Machine dx [])) := fun p o e => by
      rw [upd_ne (ne_of_none e nx), upd_ne (ne_of_none e ndx)]
      exact e
    refine ⟨x, dx, pa, xs, Ps, rfl, upd_same, ⟨ob, s0 _ _ hpa⟩, hps.same s0, n24, ok, fun E A ma => ⟨rfl, ?_⟩⟩
    generalize upd (upd H dx (.own x)) x (.ins T.C_Machine dx []) = H1 at s0 ma
    have sH : ∀ {G : Hp} {f : Nat → Int} {t : Nat} {hs : Nat → Hd}, MaAt T.C_Machine H1 G x A Ps f t hs → Same H G := fun m p o e => m.bas p o (ne_of_none e nx) (s0 p o e)
    -- what was seen
    intro d nd
    have fresh : ∀ {G : Hp} {f : Nat → Int} {t : Nat} {hs : Nat → Hd} {D : Addr}, MaAt T.C_Machine H1 G x A Ps f t hs → G D = none → A.Hn D = none ∧ (D ≠ A.ha ∧ D ≠ A.hg ∧ D ≠ A.ca) ∧ D ≠ x ∧ H D = none := fun {G f t hs D} m nD => by
      obtain ⟨vs0, hvs0, _⟩ := m.held
      have Dx : D ≠ x := (ne_of_none m.ins nD).symm
      refine ⟨?_, ⟨(ne_of_none hvs0 nD).symm, (ne_of_none m.hold nD).symm, (ne_of_none m.cnt nD).symm⟩, Dx, ?_⟩
      · cases e : A.Hn D with
        | none => rfl
        | some o =>
          have := m.kp D o Dx e
          rw [nD] at this
          cases this
      · cases e : H D with
        | none => rfl
        | some o =>
          have := sH m D o e
          rw [nD] at this
          cases this
    obtain ⟨dn, dne, dx', ndH⟩ := fresh ma nd
    have ma1 := ma.same (same_upd nd (o := DN P w d []))
    have hd1 := upd_same (H := E) (a := d) (o := DN P w d [])
    generalize upd E d (DN P w d []) = E1 at ma1 hd1 ⊢
    clear ma nd
    -- what was told
    refine ⟨Nat.zero_le _, fun D nD => ?_⟩
    obtain ⟨nDn, Dne, Dx, nDH⟩ := fresh ma1 nD
    have dD : d ≠ D := ne_of_none hd1 nD
    have ma2 := ma1.same (same_upd nD (o := .lst []))
    have hd2 := (same_upd nD (o := .lst [])) _ _ hd1
    have hD2 := upd_same (H := E1) (a := D) (o := .lst [])
    generalize upd E1 D (.lst []) = E2 at ma2 hd2 hD2 ⊢
    clear ma1 hd1 nD
    dsimp only [gName, tSeq, tAsg, tC, L2.start]
    refine while_by (fun σ G => ∃ (i : Nat) (y4 : Option V) (rs : List V) (kvs : List (NestedKey × Addr × V)), σ = [some (.ref pa), some (.ref x), some (.ref d), some (.ref D), y4] ∧ i ≤ 8193 ∧ (∃ f, MaAt T.C_Machine H1 G x A Ps f i (fun j => (sta Ps i).getD j .non)) ∧ G D = some (.lst rs) ∧ rs.length = i ∧ (∀ j, j < i → ∃ p, rs[j]? = some (.ref p) ∧ G p = some (.tup ((bts Ps j).map V.int))) ∧ G d = some (DN P w d kvs) ∧ KN G kvs ∧ SeenL Ps kvs i ∧ ∀ a b, a < b → b < i → skey Ps a ≠ skey Ps b) (fun _ G => 9000 - lenL (G D)) ⟨0, none, [], [], rfl, by decide, ⟨_, ma2⟩, hD2, rfl, fun j h => absurd h (Nat.not_lt_zero j), hd2, fun x h => (by cases h), ⟨rfl, fun j h => absurd h (Nat.not_lt_zero j)⟩, fun a b _ h => absurd h (Nat.not_lt_zero b)⟩ ?_ ?_
    · rintro σ G ⟨i, y4, rs, kvs, rfl, hi, ⟨f, mi⟩, hD, hl, hr, hd, hk, hs, dist⟩
      refine ⟨.ref D, rfl, D, _, rfl, .inl (SqL.mk hD), _, _, rfl, rfl, _, rfl, ?_⟩
      refine ite2 (fun e => ?_) (fun e => ?_)
      rotate_left
      · have i2 : i = 8193 := by
          have : ¬ ((rs.length : Nat) : Int) ≤ 8192 := fun z => e (decide_eq_true z)
          omega
        exact q0 _ (sH mi) fun a b ab hb => dist a b ab (by omega)
      have i2 : i ≤ 8192 := by
        have := of_decide_eq_true e
        omega
      refine ⟨_, rfl, x, A.dx, _, rfl, mi.ins, ml_noheld A i, x, A, H1, Ps, f, i, rfl, mi, ok, n24, fun G1 p sp np hk2 => ?_⟩
      have m1 := mi.same sp
      have hd1 := sp _ _ hd
      have hD1 := sp _ _ hD
      have hk1 : KN G1 kvs := hk.keep fun _ _ e => sp _ _ e
      refine ⟨.ref p, rfl, .ref d, rfl, d, p, kvs, skey Ps i, rfl, rfl, hd1, hk1, hk2, _, rfl, ?_⟩
      rcases hs.look (skey Ps i) with ⟨hno, hnew⟩ | ⟨j, hj, hjk, hv⟩
      · rw [hno]
        refine iteF ⟨.ref D, rfl, D, _, rfl, .inl (SqL.mk hD1), .ref d, rfl, .ref p, rfl, d, p, kvs, skey Ps i, rfl, rfl, hd1, hk1, hk2, hno, by rw [hs.1]; omega, ?_⟩
        have m3 := m1.to (H' := upd G1 d (DN P w d (kvs ++ [(skey Ps i, p, .int (rs.length : Nat))]))) (fun a o n e => (upd_ne n).trans e) hd1 dn_nt dn_ni dn dne
        have up : ∀ (a : Addr) (o : HO), a ≠ d → G1 a = some o → (upd G1 d (DN P w d (kvs ++ [(skey Ps i, p, .int (rs.length : Nat))]))) a = some o := fun a o n e => (upd_ne n).trans e
        have hd3 := upd_same (H := G1) (a := d) (o := DN P w d (kvs ++ [(skey Ps i, p, .int (rs.length : Nat))]))
        generalize upd G1 d (DN P w d (kvs ++ [(skey Ps i, p, .int (rs.length : Nat))])) = G3 at m3 up hd3 ⊢
        have hD3 := up _ _ dD.symm hD1
        refine ⟨_, rfl, .inl ⟨rfl, _, SqL.mk hD3⟩, _, rfl, x, A.dx, _, rfl, m3.ins, ml_nobeat A i, x, A, H1, Ps, f, i, rfl, m3, ok, n24, fun G4 r m4 frm nr hr4 => ?_⟩
        have hD4 := frm _ _ Dx Dne.1 Dne.2.2 hD3
        have hd4 := frm _ _ dx' dne.1 dne.2.2 hd3
        refine ⟨D, _, _, rfl, rfl, hD4, by omega, ?_⟩
        have tk : ∀ a xs, G a = some (.tup xs) → (upd G4 D (.lst (rs ++ [V.ref r]))) a = some (.tup xs) := fun a xs e => by
          have e1 := sp _ _ e
          have e3 := up _ _ (ne_of e1 hd1 (dn_nt xs)) e1
          obtain ⟨vs0, hvs0, _⟩ := m3.held
          have e4 := frm _ _ (ne_of e3 m3.ins (fun z => by cases z)) (ne_of e3 hvs0 (fun z => by cases z)) (ne_of e3 m3.cnt (fun z => by cases z)) e3
          exact (upd_ne (ne_of e4 hD4 (fun z => by cases z))).trans e4
        have tk1 : ∀ a xs, G1 a = some (.tup xs) → (upd G4 D (.lst (rs ++ [V.ref r]))) a = some (.tup xs) := fun a xs e1 => by
          have e3 := up _ _ (ne_of e1 hd1 (dn_nt xs)) e1
          obtain ⟨vs0, hvs0, _⟩ := m3.held
          have e4 := frm _ _ (ne_of e3 m3.ins (fun z => by cases z)) (ne_of e3 hvs0 (fun z => by cases z)) (ne_of e3 m3.cnt (fun z => by cases z)) e3
          exact (upd_ne (ne_of e4 hD4 (fun z => by cases z))).trans e4
        have rD : r ≠ D := ne_of hr4 hD4 (fun z => by cases z)
        have s2 := hs.snoc p
        rw [← hl] at s2
        refine ⟨⟨rs.length + 1, _, rs ++ [.ref r], kvs ++ [(skey Ps rs.length, p, .int (rs.length : Nat))], rfl, by omega, ⟨_, by rw [hl]; exact m4.to (fun a o n e => (upd_ne n).trans e) hD4 (fun _ z => by cases z) (fun _ _ _ z => by cases z) nDn Dne⟩, upd_same, by rw [List.length_append]; rfl, fun j hj => ?_, (upd_ne dD).trans (by rw [hl]; rw [hl] at hd4; exact hd4), fun y hy => ?_, s2, fun a b ab hb => ?_⟩, ?_⟩
        · by_cases e : j < i
          · obtain ⟨p', h1, h2⟩ := hr j e
            exact ⟨p', by rw [get_snoc (by omega)]; exact h1, tk _ _ h2⟩
          · obtain rfl : j = rs.length := by omega
            exact ⟨r, get_last, (upd_ne rD).trans (by rw [hl]; exact hr4)⟩
        · rcases List.mem_append.mp hy with hy | hy
          · exact (hk1 y hy).keep tk1
          · rw [List.mem_singleton.mp hy, hl]
            exact hk2.keep tk1
        · by_cases e : b < i
          · exact dist a b ab e
          · obtain rfl : b = i := by omega
            exact hnew a ab
        · have z1 : lenL (G D) = rs.length := by rw [hD]; rfl
          have z2 : lenL ((upd G4 D (.lst (rs ++ [V.ref r]))) D) = rs.length + 1 := by rw [upd_same]; show (rs ++ [V.ref r]).length = _; rw [List.length_append]; rfl
          show 9000 - lenL ((upd G4 D (.lst (rs ++ [V.ref r]))) D) < 9000 - lenL (G D)
          rw [z1, z2]
          omega
      · rw [hv]
        refine iteT ⟨.ref d, rfl, .ref p, rfl, d, p, kvs, skey Ps i, .int (j : Nat), rfl, rfl, hd1, hk1, hk2, hv, .ref D, rfl, (show 2 ≤ sizeLine by decide), fun tk ntk => ?_⟩
        have st := same_upd ntk (o := .tup [.int (j : Nat), .ref D])
        refine q1 _ tk D i j ((sH m1).trans st) ⟨hj, hjk.symm, dist⟩ i2 upd_same ⟨rs, st _ _ hD1, hl, fun j' h' => ?_⟩
        obtain ⟨p', h1, h2⟩ := hr j' h'
        exact ⟨p', h1, st _ _ (sp _ _ h2)⟩
    · rintro σ G Q1 Q2 m ⟨a, b, c, d, e, f, g, h, i, j, k, l1, l2⟩
      exact ⟨a, b, c, d, e, f, g, h, i, j, k, l1, m _ _ l2⟩
def sp_ones (_ : PySem.W.Frag) : Sp := fun vs H Q _ => ∃ (a : Addr) (rs : List Int), vs = [.ref a] ∧ H a = some (.tup (rs.map V.int)) ∧ Q (.int rs.sum) H
theorem ok_ones (T : Defs K mg) (TT : Tabs T base) : FnOk P w K mg base CX0 1 T.f_ones T.fd_ones ["row"] (sp_ones K) := by
  refine T.F_ones.ok sc_ones (fun vs H Q E h => ?_) (fun cdv A outer s H vs Q E hr h => ?_)
  · obtain ⟨a, rs, rfl, ha, q⟩ := h
    rfl
  · obtain ⟨a, rs, rfl, ha, q⟩ := h
    refine ⟨_, PSs.nox (pss_one (ps_ret (pe_callB (cr_sumT rfl) (by rfl) T.m_sum bt_sum (pa_cons (pv 0) pa_nil)))), ?_⟩
    exact ⟨.ref a, rfl, a, rs, rfl, SqT.mk ha, q⟩
theorem s_len {n : Nat} (h : n ≤ 100000) : S 4000 (n : Int) := S.mono (n := 20) (show ((n : Int)).natAbs < 2 ^ 20 by omega) (by decide)
def sp_share_of (_ : PySem.W.Frag) : Sp := fun vs H Q _ => ∃ (a : Addr) (rs : List Int), vs = [.ref a] ∧ H a = some (.tup (rs.map V.int)) ∧ 1 ≤ rs.length ∧ rs.length ≤ 100000 ∧
  ∀ H' p, Same H H' → H p = none → H' p = some (.tup [.int (frT rs.sum rs.length), .int (frB rs.sum rs.length)]) → Q (.ref p) H'
theorem ok_share_of (T : Defs K mg) (TT : Tabs T base) : FnOk P w K mg base CX0 3 T.f_share_of T.fd_share_of ["row"] (sp_share_of K) := by
  have G_fraction : FnOk P w K mg base CX0 2 T.f_fraction T.fd_fraction ["top", "bottom"] (sp_fraction K) := ok_fraction T TT
  have G_ones : FnOk P w K mg base CX0 1 T.f_ones T.fd_ones ["row"] (sp_ones K) := ok_ones T TT
  refine T.F_share_of.ok sc_share_of (fun vs H Q E h => ?_) (fun cdv A outer s H vs Q E hr h => ?_)
  · obtain ⟨a, rs, rfl, ha, h1, h2, q⟩ := h
    rfl
  · obtain ⟨a, rs, rfl, ha, h1, h2, q⟩ := h
    refine ⟨_, PSs.nox (pss_one (ps_ret (pe_call G_fraction (hr.mono (by decide)) (by rfl) T.g_fraction T.F_fraction.kp T.b_fraction .nil pass0 (pa_cons (pe_call G_ones (hr.mono (by decide)) (by rfl) T.g_ones T.F_ones.kp T.b_ones .nil pass0 (pa_cons (pv 0) pa_nil)) (pa_cons (pe_callB call_len_seq (by rfl) T.m_len bt_len (pa_cons (pv 0) pa_nil)) pa_nil))))), ?_⟩
    refine ⟨.ref a, rfl, a, rs, rfl, ha, .ref a, rfl, a, _, rfl, .inr (SqT.mk ha), rs.sum, (rs.length : Nat), by rw [List.length_map]; rfl, by omega, s_len h2, q⟩
/-! when it goes round, and the rows till then -/
def sp_settles {K : PySem.W.Frag} {mg : Str → Option Value} (T : Defs K mg) : Sp := fun vs H Q _ => ∃ (pa : Addr) (xs : List V) (Ps : List Pie), vs = [.ref pa] ∧ (∃ ob, H pa = some (tupO ob xs)) ∧ PisAt H Ps xs ∧ Ps.length ≤ 24 ∧ PsOk Ps.length Ps ∧
  (∀ H' tk n s, Same H H' → Rep Ps n s → n ≤ 8192 → H' tk = some (.tup [.int (s : Nat), .int ((n : Int) - (s : Nat))]) → Q (.ref tk) H') ∧ ∀ H', Same H H' → (∀ i j, i < j → j ≤ 8192 → skey Ps i ≠ skey Ps j) → Q .non H'
theorem ok_settles (T : Defs K mg) (TT : Tabs T base) : FnOk P w K mg base CX0 15 T.f_settles T.fd_settles ["pieces"] (sp_settles T) := by
  have G_run_to_settle : FnOk P w K mg base CX0 14 T.f_run_to_settle T.fd_run_to_settle ["pieces"] (sp_run_to_settle T) := ok_run_to_settle T TT
  refine T.F_settles.ok sc_settles (fun vs H Q E h => ?_) (fun cdv A outer s H vs Q E hr h => ?_)
  · obtain ⟨pa, xs, Ps, rfl, hpa, hps, n24, ok, q1, q0⟩ := h
    rfl
  · obtain ⟨pa, xs, Ps, rfl, hpa, hps, n24, ok, q1, q0⟩ := h
    refine ⟨_, PSs.nox (pss_cons (ps_set (i := 1) sc_settles.nd rfl (.inl rfl) (pe_call G_run_to_settle (hr.mono (by decide)) (by rfl) T.g_run_to_settle T.F_run_to_settle.kp T.b_run_to_settle .nil pass0 (pa_cons (pv 0) pa_nil)))
    (pss_cons (ps_if (pt_cmpR op_isN (pv 1) pe_non (nomark _)) (pss_one (ps_ret pe_non)) pss_nil)
    (pss_cons (ps_asg (pv 1) (pg_tup rfl (pgs_cons (pg_name (i := 2) sc_settles.nd rfl (.inl rfl)) (pgs_cons (pg_name (i := 3) sc_settles.nd rfl (.inl rfl)) pgs_nil))))
    (pss_one (ps_ret (pe_tup (pa_cons (pv 2) (pa_cons (pe_op op_sub (pe_callB call_len_seq (by rfl) T.m_len bt_len (pa_cons (pv 3) pa_nil)) (pv 2)) pa_nil)))))))), ?_⟩
    refine ⟨.ref pa, rfl, pa, xs, Ps, rfl, hpa, hps, n24, ok, fun H1 tk l n s s1 rep n8 htk ⟨rs, hl, rl, _⟩ => ?_, fun H1 s1 no => ⟨.non, rfl, rfl, _, rfl, iteT (q0 H1 s1 no)⟩⟩
    refine ⟨.ref tk, rfl, rfl, _, rfl, iteF ⟨.ref tk, rfl, tk, _, rfl, SqT.mk htk, rfl, _, _, rfl, _, _, rfl, rfl, ?_⟩⟩
    refine ⟨.int (s : Nat), rfl, .ref l, rfl, l, _, rfl, .inl (SqL.mk hl), .int (s : Nat), rfl, _, _, rfl, rfl, (show 2 ≤ sizeLine by decide), fun t nt => ?_⟩
    refine q1 _ t n s (s1.trans (same_upd nt)) rep n8 ?_
    rw [upd_same, rl]
noncomputable def col (Ps : List Pie) (i : Nat) (t : Nat) : Int := (bts Ps t).getD i 0
noncomputable def colL (Ps : List Pie) (i a b : Nat) : List Int := (List.range b).map fun u => col Ps i (a + u)
theorem colL_len (Ps : List Pie) (i a b : Nat) : (colL Ps i a b).length = b := by
  unfold colL
  rw [List.length_map, List.length_range]
theorem colL_take (Ps : List Pie) (i : Nat) {s n : Nat} (h : s ≤ n) : (colL Ps i 0 n).take s = colL Ps i 0 s := by
  unfold colL
  rw [← List.map_take, List.take_range, Nat.min_eq_left h]
theorem colL_drop (Ps : List Pie) (i : Nat) {s n : Nat} (h : s ≤ n) : (colL Ps i 0 n).drop s = colL Ps i s (n - s) := by
  obtain ⟨m, rfl⟩ : ∃ m, n = s + m := ⟨n - s, by omega⟩
  unfold colL
  rw [List.range_add, List.map_append, List.drop_left' (by rw [List.length_map, List.length_range]), List.map_map, show s + m - s = m by omega]
  exact List.map_congr_left fun u _ => by
    show col Ps i (0 + (s + u)) = _
    rw [Nat.zero_add]
def Nev (Ps : List Pie) : Prop := ∀ i j, i < j → j ≤ 8192 → skey Ps i ≠ skey Ps j
def Go (Ps : List Pie) : Prop := ∃ n s, Rep Ps n s ∧ n ≤ 8192
theorem Go.not {Ps : List Pie} (g : Go Ps) (h : ∀ i j, i < j → j ≤ 8192 → skey Ps i ≠ skey Ps j) : False := by
  obtain ⟨n, s, r, n8⟩ := g
  exact h s n r.lt n8 r.eq.symm
def sp_settled_row {K : PySem.W.Frag} {mg : Str → Option Value} (T : Defs K mg) : Sp := fun vs H Q E => ∃ (pa : Addr) (xs : List V) (Ps : List Pie) (i : Nat), vs = [.ref pa, .int (i : Nat)] ∧ (∃ ob, H pa = some (tupO ob xs)) ∧ PisAt H Ps xs ∧ Ps.length ≤ 24 ∧ PsOk Ps.length Ps ∧ i < Ps.length ∧ GxR.TabG H T.P_settled_row ∧ (∀ H', Sam H H' → Nev Ps → E (.ref T.C_NoRound) none H') ∧
  ∀ H' t b a n s, Sam H H' → Rep Ps n s → n ≤ 8192 → H' t = some (.tup [.ref b, .ref a]) → H' b = some (.tup ((colL Ps i 0 s).map V.int)) → H' a = some (.tup ((colL Ps i s (n - s)).map V.int)) → Q (.ref t) H'
theorem ok_settled_row (T : Defs K mg) (TT : Tabs T base) : FnOk P w K mg base (L2.CX P w) 15 T.f_settled_row T.fd_settled_row ["pieces", "number"] (sp_settled_row T) := by
  have G_run_to_settle : FnOk P w K mg base CX0 14 T.f_run_to_settle T.fd_run_to_settle ["pieces"] (sp_run_to_settle T) := ok_run_to_settle T TT
  refine okXC T.F_settled_row T.k_settled_row sc_settled_row (fun vs H Q E h => ?_) (fun A outer s H vs Q E hr h => ?_)
  · obtain ⟨pa, xs, Ps, i, rfl, hpa, hps, n24, ok, il, tab, q0, q⟩ := h
    rfl
  · obtain ⟨pa, xs, Ps, i, rfl, hpa, hps, n24, ok, il, tab, q0, q⟩ := h
    refine ⟨_, (pss_cons (ps_set (i := 2) sc_settled_row.nd rfl (.inl rfl) (pe_call G_run_to_settle (hr.mono (by decide)) (by rfl) T.g_run_to_settle T.F_run_to_settle.kp T.b_run_to_settle .nil pass0 (pa_cons (pv 0) pa_nil)))
    (pss_cons (ps_if (pt_cmpR op_isN (pv 2) pe_non (nomark _)) (pss_one (ps_raise rfl (takes_of (E := E) rfl rfl rfl rfl) (pmk_own PySem.F.excBase_ValueError T.xi_NoRound T.g_NoRound T.xk_NoRound (raises_own T.xs_NoRound T.xt_NoRound) (by rfl)))) pss_nil)
    (pss_cons (ps_asg (pv 2) (pg_tup rfl (pgs_cons (pg_name (i := 3) sc_settled_row.nd rfl (.inl rfl)) (pgs_cons (pg_name (i := 4) sc_settled_row.nd rfl (.inl rfl)) pgs_nil))))
    (pss_cons (ps_set (i := 5) sc_settled_row.nd rfl (.inl rfl) (pe_tupE (k := 13) (own := [("bits", 6)]) (g := gName 6) (tt := tYes) (hr.mono (by decide)) (by rfl) T.m_tuple bt_tuple rfl sc_settled_row.nd TT.t_settled_row rfl (genOk_by (N := N_settled_row) (sc := defScope s_settled_row) (own := [("bits", 6)]) (by decide +kernel) rfl (by decide +kernel) rfl) (pi_list (pv 4)) (fun _ _ _ _ _ hr => (pg_name (i := 6) sc_settled_row.nd rfl (.inl rfl))) (fun _ _ _ _ _ hr => pts_nil) (fun _ _ _ _ _ hr => (pe_ifExp (pt_chain op_le op_lt pe_int (pv 1) (pe_callB (lenK (K := K) rfl) (by rfl) T.m_len bt_len (pa_cons (pv 6) pa_nil))) (pe_ix (ixtK (K := K) rfl) (pv 6) (pv 1) (fun _ _ => rfl)) pe_int))))
    (pss_one (ps_ret (pe_tup (pa_cons (pe_slice sl_tupS (pv 5) po_none (po_some (pv 3))) (pa_cons (pe_slice sl_tupS (pv 5) (po_some (pv 3)) po_none) pa_nil))))))))), ?_⟩
    have hsl : sizeLine = 16777216 := by decide
    refine ⟨.ref pa, rfl, pa, xs, Ps, rfl, hpa, hps, n24, ok, fun H1 tk l n s s1 rep n8 htk ⟨rs, hl, rl, hr⟩ => ?_, fun H1 s1 no => ⟨.non, rfl, rfl, _, rfl, iteT (q0 _ (Sam.of s1) no)⟩⟩
    refine ⟨.ref tk, rfl, rfl, _, rfl, iteF ⟨.ref tk, rfl, tk, _, rfl, SqT.mk htk, rfl, _, _, rfl, _, _, rfl, rfl, ?_⟩⟩
    refine ⟨.ref l, rfl, l, rfl, ⟨_, SqL.mk hl⟩, (Sam.of s1).tabG tab, fun F2 tb => ?_⟩
    have s2 := Sam.tabbed ((Sam.of s1).tabG tab) tb
    refine gc_it (walk_list (xs := rs)) (fun j ys F3 => Sam H1 F3 ∧ ys = (colL Ps i 0 j).map V.int) ⟨s2, rfl⟩ (fun j ys F3 _ h => SqL.mk (h.1.lst hl)) ?_ ?_
    · rintro j ys v F3 F4 hj ⟨s3, rfl⟩ ⟨rfl, hv⟩
      obtain ⟨p, h1, h2⟩ := hr j (by omega)
      rw [h1] at hv
      cases hv
      refine ⟨rfl, yes_ite ?_⟩
      refine ⟨.int (i : Nat), rfl, _, _, rfl, rfl, _, rfl, ?_⟩
      rw [decide_eq_true (show (0 : Int) ≤ (i : Nat) by omega)]
      refine iteT ⟨.ref p, rfl, p, _, rfl, .inr (SqT.mk (s3.tup h2)), _, _, rfl, rfl, _, rfl, ?_⟩
      rw [decide_eq_true (show ((i : Nat) : Int) < (((bts Ps j).map V.int).length : Nat) by rw [List.length_map, bts_len]; omega)]
      refine iteT ⟨.ref p, rfl, .int (i : Nat), rfl, p, _, (i : Nat), .int (col Ps i j), rfl, rfl, SqT.mk (s3.tup h2), ?_, ?_, fun _ => ⟨s3, ?_⟩⟩
      · refine atI_nat ?_
        have il : i < (bts Ps j).length := by rw [bts_len]; omega
        unfold col
        rw [List.getElem?_map, List.getElem?_eq_getElem il, getD_of (List.getElem?_eq_getElem il)]
        rfl
      · rw [List.length_map, colL_len]
        omega
      · unfold colL
        rw [List.range_succ, List.map_append, List.map_append]
        show _ = _ ++ [V.int (col Ps i (0 + j))]
        rw [Nat.zero_add]
    rintro ys F3 ⟨s3, rfl⟩ p np
    rw [rl]
    have sp := same_upd np (o := .tup ((colL Ps i 0 n).map V.int))
    have hp := upd_same (H := F3) (a := p) (o := .tup ((colL Ps i 0 n).map V.int))
    generalize upd F3 p (.tup ((colL Ps i 0 n).map V.int)) = F5 at sp hp ⊢
    refine ⟨.ref p, rfl, .int (s : Nat), rfl, (s : Nat), rfl, p, _, rfl, hp, fun F6 b s6 hb => ?_⟩
    refine ⟨.ref p, rfl, .int (s : Nat), rfl, (s : Nat), rfl, p, _, rfl, s6 _ _ hp, fun F7 a s7 ha => ⟨(show 2 ≤ sizeLine by decide), fun t nt => ?_⟩⟩
    rw [cut_lo _ _ (by rw [List.length_map, colL_len]; have := rep.lt; omega), ← List.map_take, colL_take _ _ (by have := rep.lt; omega)] at hb
    rw [cut_hi, ← List.map_drop, colL_drop _ _ (by have := rep.lt; omega)] at ha
    have st := same_upd nt (o := .tup [.ref b, .ref a])
    exact q _ t b a n s ((Sam.of s1).trans (s3.trans (Sam.of (sp.trans (s6.trans (s7.trans st)))))) rep n8 upd_same (st _ _ (s7 _ _ hb)) (st _ _ ha)
def sp_long_share {K : PySem.W.Frag} {mg : Str → Option Value} (T : Defs K mg) : Sp := fun vs H Q E => ∃ (pa : Addr) (xs : List V) (Ps : List Pie) (i : Nat), vs = [.ref pa, .int (i : Nat)] ∧ (∃ ob, H pa = some (tupO ob xs)) ∧ PisAt H Ps xs ∧ Ps.length ≤ 24 ∧ PsOk Ps.length Ps ∧ i < Ps.length ∧ GxR.TabG H T.P_settled_row ∧ (∀ H', Sam H H' → Nev Ps → E (.ref T.C_NoRound) none H') ∧
  ∀ H' t n s, Sam H H' → Rep Ps n s → n ≤ 8192 → H' t = some (.tup [.int (frT (colL Ps i s (n - s)).sum ((n - s : Nat) : Int)), .int (frB (colL Ps i s (n - s)).sum ((n - s : Nat) : Int))]) → Q (.ref t) H'
theorem ok_long_share (T : Defs K mg) (TT : Tabs T base) : FnOk P w K mg base (L2.CX P w) 16 T.f_long_share T.fd_long_share ["pieces", "number"] (sp_long_share T) := by
  have G_share_of : FnOk P w K mg base CX0 3 T.f_share_of T.fd_share_of ["row"] (sp_share_of K) := ok_share_of T TT
  have G_settled_row : FnOk P w K mg base (L2.CX P w) 15 T.f_settled_row T.fd_settled_row ["pieces", "number"] (sp_settled_row T) := ok_settled_row T TT
  refine okX T.F_long_share sc_long_share (fun vs H Q E h => ?_) (fun cdv A outer s H vs Q E hr h => ?_)
  · obtain ⟨pa, xs, Ps, i, rfl, hpa, hps, n24, ok, il, tab, q0, q⟩ := h
    rfl
  · obtain ⟨pa, xs, Ps, i, rfl, hpa, hps, n24, ok, il, tab, q0, q⟩ := h
    refine ⟨_, (pss_one (ps_ret (pe_call G_share_of (hr.mono (by decide)) (by rfl) T.g_share_of T.F_share_of.kp T.b_share_of .nil pass0 (pa_cons (pe_ix ix_tup (pe_call (E := E) G_settled_row (hr.mono (by decide)) (by rfl) T.g_settled_row T.F_settled_row.kp T.b_settled_row .nil (passes_call (takes_of rfl rfl rfl rfl) (fun _ _ _ _ h => h)) (pa_cons (pv 0) (pa_cons (pv 1) pa_nil))) pe_int (fun _ _ => rfl)) pa_nil)))), ?_⟩
    refine ⟨.ref pa, rfl, .int (i : Nat), rfl, pa, xs, Ps, i, rfl, hpa, hps, n24, ok, il, tab, q0, fun H1 t b a n s s1 rep n8 ht hb ha => ?_⟩
    refine ⟨t, _, 1, _, rfl, rfl, SqT.mk ht, atI_nat (j := 1) rfl, ?_⟩
    have L1 : 1 ≤ n - s := by have := rep.lt; omega
    refine ⟨a, colL Ps i s (n - s), rfl, ha, by rw [colL_len]; exact L1, by rw [colL_len]; omega, fun H2 p s2 np hp => ?_⟩
    rw [colL_len] at hp
    exact q H2 p n s (s1.trans (Sam.of s2)) rep n8 hp
/-! the ones of a row told again and again -/
def cn (rs : List Int) : Nat → Int
  | 0 => 0
  | k + 1 => cn rs k + rs.getD (k % rs.length) 0
/-- what the first k bits are off, times the length -/
def Df (rs : List Int) (k : Nat) : Int := cn rs k * rs.length - k * rs.sum
theorem cn_take (rs : List Int) : ∀ k, k ≤ rs.length → cn rs k = (rs.take k).sum
  | 0, _ => rfl
  | k + 1, h => by
    show cn rs k + rs.getD (k % rs.length) 0 = _
    rw [cn_take rs k (by omega), Nat.mod_eq_of_lt (by omega), List.take_add_one, List.getD_eq_getElem?_getD, List.getElem?_eq_getElem (show k < rs.length by omega), List.sum_append]
    simp
theorem cn_all (rs : List Int) : cn rs rs.length = rs.sum := by
  rw [cn_take rs _ (Nat.le_refl _), List.take_length]
theorem cn_again (rs : List Int) : ∀ k, cn rs (k + rs.length) = cn rs k + rs.sum
  | 0 => by rw [Nat.zero_add, cn_all]; show _ = 0 + _; omega
  | k + 1 => by
    rw [show k + 1 + rs.length = (k + rs.length) + 1 by omega]
    show cn rs (k + rs.length) + rs.getD ((k + rs.length) % rs.length) 0 = (cn rs k + rs.getD (k % rs.length) 0) + _
    rw [cn_again rs k, Nat.add_mod_right]
    omega
theorem Df_again (rs : List Int) (k : Nat) : Df rs (k + rs.length) = Df rs k := by
  unfold Df
  rw [cn_again, Int.add_mul, Int.natCast_add, Int.add_mul, Int.mul_comm rs.sum]
  omega
theorem Df_zero (rs : List Int) : Df rs 0 = 0 := by
  unfold Df
  show 0 * _ - ((0 : Nat) : Int) * _ = (0 : Int)
  simp
theorem Df_step (rs : List Int) (k : Nat) : Df rs (k + 1) = Df rs k + rs.length * rs.getD (k % rs.length) 0 - rs.sum := by
  unfold Df
  show (cn rs k + rs.getD (k % rs.length) 0) * _ - _ = _
  rw [Int.add_mul, Int.natCast_add, Int.add_mul, Int.mul_comm (rs.getD (k % rs.length) 0)]
  omega
/-- the greatest off up to k, and the first place that has it -/
structure Best (D : Nat → Int) (k : Nat) (w : Int) (j : Nat) : Prop where
  le : j ≤ k
  eq : ((D j).natAbs : Int) = w
  most : ∀ i, i ≤ k → ((D i).natAbs : Int) ≤ w
  first : ∀ i, i < j → ((D i).natAbs : Int) < w
theorem Best.zero {D : Nat → Int} (h : D 0 = 0) : Best D 0 0 0 := ⟨Nat.le_refl 0, by rw [h]; rfl, fun i hi => by rw [show i = 0 by omega, h]; exact Int.le_refl 0, fun i hi => by omega⟩
theorem Best.more {D : Nat → Int} {k j : Nat} {w : Int} (h : Best D k w j) (l : w < ((D (k + 1)).natAbs : Int)) : Best D (k + 1) ((D (k + 1)).natAbs : Int) (k + 1) :=
  ⟨Nat.le_refl _, rfl, fun i hi => by
    by_cases e : i = k + 1
    · rw [e]; exact Int.le_refl _
    · exact Int.le_of_lt (Int.lt_of_le_of_lt (h.most i (by omega)) l), fun i hi => Int.lt_of_le_of_lt (h.most i (by omega)) l⟩
theorem Best.less {D : Nat → Int} {k j : Nat} {w : Int} (h : Best D k w j) (l : ((D (k + 1)).natAbs : Int) ≤ w) : Best D (k + 1) w j :=
  ⟨Nat.le_succ_of_le h.le, h.eq, fun i hi => by
    by_cases e : i = k + 1
    · rw [e]; exact l
    · exact h.most i (by omega), h.first⟩
theorem Best.uniq {D : Nat → Int} {k j j' : Nat} {w w' : Int} (h : Best D k w j) (h' : Best D k w' j') : w = w' ∧ j = j' := by
  have e : w = w' := by
    have a := h.most j' h'.le
    have b := h'.most j h.le
    rw [h'.eq] at a
    rw [h.eq] at b
    omega
  subst e
  refine ⟨rfl, ?_⟩
  rcases Nat.lt_trichotomy j j' with z | z | z
  · have := h'.first j z
    rw [h.eq] at this
    omega
  · exact z
  · have := h.first j' z
    rw [h'.eq] at this
    omega
/-- by the list's greatest one and where it comes first -/
theorem Best.of_list {D : Nat → Int} {k j : Nat} {w : Int} (hm : ∀ y, y ∈ (List.range (k + 1)).map (fun i => ((D i).natAbs : Int)) → y ≤ w) (h1 : ((List.range (k + 1)).map (fun i => ((D i).natAbs : Int)))[j]? = some w)
    (h2 : ∀ m, m < j → ((List.range (k + 1)).map (fun i => ((D i).natAbs : Int)))[m]? ≠ some w) : Best D k w j := by
  have at_ : ∀ i, i ≤ k → ((List.range (k + 1)).map (fun i => ((D i).natAbs : Int)))[i]? = some ((D i).natAbs : Int) := fun i hi => by
    rw [List.getElem?_map, List.getElem?_range (by omega)]
    rfl
  have hj : j ≤ k := by
    have := (List.getElem?_eq_some_iff.mp h1).1
    rw [List.length_map, List.length_range] at this
    omega
  have mo : ∀ i, i ≤ k → ((D i).natAbs : Int) ≤ w := fun i hi => hm _ (List.mem_of_getElem? (at_ i hi))
  refine ⟨hj, ?_, mo, fun i hi => ?_⟩
  · rw [at_ j hj] at h1
    exact Option.some.inj h1
  · have := mo i (by omega)
    have n := h2 i hi
    rw [at_ i (by omega)] at n
    have : ((D i).natAbs : Int) ≠ w := fun z => n (by rw [z])
    omega
theorem fr_mulS {q b : Int} (t : Int) (hq : 0 < q) (hb : 0 < b) : frT (q * t) (q * b) = frT t b ∧ frB (q * t) (q * b) = frB t b := by
  have qb : 0 < q * b := Int.mul_pos hq hb
  have eg : ((Int.gcd (q * t) (q * b) : Nat) : Int) = q * (Int.gcd t b : Int) := by
    rw [Int.gcd_mul_left, Int.natCast_mul, Int.natAbs_of_nonneg (Int.le_of_lt hq)]
  unfold frT frB
  rw [eg, Int.sign_eq_one_of_pos qb, Int.sign_eq_one_of_pos hb, Int.one_mul, Int.one_mul, Int.natAbs_of_nonneg (Int.le_of_lt qb), Int.natAbs_of_nonneg (Int.le_of_lt hb)]
  exact ⟨Int.mul_ediv_mul_of_pos _ _ hq, Int.mul_ediv_mul_of_pos _ _ hq⟩
theorem fr_cross {s n b t : Int} (hn : 0 < n) (ht : 0 < t) (h : s * t = b * n) : frT s n = frT b t ∧ frB s n = frB b t := by
  obtain ⟨a1, a2⟩ := fr_mulS s ht hn
  obtain ⟨b1, b2⟩ := fr_mulS b hn ht
  rw [← a1, ← a2, ← b1, ← b2, Int.mul_comm t s, h, Int.mul_comm n b, Int.mul_comm t n]
  exact ⟨rfl, rfl⟩
/-! offs by a share in lowest terms -/
theorem off_abs {s l a b c n D : Int} (hl : 0 < l) (hb : 0 < b) (ha : a * l = s * b) (hD : D = c * l - n * s) : (if c * b - n * a < 0 then -(c * b - n * a) else c * b - n * a) * l = b * (D.natAbs : Int) := by
  have e : (c * b - n * a) * l = b * D := by
    rw [hD, Int.sub_mul, Int.mul_sub, Int.mul_assoc n, ha]
    congr 1 <;> ac_rfl
  generalize c * b - n * a = z at e ⊢
  by_cases hz : z < 0
  · rw [if_pos hz]
    have : D < 0 := by
      by_cases w : D < 0
      · exact w
      · have h1 := Int.mul_nonneg (show 0 ≤ b by omega) (show 0 ≤ D by omega)
        have h2 := Int.mul_neg_of_neg_of_pos hz hl
        omega
    rw [show (D.natAbs : Int) = -D by omega, Int.neg_mul, e, Int.mul_neg]
  · rw [if_neg hz]
    have : 0 ≤ D := by
      by_cases w : D < 0
      · have h1 := Int.mul_neg_of_pos_of_neg hb w
        have h2 := Int.mul_nonneg (show 0 ≤ z by omega) (show 0 ≤ l by omega)
        omega
      · omega
    rw [show (D.natAbs : Int) = D by omega, e]
theorem off_le {s l a b c n D w x y : Int} (hl : 0 < l) (hb : 0 < b) (hy : 0 < y) (ha : a * l = s * b) (hx : x * l = w * y) (hD : D = c * l - n * s) (h : (D.natAbs : Int) ≤ w) : (if c * b - n * a < 0 then -(c * b - n * a) else c * b - n * a) * y ≤ x * b := by
  have e := off_abs hl hb ha hD
  generalize (if c * b - n * a < 0 then -(c * b - n * a) else c * b - n * a) = z at e ⊢
  have h1 : b * (D.natAbs : Int) * y ≤ b * w * y := Int.mul_le_mul_of_nonneg_right (Int.mul_le_mul_of_nonneg_left h (by omega)) (by omega)
  have e1 : z * y * l = b * (D.natAbs : Int) * y := by rw [← e]; ac_rfl
  have e2 : x * b * l = b * w * y := by rw [Int.mul_right_comm, hx]; ac_rfl
  exact Int.le_of_mul_le_mul_right (by rw [e1, e2]; exact h1 : z * y * l ≤ x * b * l) hl
theorem off_eq {s l a b c n D w x y : Int} (hl : 0 < l) (hb : 0 < b) (ha : a * l = s * b) (hx : x * l = w * y) (hD : D = c * l - n * s) (h : (D.natAbs : Int) = w) : (if c * b - n * a < 0 then -(c * b - n * a) else c * b - n * a) * y = x * b := by
  have e := off_abs hl hb ha hD
  generalize (if c * b - n * a < 0 then -(c * b - n * a) else c * b - n * a) = z at e ⊢
  refine Int.eq_of_mul_eq_mul_right (show l ≠ 0 by omega) (?_ : z * y * l = x * b * l)
  rw [show z * y * l = z * l * y by ac_rfl, e, h, Int.mul_right_comm x, hx]
  ac_rfl
theorem fr_shr {t b : Int} (hb : 0 < b) (h0 : 0 ≤ t) (h1 : t ≤ b) : 0 ≤ frT t b ∧ frT t b ≤ frB t b := by
  have p := fr_pos t (show b ≠ 0 by omega)
  have e := fr_eq t (show b ≠ 0 by omega)
  constructor
  · have z : 0 ≤ frT t b * b := by
      rw [e]
      exact Int.mul_nonneg h0 (Int.le_of_lt p)
    exact Int.nonneg_of_mul_nonneg_left z hb
  · have z : frT t b * b ≤ frB t b * b := by
      rw [e, Int.mul_comm]
      exact Int.mul_le_mul_of_nonneg_left h1 (Int.le_of_lt p)
    exact Int.le_of_mul_le_mul_right z hb
theorem frB_leM {t b : Int} (hb : 0 < b) : 0 < frB t b ∧ frB t b ≤ b := by
  refine ⟨fr_pos t (by omega), ?_⟩
  rw [← (fr_ge t hb).2, Int.fdiv_eq_ediv_of_nonneg _ (by omega)]
  exact Int.ediv_le_self _ (by omega)
/-- the greatest off by a share in lowest terms -/
theorem Best.cross {D D' : Nat → Int} {N : Nat} {w : Int} {j : Nat} {l b : Int} (hl : 0 < l) (hb : 0 < b) (h : ∀ k, ((D' k).natAbs : Int) * l = b * ((D k).natAbs : Int)) (best : Best D N w j) {w' : Int} {j' : Nat} (best' : Best D' N w' j') : j' = j ∧ w' * l = w * b := by
  have up : ∀ x y : Int, x ≤ y → b * x ≤ b * y := fun x y z => Int.mul_le_mul_of_nonneg_left z (by omega)
  have b2 : Best D' N ((D' j).natAbs : Int) j := ⟨best.le, rfl, fun i hi => by
    refine Int.le_of_mul_le_mul_right (?_ : _ * l ≤ _ * l) hl
    rw [h i, h j]
    refine up _ _ ?_
    rw [best.eq]
    exact best.most i hi, fun i hi => by
    refine Int.lt_of_mul_lt_mul_right (?_ : _ * l < _ * l) (by omega)
    rw [h i, h j]
    refine Int.mul_lt_mul_of_pos_left ?_ hb
    rw [best.eq]
    exact best.first i hi⟩
  obtain ⟨e1, e2⟩ := best'.uniq b2
  refine ⟨e2, ?_⟩
  rw [e1, h j, best.eq, Int.mul_comm]
theorem off_nat {s l a b c n : Int} (hl : 0 < l) (hb : 0 < b) (ha : a * l = s * b) : ((c * b - n * a).natAbs : Int) * l = b * ((c * l - n * s).natAbs : Int) := by
  have e := off_abs (c := c) (n := n) hl hb ha rfl
  rw [show (if c * b - n * a < 0 then -(c * b - n * a) else c * b - n * a) = ((c * b - n * a).natAbs : Int) by split <;> omega] at e
  exact e
/-! how far a run is off -/
def OG (rs : List Int) (M L : Int) (k : Nat) : Int := (rs.take k).sum * L - k * M
def OGL (rs : List Int) (M L : Int) (i : Nat) : List V := ((List.range i).map (OG rs M L)).map V.int
theorem OGL_len (rs : List Int) (M L : Int) (i : Nat) : (OGL rs M L i).length = i := by
  unfold OGL
  rw [List.length_map, List.length_map, List.length_range]
theorem OGL_succ (rs : List Int) (M L : Int) (i : Nat) : OGL rs M L (i + 1) = OGL rs M L i ++ [.int (OG rs M L i)] := by
  unfold OGL
  rw [List.range_succ, List.map_append, List.map_append]
  rfl
theorem OG_zero (rs : List Int) (M L : Int) : OG rs M L 0 = 0 := by
  unfold OG
  simp
theorem OG_step {rs : List Int} {M L : Int} {k : Nat} {b : Int} (h : rs[k]? = some b) : OG rs M L (k + 1) = OG rs M L k + L * b - M := by
  unfold OG
  rw [List.take_add_one, h, List.sum_append, Int.add_mul, Int.natCast_add, Int.add_mul]
  simp only [Option.toList, List.sum_cons, List.sum_nil, Int.add_zero]
  rw [Int.mul_comm b L]
  show _ = _
  have : ((1 : Nat) : Int) * M = M := Int.one_mul M
  rw [this]
  omega
def sp_offs_by (_ : PySem.W.Frag) : Sp := fun vs H Q _ => ∃ (a : Addr) (rs : List Int) (M : Int) (L : Nat), vs = [.ref a, .int M, .int (L : Nat)] ∧ H a = some (.tup (rs.map V.int)) ∧ rs.length ≤ 100000 ∧ L ≤ 100000 ∧
  ∀ H' p, Same H H' → H p = none → H' p = some (.lst (OGL rs M L (rs.length + 1))) → Q (.ref p) H'
theorem ok_offs_by (T : Defs K mg) (TT : Tabs T base) : FnOk P w K mg base CX0 1 T.f_offs_by T.fd_offs_by ["row", "many", "length"] (sp_offs_by K) := by
  refine T.F_offs_by.ok sc_offs_by (fun vs H Q E h => ?_) (fun cdv A outer s H vs Q E hr h => ?_)
  · obtain ⟨a, rs, M, L, rfl, ha, hl, hL, q⟩ := h
    rfl
  · obtain ⟨a, rs, M, L, rfl, ha, hl, hL, q⟩ := h
    refine ⟨_, PSs.nox (pss_cons (ps_set (i := 3) sc_offs_by.nd rfl (.inl rfl) (pe_lst (pa_cons pe_int pa_nil)))
    (pss_cons ((ps_for PassesOwn.never rfl (pi_tup (pv 0)) (pg_name (i := 4) sc_offs_by.nd rfl (.inl rfl)) (pss_one (ps_expr (pe_bm PySem.F.plainAttrs_list PySem.F.slot_list_append PySem.F.type_list_append mt_append (pv 3) (pa_cons (pe_op op_sub (pe_op op_add (pe_ix ix_list (pv 3) (pe_un un_neg pe_int) (fun _ _ => rfl)) (pe_op op_mul (pv 2) (pv 4))) (pv 1)) pa_nil))))))
    (pss_one (ps_ret (pv 3))))), ?_⟩
    have hsl : sizeLine = 16777216 := by decide
    refine ⟨(show 1 ≤ sizeLine by decide), fun p np => ?_⟩
    have s0 : Same H (upd H p (.lst [.int 0])) := same_upd np
    refine ⟨.ref a, rfl, a, rfl, ⟨_, SqT.mk (s0 _ _ ha)⟩, for_tup (xs := rs.map V.int) (fun i σ H1 => ∃ y3, σ = [some (.ref a), some (.int M), some (.int (L : Nat)), some (.ref p), y3] ∧ Same H H1 ∧ H1 p = some (.lst (OGL rs M L i ++ [.int (OG rs M L i)]))) ⟨none, rfl, s0, ?_⟩ ?_ ?_ ?_⟩
    · rw [upd_same, OG_zero]
      rfl
    · rintro i σ H1 hi ⟨y3, rfl, s1, hp⟩
      exact SqT.mk (s1 _ _ ha)
    · rintro i x σ H1 hx ⟨y3, rfl, s1, hp⟩
      rw [List.getElem?_map] at hx
      obtain ⟨b, hb, rfl⟩ := Option.map_eq_some_iff.mp hx
      have hi : i < rs.length := (List.getElem?_eq_some_iff.mp hb).1
      refine ⟨.ref p, rfl, .inl ⟨rfl, _, SqL.mk hp⟩, .ref p, rfl, 1, rfl, p, _, _, _, rfl, rfl, SqL.mk hp, atI_last _ _, ?_⟩
      refine ⟨.int (L : Nat), rfl, .int b, rfl, _, _, rfl, rfl, .inl ⟨by omega, by omega⟩, _, _, rfl, rfl, .int M, rfl, _, _, rfl, rfl, ?_⟩
      have lq : (OGL rs M L i ++ [V.int (OG rs M L i)]).length = i + 1 := by
        rw [List.length_append, OGL_len]
        rfl
      refine ⟨p, _, _, rfl, rfl, hp, by rw [lq]; omega, ?_⟩
      refine ⟨_, rfl, same_newer s1 np, ?_⟩
      rw [upd_same, OGL_succ, OG_step hb]
    · rintro σ H1 ⟨y3, rfl, s1, hp⟩
      rw [List.length_map, ← OGL_succ] at hp
      exact ⟨.ref p, rfl, q H1 p s1 np hp⟩
/-- ones of a piece till beat k; what it is off by -/
noncomputable def ones_ (Ps : List Pie) (i : Nat) : Nat → Int
  | 0 => 0
  | k + 1 => ones_ Ps i k + col Ps i k
noncomputable def offD (Ps : List Pie) (i n s : Nat) (k : Nat) : Int := ones_ Ps i k * ((n - s : Nat) : Int) - k * (colL Ps i s (n - s)).sum
theorem ones_sum (Ps : List Pie) (i : Nat) : ∀ k, (colL Ps i 0 k).sum = ones_ Ps i k
  | 0 => rfl
  | k + 1 => by
    have e : colL Ps i 0 (k + 1) = colL Ps i 0 k ++ [col Ps i (0 + k)] := by
      unfold colL
      rw [List.range_succ, List.map_append]
      rfl
    rw [e, List.sum_append, ones_sum Ps i k, Nat.zero_add]
    show _ + (col Ps i k + 0) = _ + _
    rw [Int.add_zero]
theorem ones_from (Ps : List Pie) (i s : Nat) : ∀ m, (colL Ps i s m).sum = ones_ Ps i (s + m) - ones_ Ps i s
  | 0 => by
    show 0 = ones_ Ps i s - ones_ Ps i s
    omega
  | m + 1 => by
    have e : colL Ps i s (m + 1) = colL Ps i s m ++ [col Ps i (s + m)] := by
      unfold colL
      rw [List.range_succ, List.map_append]
      rfl
    rw [e, List.sum_append, ones_from Ps i s m]
    show _ + (col Ps i (s + m) + 0) = ones_ Ps i (s + m) + col Ps i (s + m) - _
    omega
theorem colL_cat (Ps : List Pie) (i : Nat) {s n : Nat} (h : s ≤ n) : colL Ps i 0 s ++ colL Ps i s (n - s) = colL Ps i 0 n := by
  rw [← colL_take Ps i h, ← colL_drop Ps i h, List.take_append_drop]
theorem OG_off {Ps : List Pie} {i n s k : Nat} (h : k ≤ n) : OG (colL Ps i 0 n) (colL Ps i s (n - s)).sum ((n - s : Nat) : Int) k = offD Ps i n s k := by
  unfold OG offD
  rw [colL_take Ps i h, ones_sum]
def sp_worst_run {K : PySem.W.Frag} {mg : Str → Option Value} (T : Defs K mg) : Sp := fun vs H Q E => ∃ (pa : Addr) (xs : List V) (Ps : List Pie) (i : Nat), vs = [.ref pa, .int (i : Nat)] ∧ (∃ ob, H pa = some (tupO ob xs)) ∧ PisAt H Ps xs ∧ Ps.length ≤ 24 ∧ PsOk Ps.length Ps ∧ i < Ps.length ∧ GxR.TabG H T.P_settled_row ∧ (∀ H', Sam H H' → Nev Ps → E (.ref T.C_NoRound) none H') ∧
  ∀ H' t p w j n s, Sam H H' → Rep Ps n s → n ≤ 8192 → H' t = some (.tup [.ref p, .int (j : Nat)]) → H' p = some (.tup [.int (frT w ((n - s : Nat) : Int)), .int (frB w ((n - s : Nat) : Int))]) → Best (offD Ps i n s) n w j → Q (.ref t) H'
theorem natAbs_if (x : Int) : (if x < 0 then -x else x) = (x.natAbs : Int) := by
  split <;> omega
theorem ok_worst_run (T : Defs K mg) (TT : Tabs T base) : FnOk P w K mg base (L2.CX P w) 16 T.f_worst_run T.fd_worst_run ["pieces", "number"] (sp_worst_run T) := by
  have G_settled_row : FnOk P w K mg base (L2.CX P w) 15 T.f_settled_row T.fd_settled_row ["pieces", "number"] (sp_settled_row T) := ok_settled_row T TT
  have G_fraction : FnOk P w K mg base CX0 2 T.f_fraction T.fd_fraction ["top", "bottom"] (sp_fraction K) := ok_fraction T TT
  have G_offs_by : FnOk P w K mg base CX0 1 T.f_offs_by T.fd_offs_by ["row", "many", "length"] (sp_offs_by K) := ok_offs_by T TT
  have G_ones : FnOk P w K mg base CX0 1 T.f_ones T.fd_ones ["row"] (sp_ones K) := ok_ones T TT
  refine okX T.F_worst_run sc_worst_run (fun vs H Q E h => ?_) (fun cdv A outer s H vs Q E hr h => ?_)
  · obtain ⟨pa, xs, Ps, i, rfl, hpa, hps, n24, ok, il, tab, q0, q⟩ := h
    rfl
  · obtain ⟨pa, xs, Ps, i, rfl, hpa, hps, n24, ok, il, tab, q0, q⟩ := h
    refine ⟨_, (pss_cons (ps_asg (pe_call (E := E) G_settled_row (hr.mono (by decide)) (by rfl) T.g_settled_row T.F_settled_row.kp T.b_settled_row .nil (passes_call (takes_of rfl rfl rfl rfl) (fun _ _ _ _ h => h)) (pa_cons (pv 0) (pa_cons (pv 1) pa_nil))) (pg_tup rfl (pgs_cons (pg_name (i := 2) sc_worst_run.nd rfl (.inl rfl)) (pgs_cons (pg_name (i := 3) sc_worst_run.nd rfl (.inl rfl)) pgs_nil))))
    (pss_cons (ps_setLc (i := 4) (own := [("off", 6)]) (g := gName 6) (tt := tYes) rfl sc_worst_run.nd rfl rfl (sw_true rfl rfl rfl (by decide +kernel)) (pi_list (pe_call G_offs_by (hr.mono (by decide)) (by rfl) T.g_offs_by T.F_offs_by.kp T.b_offs_by .nil pass0 (pa_cons (pe_op op_catS (pv 2) (pv 3)) (pa_cons (pe_call G_ones (hr.mono (by decide)) (by rfl) T.g_ones T.F_ones.kp T.b_ones .nil pass0 (pa_cons (pv 3) pa_nil)) (pa_cons (pe_callB call_len_seq (by rfl) T.m_len bt_len (pa_cons (pv 3) pa_nil)) pa_nil))))) (blkOk_by (N := N_worst_run) (sc := defScope s_worst_run) (by decide +kernel)) (fun _ _ _ _ _ => (pg_name (i := 6) sc_worst_run.nd rfl (.inl rfl))) (fun _ _ _ _ _ => pts_nil) (fun _ _ _ _ _ => (pe_callB call_abs (by rfl) T.m_abs bt_abs (pa_cons (pv 6) pa_nil))))
    (pss_cons (ps_set (i := 5) sc_worst_run.nd rfl (.inl rfl) (pe_callB (cr_max rfl) (by rfl) T.m_max bt_max (pa_cons (pv 4) pa_nil)))
    (pss_one (ps_ret (pe_tup (pa_cons (pe_call G_fraction (hr.mono (by decide)) (by rfl) T.g_fraction T.F_fraction.kp T.b_fraction .nil pass0 (pa_cons (pv 5) (pa_cons (pe_callB call_len_seq (by rfl) T.m_len bt_len (pa_cons (pv 3) pa_nil)) pa_nil))) (pa_cons (pe_bm PySem.F.plainAttrs_list PySem.F.slot_list_index PySem.F.type_list_index mt_index (pv 4) (pa_cons (pv 5) pa_nil)) pa_nil)))))))), ?_⟩
    have hsl : sizeLine = 16777216 := by decide
    refine ⟨.ref pa, rfl, .int (i : Nat), rfl, pa, xs, Ps, i, rfl, hpa, hps, n24, ok, il, tab, q0, fun H1 t b a n s s1 rep n8 ht hb ha => ?_⟩
    have sn : s < n := rep.lt
    refine ⟨t, _, rfl, SqT.mk ht, rfl, _, _, rfl, _, _, rfl, rfl, ?_⟩
    refine ⟨.ref b, rfl, .ref a, rfl, b, a, _, _, rfl, rfl, hb, ha, by rw [List.length_map, List.length_map, colL_len, colL_len]; omega, fun H2 c s2 hc => ?_⟩
    rw [← List.map_append, colL_cat Ps i (by omega)] at hc
    have ha2 := s2 _ _ ha
    refine ⟨.ref a, rfl, a, _, rfl, ha2, .ref a, rfl, a, _, rfl, .inr (SqT.mk ha2), c, colL Ps i 0 n, (colL Ps i s (n - s)).sum, n - s, by rw [List.length_map, colL_len]; rfl, hc, by rw [colL_len]; omega, by omega, fun H3 p s3 np hp => ?_⟩
    rw [colL_len] at hp
    refine ⟨p, rfl, ⟨_, SqL.mk hp⟩, fun D nD => ?_⟩
    refine lc_list (xs := OGL (colL Ps i 0 n) (colL Ps i s (n - s)).sum ((n - s : Nat) : Int) (n + 1)) (fun j G => Same H3 G ∧ G D = some (.lst (((List.range j).map fun k => ((offD Ps i n s k).natAbs : Int)).map V.int))) ⟨same_upd nD, upd_same⟩ (fun j G _ h2 => SqL.mk (h2.1 _ _ hp)) (fun j x G hx h2 => ?_) (fun G h2 => ?_)
    · obtain ⟨s4, hD⟩ := h2
      unfold OGL at hx
      have hj := (List.getElem?_eq_some_iff.mp hx).1
      rw [List.length_map, List.length_map, List.length_range] at hj
      rw [List.getElem?_map, List.getElem?_map, List.getElem?_range hj] at hx
      cases hx
      refine ⟨rfl, yes_ite ?_⟩
      refine ⟨_, rfl, _, rfl, _, hD, by rw [List.length_map, List.length_map, List.length_range]; omega, same_newer s4 nD, ?_⟩
      rw [upd_same, List.range_succ, List.map_append, List.map_append, OG_off (by omega), natAbs_if]
      rfl
    obtain ⟨s4, hD⟩ := h2
    rw [OGL_len] at hD
    have ha4 := s4 _ _ (s3 _ _ ha2)
    refine ⟨.ref D, rfl, D, _, rfl, SqL.mk hD, by rw [List.length_map, List.length_range]; omega, fun w hw hm => ?_⟩
    obtain ⟨j, h3, h4⟩ := first_of hw
    have hbest := Best.of_list hm h3 h4
    refine ⟨.int w, rfl, .ref a, rfl, a, _, rfl, .inr (SqT.mk ha4), w, ((n - s : Nat) : Int), by rw [List.length_map, colL_len]; rfl, by omega, s_len (by omega), fun H5 f s5 nf hf => ?_⟩
    refine ⟨.ref D, rfl, .inl ⟨rfl, _, SqL.mk (s5 _ _ hD)⟩, .int w, rfl, D, _, .int w, j, .int w, rfl, rfl, SqL.mk (s5 _ _ hD), rfl, flat_ints _, by rw [List.getElem?_map, h3]; rfl, beq_self_eq_true w, fun m z' hm e => ?_, ?_⟩
    · rw [List.getElem?_map] at e
      obtain ⟨x, hx, rfl⟩ := Option.map_eq_some_iff.mp e
      have hx0 : x ≠ w := fun y => h4 m hm (by rw [hx, y])
      show (x == w) = false
      exact beq_eq_false_iff_ne.mpr hx0
    refine ⟨(show 2 ≤ sizeLine by decide), fun t' nt => ?_⟩
    have st := same_upd nt (o := .tup [.ref f, .int (j : Nat)])
    exact q _ t' f w j n s (s1.trans (Sam.of (s2.trans (s3.trans (s4.trans (s5.trans st)))))) rep n8 upd_same (st _ _ hf) hbest
/-! what comes again -/
theorem dvd_lcmF {m : Nat} : ∀ (ns : List Nat) (c : Nat), (m ∣ c ∨ m ∈ ns) → m ∣ ns.foldl (fun c n => c * n / Nat.gcd c n) c
  | [], c, h => by
    rcases h with h | h
    · exact h
    · cases h
  | n :: ns, c, h => by
    have e : c * n / Nat.gcd c n = Nat.lcm c n := rfl
    show m ∣ ns.foldl (fun c n => c * n / Nat.gcd c n) (c * n / Nat.gcd c n)
    rw [e]
    refine dvd_lcmF ns _ ?_
    rcases h with h | h
    · exact .inl (Nat.dvd_trans h (Nat.dvd_lcm_left c n))
    · rcases List.mem_cons.mp h with rfl | h
      · exact .inl (Nat.dvd_lcm_right c m)
      · exact .inr h
theorem nums_dvd {Ps : List Pie} {i : Nat} {P : Pie} (e : Ps[i]? = some P) : P.nums.length ∣ cmL Ps := dvd_lcmF _ 1 (.inr (List.mem_map.mpr ⟨P, List.mem_of_getElem? e, rfl⟩))
theorem num_mod {Ps : List Pie} {i : Nat} {P : Pie} (e : Ps[i]? = some P) {a b : Nat} (h : a % cmL Ps = b % cmL Ps) : P.num a = P.num b := by
  unfold Pie.num
  have d := nums_dvd e
  rw [← Nat.mod_mod_of_dvd a d, h, Nat.mod_mod_of_dvd b d]
theorem bup_mod {Ps : List Pie} {hs : List Hd} {a b : Nat} (h : a % cmL Ps = b % cmL Ps) : ∀ k, k ≤ Ps.length → bup Ps a hs k = bup Ps b hs k
  | 0, _ => rfl
  | k + 1, hk => by
    have eP : Ps[k]? = some (Ps[k]'(by omega)) := List.getElem?_eq_getElem (by omega)
    show bup Ps a hs k ++ [_] = bup Ps b hs k ++ [_]
    rw [bup_mod h k (by omega), getD_of eP, num_mod eP h]
theorem map_num_inj : ∀ {xs ys : List Int}, xs.map NestedKey.num = ys.map NestedKey.num → xs = ys
  | [], [], _ => rfl
  | [], _ :: _, h => by cases h
  | _ :: _, [], h => by cases h
  | x :: xs, y :: ys, h => by
    rw [List.map_cons, List.map_cons] at h
    injection h with h1 h2
    injection h1 with h1
    rw [h1, map_num_inj h2]
theorem key_inj {P : Pie} {h h' : Hd} (a : P.Hok h) (b : P.Hok h') (e : h.key = h'.key) : h = h' := by
  cases P with
  | keep _ _ _ =>
    obtain ⟨x, rfl, _⟩ := a
    obtain ⟨y, rfl, _⟩ := b
    injection e with e
    rw [e]
  | late _ _ =>
    obtain ⟨x, rfl, _⟩ := a
    obtain ⟨y, rfl, _⟩ := b
    injection e with e
    rw [map_num_inj e]
  | keeper _ _ _ _ _ =>
    obtain ⟨x, rfl, _⟩ := a
    obtain ⟨y, rfl, _⟩ := b
    injection e with e
    rw [e]
  | _ =>
    obtain rfl : h = .non := a
    obtain rfl : h' = .non := b
    rfl
theorem sta_of_key {Ps : List Pie} (ok : PsOk Ps.length Ps) {a b : Nat} (e : skey Ps a = skey Ps b) : a % cmL Ps = b % cmL Ps ∧ sta Ps a = sta Ps b := by
  unfold skey at e
  injection e with e
  injection e with e1 e2
  injection e1 with e1
  refine ⟨by omega, List.ext_getElem? fun i => ?_⟩
  by_cases il : i < Ps.length
  · have eP : Ps[i]? = some (Ps[i]'il) := List.getElem?_eq_getElem il
    have ea : (sta Ps a)[i]? = some ((sta Ps a)[i]'(by rw [sta_len]; exact il)) := List.getElem?_eq_getElem _
    have eb : (sta Ps b)[i]? = some ((sta Ps b)[i]'(by rw [sta_len]; exact il)) := List.getElem?_eq_getElem _
    have e3 := congrArg (fun l => l[i]?) e2
    simp only [List.getElem?_map, ea, eb, Option.map_some, Option.some.injEq] at e3
    have ha := sta_ok ok a i _ eP
    have hb := sta_ok ok b i _ eP
    rw [getD_of ea] at ha
    rw [getD_of eb] at hb
    rw [ea, eb, key_inj ha hb e3]
  · rw [List.getElem?_eq_none (by rw [sta_len]; omega), List.getElem?_eq_none (by rw [sta_len]; omega)]
theorem sta_step (Ps : List Pie) (t : Nat) : sta Ps (t + 1) = (List.range Ps.length).map fun i => (Ps.getD i dPie).next ((sta Ps t).getD i .non) ((bup Ps t (sta Ps t) Ps.length).getD i 0) (asked (Ps.getD i dPie) (bup Ps t (sta Ps t) Ps.length)) := rfl
theorem again {Ps : List Pie} (ok : PsOk Ps.length Ps) {a b : Nat} (e : skey Ps a = skey Ps b) : ∀ u, (a + u) % cmL Ps = (b + u) % cmL Ps ∧ sta Ps (a + u) = sta Ps (b + u)
  | 0 => sta_of_key ok e
  | u + 1 => by
    obtain ⟨h1, h2⟩ := again ok e u
    refine ⟨?_, ?_⟩
    · rw [← Nat.add_assoc, ← Nat.add_assoc, Nat.add_mod, h1, ← Nat.add_mod]
    · show sta Ps ((a + u) + 1) = sta Ps ((b + u) + 1)
      rw [sta_step, sta_step, h2, bup_mod h1 Ps.length (Nat.le_refl _)]
theorem bts_again {Ps : List Pie} (ok : PsOk Ps.length Ps) {a b : Nat} (e : skey Ps a = skey Ps b) (u : Nat) : bts Ps (a + u) = bts Ps (b + u) := by
  obtain ⟨h1, h2⟩ := again ok e u
  unfold bts
  rw [h2, bup_mod h1 Ps.length (Nat.le_refl _)]
theorem Rep.col {Ps : List Pie} (ok : PsOk Ps.length Ps) {n s : Nat} (r : Rep Ps n s) (i : Nat) {k : Nat} (h : s ≤ k) : col Ps i (k + (n - s)) = col Ps i k := by
  have lt := r.lt
  unfold Fq.col
  have := bts_again ok r.eq (k - s)
  rw [show n + (k - s) = k + (n - s) by omega, show s + (k - s) = k by omega] at this
  rw [this]
theorem Rep.ones {Ps : List Pie} (ok : PsOk Ps.length Ps) {n s : Nat} (r : Rep Ps n s) (i : Nat) : ∀ m, ones_ Ps i (s + m + (n - s)) = ones_ Ps i (s + m) + (colL Ps i s (n - s)).sum
  | 0 => by
    rw [ones_from, Nat.add_zero]
    omega
  | m + 1 => by
    rw [show s + (m + 1) + (n - s) = (s + m + (n - s)) + 1 by omega]
    show ones_ Ps i (s + m + (n - s)) + Fq.col Ps i (s + m + (n - s)) = ones_ Ps i (s + m) + Fq.col Ps i (s + m) + _
    rw [r.ones ok i m, r.col ok i (by omega)]
    omega
theorem Rep.off {Ps : List Pie} (ok : PsOk Ps.length Ps) {n s : Nat} (r : Rep Ps n s) (i : Nat) {k : Nat} (h : s ≤ k) : offD Ps i n s (k + (n - s)) = offD Ps i n s k := by
  obtain ⟨m, rfl⟩ : ∃ m, k = s + m := ⟨k - s, by omega⟩
  unfold offD
  rw [r.ones ok i m, Int.add_mul, Int.natCast_add, Int.add_mul, Int.mul_comm (colL Ps i s (n - s)).sum]
  omega
theorem Rep.best {Ps : List Pie} (ok : PsOk Ps.length Ps) {n s : Nat} (r : Rep Ps n s) (i : Nat) {w : Int} {j : Nat} (b : Best (offD Ps i n s) n w j) {N : Nat} (hN : n ≤ N) : Best (offD Ps i n s) N w j := by
  have lt := r.lt
  have all : ∀ k, ((offD Ps i n s k).natAbs : Int) ≤ w := fun k => by
    induction k using Nat.strongRecOn with
    | ind k ih =>
      by_cases h : k ≤ n
      · exact b.most k h
      · have e := r.off ok i (k := k - (n - s)) (by omega)
        rw [show k - (n - s) + (n - s) = k by omega] at e
        rw [e]
        exact ih _ (by omega)
  exact ⟨Nat.le_trans b.le hN, b.eq, fun k _ => all k, b.first⟩
/-! sums over the first places -/
def Sm (f : Nat → Int) : Nat → Int
  | 0 => 0
  | n + 1 => Sm f n + f n
theorem Sm_congr {f g : Nat → Int} : ∀ {n : Nat}, (∀ i, i < n → f i = g i) → Sm f n = Sm g n
  | 0, _ => rfl
  | n + 1, h => by
    show Sm f n + f n = Sm g n + g n
    rw [Sm_congr (n := n) fun i hi => h i (by omega), h n (by omega)]
theorem Sm_plus (f g : Nat → Int) : ∀ n, Sm (fun i => f i + g i) n = Sm f n + Sm g n
  | 0 => rfl
  | n + 1 => by
    show Sm _ n + (f n + g n) = (Sm f n + f n) + (Sm g n + g n)
    rw [Sm_plus f g n]
    omega
theorem Sm_mul (c : Int) (f : Nat → Int) : ∀ n, Sm (fun i => c * f i) n = c * Sm f n
  | 0 => by
    show (0 : Int) = c * 0
    rw [Int.mul_zero]
  | n + 1 => by
    show Sm _ n + c * f n = c * (Sm f n + f n)
    rw [Sm_mul c f n, Int.mul_add]
theorem Sm_const (c : Int) : ∀ n, Sm (fun _ => c) n = n * c
  | 0 => by
    show (0 : Int) = ((0 : Nat) : Int) * c
    omega
  | n + 1 => by
    show Sm _ n + c = ((n + 1 : Nat) : Int) * c
    rw [Sm_const c n, Int.natCast_add, Int.add_mul]
    omega
theorem Sm_comm (f : Nat → Nat → Int) (m : Nat) : ∀ n, Sm (fun j => Sm (fun i => f i j) m) n = Sm (fun i => Sm (f i) n) m
  | 0 => by
    show (0 : Int) = Sm (fun _ => (0 : Int)) m
    rw [Sm_const]
    omega
  | n + 1 => by
    show Sm _ n + Sm (fun i => f i n) m = Sm (fun i => Sm (f i) n + f i n) m
    rw [Sm_comm f m n, Sm_plus]
theorem Sm_split (f : Nat → Int) (m : Nat) : ∀ k, Sm f (m + k) = Sm f m + Sm (fun j => f (m + j)) k
  | 0 => by
    show Sm f m = Sm f m + 0
    omega
  | k + 1 => by
    show Sm f (m + k) + f (m + k) = Sm f m + (Sm _ k + f (m + k))
    rw [Sm_split f m k]
    omega
theorem Sm_head (f : Nat → Int) : ∀ n, Sm f (n + 1) = f 0 + Sm (fun j => f (j + 1)) n
  | 0 => by
    show (0 : Int) + f 0 = f 0 + 0
    omega
  | n + 1 => by
    show Sm f (n + 1) + f (n + 1) = f 0 + (Sm _ n + f (n + 1))
    rw [Sm_head f n]
    omega
theorem Sm_rev (f : Nat → Int) : ∀ m, Sm (fun k => f (m - 1 - k)) m = Sm f m
  | 0 => rfl
  | m + 1 => by
    rw [Sm_head]
    show f (m + 1 - 1 - 0) + _ = Sm f m + f m
    rw [show m + 1 - 1 - 0 = m by omega, ← Sm_rev f m]
    rw [Sm_congr (f := fun j => f (m + 1 - 1 - (j + 1))) (g := fun k => f (m - 1 - k)) fun i hi => by rw [show m + 1 - 1 - (i + 1) = m - 1 - i by omega]]
    omega
theorem Sm_turn (f : Nat → Int) {i n : Nat} (hi : i < n) : Sm (fun b => f ((i + n - b) % n)) n = Sm f n := by
  have e : n = (i + 1) + (n - i - 1) := by omega
  have h1 : Sm (fun b => f ((i + n - b) % n)) (i + 1) = Sm f (i + 1) := by
    rw [← Sm_rev f (i + 1)]
    refine Sm_congr fun b hb => ?_
    rw [show i + n - b = (i + 1 - 1 - b) + n by omega, Nat.add_mod_right, Nat.mod_eq_of_lt (by omega)]
  have h2 : Sm (fun j => f ((i + n - (i + 1 + j)) % n)) (n - i - 1) = Sm (fun j => f (i + 1 + j)) (n - i - 1) := by
    rw [← Sm_rev (fun j => f (i + 1 + j)) (n - i - 1)]
    refine Sm_congr fun b hb => ?_
    rw [Nat.mod_eq_of_lt (by omega), show i + n - (i + 1 + b) = i + 1 + (n - i - 1 - 1 - b) by omega]
  have s1 := Sm_split (fun b => f ((i + n - b) % n)) (i + 1) (n - i - 1)
  have s2 := Sm_split f (i + 1) (n - i - 1)
  rw [← e] at s1 s2
  rw [s1, s2, h1, h2]
theorem Sm_list : ∀ (xs : List Int), xs.sum = Sm (fun i => xs.getD i 0) xs.length
  | [] => rfl
  | x :: r => by
    rw [List.sum_cons, List.length_cons, Sm_head, Sm_list r]
    rfl
theorem Sm_map (v : Nat → Int) : ∀ n, ((List.range n).map v).sum = Sm v n
  | 0 => rfl
  | n + 1 => by
    rw [List.range_succ, List.map_append, List.sum_append, Sm_map v n]
    show _ + (v n + 0) = Sm v n + v n
    omega
theorem Sm_filter (p : Nat → Bool) (v : Nat → Int) : ∀ n, (((List.range n).filter p).map v).sum = Sm (fun i => if p i = true then v i else 0) n
  | 0 => rfl
  | n + 1 => by
    rw [List.range_succ, List.filter_append, List.map_append, List.sum_append, Sm_filter p v n]
    show _ + (([n].filter p).map v).sum = Sm _ n + (if p n = true then v n else 0)
    by_cases h : p n = true
    · rw [List.filter_cons_of_pos h, if_pos h]
      show _ + (v n + 0) = _
      omega
    · rw [List.filter_cons_of_neg h, if_neg h]
      rfl
theorem Sm_count (p : Nat → Bool) : ∀ n, (((List.range n).filter p).length : Int) = Sm (fun i => if p i = true then 1 else 0) n
  | 0 => rfl
  | n + 1 => by
    rw [List.range_succ, List.filter_append, List.length_append, Int.natCast_add, Sm_count p n]
    show _ + ((([n].filter p).length : Nat) : Int) = Sm _ n + (if p n = true then 1 else 0)
    by_cases h : p n = true
    · rw [List.filter_cons_of_pos h, if_pos h]
      rfl
    · rw [List.filter_cons_of_neg h, if_neg h]
      rfl
/-! rows that meet, one late -/
theorem getD_at {rs : List Int} {i : Nat} (h : i < rs.length) : rs[i]? = some (rs.getD i 0) := by
  rw [List.getD_eq_getElem?_getD, List.getElem?_eq_getElem h]
  rfl
/-! sums over rounds -/
theorem Sm_block (f : Nat → Int) (r : Nat) : ∀ q, Sm f (r * q) = Sm (fun k => Sm (fun a => f (k * r + a)) r) q
  | 0 => rfl
  | q + 1 => by
    rw [Nat.mul_succ, Sm_split, Sm_block f r q, Nat.mul_comm r q]
    rfl
theorem Sm_per {f : Nat → Int} {r : Nat} (h : ∀ i, f (i + r) = f i) (q : Nat) : Sm f (r * q) = q * Sm f r := by
  have hk : ∀ k a, f (k * r + a) = f a := by
    intro k
    induction k with
    | zero => intro a; rw [Nat.zero_mul, Nat.zero_add]
    | succ k ih =>
      intro a
      rw [Nat.succ_mul, show k * r + r + a = (k * r + a) + r by omega, h, ih]
  rw [Sm_block, Sm_congr (g := fun _ => Sm f r) fun k _ => Sm_congr fun a _ => hk k a, Sm_const]
theorem Sm_le {f g : Nat → Int} : ∀ {n : Nat}, (∀ i, i < n → f i ≤ g i) → Sm f n ≤ Sm g n
  | 0, _ => Int.le_refl 0
  | n + 1, h => by
    have := Sm_le (n := n) fun i hi => h i (by omega)
    have h2 := h n (by omega)
    show Sm f n + f n ≤ Sm g n + g n
    omega
theorem Sm_ones {f : Nat → Int} : ∀ {n : Nat}, (∀ i, i < n → f i ≤ 1) → Sm f n = n → ∀ i, i < n → f i = 1
  | 0, _, _, i, hi => by omega
  | n + 1, h, e, i, hi => by
    have l := Sm_le (n := n) (g := fun _ => 1) fun i hi => h i (by omega)
    rw [Sm_const] at l
    have h2 := h n (by omega)
    have e : Sm f n + f n = ((n + 1 : Nat) : Int) := e
    by_cases c : i = n
    · subst c
      omega
    · exact Sm_ones (n := n) (fun i hi => h i (by omega)) (by omega) i (by omega)
theorem Sm_zero {f : Nat → Int} {n : Nat} (h : ∀ i, i < n → f i = 0) : Sm f n = 0 := by
  rw [Sm_congr (g := fun _ => 0) h, Sm_const, Int.mul_zero]
theorem Sm_most {p : Nat → Prop} [DecidablePred p] : ∀ {n : Nat}, (∀ i j, i < n → j < n → p i → p j → i = j) → Sm (fun i => if p i then (1 : Int) else 0) n ≤ 1
  | 0, _ => by
    show (0 : Int) ≤ 1
    decide
  | n + 1, h => by
    show Sm (fun i => if p i then (1 : Int) else 0) n + (if p n then (1 : Int) else 0) ≤ 1
    by_cases c : p n
    · rw [if_pos c, Sm_zero fun i hi => if_neg fun z => by
        have := h i n (by omega) (by omega) z c
        omega]
      decide
    · rw [if_neg c]
      have := Sm_most (n := n) fun i j hi hj => h i j (by omega) (by omega)
      omega
theorem Sm_pick (h : Nat → Int) {n b : Nat} (hb : b < n) : Sm (fun k => if b = k then h k else 0) n = h b := by
  induction n with
  | zero => omega
  | succ n ih =>
    show Sm (fun k => if b = k then h k else 0) n + (if b = n then h n else 0) = h b
    by_cases c : b = n
    · subst c
      rw [if_pos rfl, Sm_zero fun i hi => if_neg (by omega), Int.zero_add]
    · rw [if_neg c, ih (by omega), Int.add_zero]
theorem Sm_shift (h : Nat → Int) {c n a : Nat} (hn : 0 < n) (cop : Nat.Coprime c n) : Sm (fun q => h ((q * c + a) % n)) n = Sm h n := by
  have inj : ∀ b i j, i < n → j < n → (i * c + a) % n = b → (j * c + a) % n = b → i = j := by
    intro b i j hi hj e1 e2
    have key : ∀ i j, i < j → j < n → (i * c + a) % n = (j * c + a) % n → False := by
      intro i j hij hj e
      have d := Nat.sub_mod_eq_zero_of_mod_eq e.symm
      have e2 : j * c + a - (i * c + a) = (j - i) * c := by
        rw [Nat.sub_mul]
        omega
      rw [e2] at d
      have dv : n ∣ (j - i) * c := Nat.dvd_of_mod_eq_zero d
      have dv2 : n ∣ (j - i) := (Nat.Coprime.symm cop).dvd_of_dvd_mul_right dv
      have := Nat.le_of_dvd (by omega) dv2
      omega
    rcases Nat.lt_trichotomy i j with z | z | z
    · exact (key i j z hj (e1.trans e2.symm)).elim
    · exact z
    · exact (key j i z hi (e2.trans e1.symm)).elim
  have cnt : ∀ b, b < n → Sm (fun q => if (q * c + a) % n = b then (1 : Int) else 0) n = 1 := by
    refine Sm_ones (fun b hb => Sm_most (p := fun q => (q * c + a) % n = b) fun i j hi hj => inj b i j hi hj) ?_
    rw [Sm_comm (fun q b => if (q * c + a) % n = b then (1 : Int) else 0) n n, Sm_congr (g := fun _ => 1) fun q hq => Sm_pick (fun _ => 1) (Nat.mod_lt _ hn), Sm_const, Int.mul_one]
  have e1 : Sm (fun q => h ((q * c + a) % n)) n = Sm (fun q => Sm (fun b => if (q * c + a) % n = b then h b else 0) n) n := Sm_congr fun q _ => (Sm_pick h (Nat.mod_lt _ hn)).symm
  rw [e1, ← Sm_comm (fun q b => if (q * c + a) % n = b then h b else 0) n n]
  refine Sm_congr fun b hb => ?_
  have e2 : Sm (fun q => if (q * c + a) % n = b then h b else 0) n = Sm (fun q => h b * if (q * c + a) % n = b then (1 : Int) else 0) n := Sm_congr fun q _ => by split <;> simp
  rw [e2, Sm_mul, cnt b hb, Int.mul_one]
/-- two that meet as they must -/
def Meets2 (n r : Nat) (c : Nat → Int) : Prop := ∀ g : Nat → Int, Sm (fun i => g (i % r) * c i) n * r = Sm g r * Sm c n
theorem meets_of {r s : Nat} {c : Nat → Int} {o : Nat → Int} (hr : 0 < r) (h : ∀ g : Nat → Int, Sm (fun i => g (i % r) * c i) (r * s) = Sm g r * Sm o s) : Meets2 (r * s) r c := by
  intro g
  have e := h fun _ => 1
  rw [Sm_const, Int.mul_one, Sm_congr (g := c) fun i _ => Int.one_mul (c i)] at e
  rw [h g, e, Int.mul_assoc, Int.mul_comm (Sm o s)]
theorem meets_cop {r s : Nat} {h : Nat → Int} (hr : 0 < r) (hs : 0 < s) (cop : Nat.Coprime r s) (hp : ∀ i, h (i % s) = h i) : Meets2 (r * s) r h := by
  refine meets_of (o := h) hr fun g => ?_
  rw [Sm_block]
  have e1 : Sm (fun k => Sm (fun a => g ((k * r + a) % r) * h (k * r + a)) r) s = Sm (fun k => Sm (fun a => g a * h ((k * r + a) % s)) r) s := Sm_congr fun k _ => Sm_congr fun a ha => by
    rw [Nat.mul_comm k r, Nat.mul_add_mod, Nat.mod_eq_of_lt ha, hp]
  rw [e1, Sm_comm (fun a k => g a * h ((k * r + a) % s)) r s]
  have e2 : Sm (fun a => Sm (fun k => g a * h ((k * r + a) % s)) s) r = Sm (fun a => Sm h s * g a) r := Sm_congr fun a _ => by
    rw [Sm_mul, Sm_shift h hs cop, Int.mul_comm]
  rw [e2, Sm_mul, Int.mul_comm]
theorem meets_slow {r s : Nat} {h : Nat → Int} (hr : 0 < r) : Meets2 (r * s) r (fun i => h (i / r)) := by
  refine meets_of (o := h) hr fun g => ?_
  rw [Sm_block]
  have e1 : Sm (fun k => Sm (fun a => g ((k * r + a) % r) * h ((k * r + a) / r)) r) s = Sm (fun k => Sm g r * h k) s := Sm_congr fun k _ => by
    have : Sm (fun a => g ((k * r + a) % r) * h ((k * r + a) / r)) r = Sm (fun a => h k * g a) r := Sm_congr fun a ha => by
      rw [Nat.mul_comm k r, Nat.mul_add_mod, Nat.mod_eq_of_lt ha, Nat.mul_add_div hr, Nat.div_eq_of_lt ha, Nat.add_zero, Int.mul_comm]
    rw [this, Sm_mul, Int.mul_comm]
  rw [e1, Sm_mul]
def blw (k t : Int) : Int := if t < k then 1 else 0
theorem blw_bit (k t : Int) : blw k t = 0 ∨ blw k t = 1 := by
  unfold blw
  split
  · exact .inr rfl
  · exact .inl rfl
/-! a machine's bits beside rows -/
theorem val_mod {m : Mk} (h : m.Ok) (i : Nat) : m.val ((i % m.rnd : Nat) : Int) = m.val (i : Int) := by
  have e : ∀ c : Nat, m.val ((i % m.rnd + c * m.rnd : Nat) : Int) = m.val ((i % m.rnd : Nat) : Int) := fun c => by
    induction c with
    | zero => rw [Nat.zero_mul, Nat.add_zero]
    | succ c ih =>
      rw [Nat.succ_mul, ← Nat.add_assoc, Int.natCast_add, val_round h]
      exact ih
  have := e (i / m.rnd)
  rw [← this]
  congr 2
  rw [Nat.mul_comm]
  exact Nat.mod_add_div i m.rnd
theorem num_val {m : Mk} (ok : m.Ok) {P : Pie} (h : P.mkr = some m) (r : 1 ≤ m.rnd) (t : Nat) : P.num t = m.val t := by
  have e : P.nums = (List.range m.rnd).map fun (i : Nat) => m.val i := by
    unfold Pie.nums
    rw [h]
  unfold Pie.num
  rw [e, List.length_map, List.length_range, getD_of (show ((List.range m.rnd).map fun (i : Nat) => m.val i)[t % m.rnd]? = some (m.val ((t % m.rnd : Nat) : Int)) by rw [List.getElem?_map, List.getElem?_range (Nat.mod_lt _ r)]; rfl)]
  exact val_mod ok t
section
variable {Ps : List Pie} {i a b c t : Nat}
theorem bts_ask (h : a < i) (hi : i ≤ Ps.length) : (bup Ps t (sta Ps t) i).getD a 0 = (bts Ps t).getD a 0 := (bup_get h _ hi).symm
theorem bit_make {m : Mk} {k : Nat} (e : Ps[i]? = some (.make m k)) (ok : m.Ok) (r : 1 ≤ m.rnd) : (bts Ps t).getD i 0 = blw k (m.val t) := by
  rw [bts_own e, num_val ok rfl r]
  rfl
theorem bit_both (e : Ps[i]? = some (.both a b)) (ha : a < i) (hb : b < i) : (bts Ps t).getD i 0 = (bts Ps t).getD a 0 * (bts Ps t).getD b 0 := by
  have il := (List.getElem?_eq_some_iff.mp e).1
  rw [bts_own e]
  show (bup Ps t (sta Ps t) i).getD a 0 * (bup Ps t (sta Ps t) i).getD b 0 = _
  rw [bts_ask ha (by omega), bts_ask hb (by omega)]
theorem late_hist {ah : List Int} (e : Ps[i]? = some (.late a ah)) : ∀ t : Nat, ∃ L : List Int, (sta Ps t).getD i Hd.non = .ah L ∧ L.length = ah.length ∧ ∀ j, j < ah.length → L.getD j 0 = if t + j < ah.length then ah.getD (t + j) 0 else (bts Ps (t + j - ah.length)).getD a 0
  | 0 => by
    refine ⟨ah, getD_of (show (Ps.map Pie.first)[i]? = some _ by rw [List.getElem?_map, e]; rfl), rfl, fun j hj => ?_⟩
    rw [Nat.zero_add, if_pos hj]
  | t + 1 => by
    obtain ⟨L, h1, h2, h3⟩ := late_hist e t
    refine ⟨(L ++ [(bts Ps t).getD a 0]).drop 1, ?_, by rw [List.length_drop, List.length_append]; show L.length + 1 - 1 = _; omega, fun j hj => ?_⟩
    · rw [sta_succ e, h1]
      rfl
    · rw [List.getD_eq_getElem?_getD, List.getElem?_drop]
      by_cases c : 1 + j < L.length
      · rw [List.getElem?_append_left c, ← List.getD_eq_getElem?_getD, Nat.add_comm 1 j, h3 (j + 1) (by omega), show t + (j + 1) = t + 1 + j by omega]
      · obtain rfl : j = L.length - 1 := by omega
        rw [List.getElem?_append_right (by omega), show 1 + (L.length - 1) - L.length = 0 by omega, if_neg (by omega), show t + 1 + (L.length - 1) - ah.length = t by omega]
        rfl
theorem bit_late {ah : List Int} (e : Ps[i]? = some (.late a ah)) (h : 1 ≤ ah.length) : (bts Ps t).getD i 0 = if t < ah.length then ah.getD t 0 else (bts Ps (t - ah.length)).getD a 0 := by
  obtain ⟨L, h1, h2, h3⟩ := late_hist e t
  rw [bts_own e, h1]
  have := h3 0 (by omega)
  rw [Nat.add_zero] at this
  exact this
end
/-! when a machine with one late piece goes round -/
theorem hok_non {P : Pie} {h : Hd} (a : P.Hok h) (n : P.hold = false) : h = .non := by
  cases P with
  | keep _ _ _ => cases n
  | late _ _ => cases n
  | keeper _ _ _ _ _ => cases n
  | _ => exact a
theorem late_rep {Ps : List Pie} (ok : PsOk Ps.length Ps) {i a : Nat} {ah : List Int} (e : Ps[i]? = some (.late a ah)) (oth : ∀ j P, Ps[j]? = some P → j ≠ i → P.hold = false) {W : Nat → Int} {A : Nat} (c0 : 0 < cmL Ps)
    (hA : A ≤ ah.length) (hw : ∀ p, A ≤ p → p < ah.length → ah.getD p 0 = W p) (hb : A = 0 ∨ ah.getD (A - 1) 0 ≠ W (A - 1)) (hW : ∀ p, ah.length ≤ p → W p = (bts Ps (p - ah.length)).getD a 0) (hWp : ∀ p, W (p + cmL Ps) = W p) : Rep Ps (A + cmL Ps) A := by
  have hWc : ∀ p c : Nat, W (p + c * cmL Ps) = W p := fun p c => by
    induction c with
    | zero => rw [Nat.zero_mul, Nat.add_zero]
    | succ c ih => rw [Nat.succ_mul, ← Nat.add_assoc, hWp, ih]
  let v : Nat → Int := fun p => if p < ah.length then ah.getD p 0 else (bts Ps (p - ah.length)).getD a 0
  have vW : ∀ p, A ≤ p → v p = W p := fun p hp => by
    show (if p < ah.length then ah.getD p 0 else (bts Ps (p - ah.length)).getD a 0) = W p
    by_cases c : p < ah.length
    · rw [if_pos c, hw p hp c]
    · rw [if_neg c, hW p (by omega)]
  have hist := fun t => late_hist e t
  have il := (List.getElem?_eq_some_iff.mp e).1
  refine ⟨by omega, ?_, fun i0 j0 ij jn z => ?_⟩
  · have es : sta Ps (A + cmL Ps) = sta Ps A := by
      refine List.ext_getElem? fun j => ?_
      by_cases hj : j < Ps.length
      · have g : ∀ u, (sta Ps u)[j]? = some ((sta Ps u).getD j .non) := fun u => by
          rw [List.getD_eq_getElem?_getD, List.getElem?_eq_getElem (by rw [sta_len]; exact hj)]
          rfl
        rw [g, g]
        congr 1
        by_cases ji : j = i
        · subst ji
          obtain ⟨L1, h1, l1, e1⟩ := hist (A + cmL Ps)
          obtain ⟨L2, h2, l2, e2⟩ := hist A
          rw [h1, h2]
          congr 1
          refine List.ext_getElem (by omega) fun q q1 q2 => ?_
          have g1 := e1 q (by omega)
          have g2 := e2 q (by omega)
          rw [List.getD_eq_getElem?_getD, List.getElem?_eq_getElem q1] at g1
          rw [List.getD_eq_getElem?_getD, List.getElem?_eq_getElem q2] at g2
          have k1 : L1[q] = v (A + cmL Ps + q) := g1
          have k2 : L2[q] = v (A + q) := g2
          rw [k1, k2, vW _ (by omega), vW _ (by omega), show A + cmL Ps + q = A + q + cmL Ps by omega, hWp]
        · have eP : Ps[j]? = some (Ps[j]'hj) := List.getElem?_eq_getElem hj
          have n := oth j _ eP ji
          rw [hok_non (sta_ok ok (A + cmL Ps) j _ eP) n, hok_non (sta_ok ok A j _ eP) n]
      · rw [List.getElem?_eq_none (by rw [sta_len]; omega), List.getElem?_eq_none (by rw [sta_len]; omega)]
    unfold skey
    rw [es, Nat.add_mod_right]
  · obtain ⟨z1, z2⟩ := sta_of_key ok z
    obtain ⟨c, hc⟩ : ∃ c, j0 - i0 = cmL Ps * c := ⟨j0 / cmL Ps - i0 / cmL Ps, by
      have d1 := Nat.mod_add_div i0 (cmL Ps)
      have d2 := Nat.mod_add_div j0 (cmL Ps)
      rw [Nat.mul_sub]
      omega⟩
    have c1 : 1 ≤ c := by
      rcases Nat.eq_zero_or_pos c with q | q
      · rw [q, Nat.mul_zero] at hc
        omega
      · exact q
    have le : cmL Ps ≤ cmL Ps * c := Nat.le_mul_of_pos_right _ c1
    rcases hb with hb | hb
    · omega
    · obtain ⟨L1, h1, l1, e1⟩ := hist i0
      obtain ⟨L2, h2, l2, e2⟩ := hist j0
      rw [z2, h2] at h1
      have : L2 = L1 := by injection h1
      subst this
      have g1 := e1 (A - 1 - i0) (by omega)
      have g2 := e2 (A - 1 - i0) (by omega)
      rw [g1] at g2
      have k : v (i0 + (A - 1 - i0)) = v (j0 + (A - 1 - i0)) := g2
      rw [show i0 + (A - 1 - i0) = A - 1 by omega, vW (j0 + (A - 1 - i0)) (by omega), show j0 + (A - 1 - i0) = A - 1 + c * cmL Ps by rw [Nat.mul_comm c]; omega, hWc] at k
      refine hb ?_
      rw [← k]
      exact (if_pos (show A - 1 < ah.length by omega)).symm
/-! sums over a window -/
theorem Sm_win {f : Nat → Int} {N : Nat} (h : ∀ t, f (t + N) = f t) : ∀ A, Sm (fun u => f (A + u)) N = Sm f N
  | 0 => Sm_congr fun i _ => by rw [Nat.zero_add]
  | A + 1 => by
    rw [← Sm_win h A]
    have key : ∀ n, Sm (fun u => f (A + 1 + u)) n = Sm (fun u => f (A + u)) n + f (A + n) - f A := fun n => by
      induction n with
      | zero =>
        show (0 : Int) = 0 + f (A + 0) - f A
        rw [Nat.add_zero]
        omega
      | succ n ih =>
        show Sm (fun u => f (A + 1 + u)) n + f (A + 1 + n) = Sm (fun u => f (A + u)) n + f (A + n) + f (A + (n + 1)) - f A
        rw [ih, show A + (n + 1) = A + 1 + n by omega]
        omega
    rw [key N, h A]
    omega
theorem colL_Sm (Ps : List Pie) (i A n : Nat) : (colL Ps i A n).sum = Sm (fun u => col Ps i (A + u)) n := Sm_map _ n
/-- a counter's numbers below k -/
theorem val_cnt {r s t : Nat} (ok : (Mk.counter r s t).Ok) (i : Nat) : (Mk.counter r s t).val (i : Int) = ((t + s * i) % r : Nat) := by
  have r1 : 1 ≤ r := ok.1
  have e : (Mk.counter r s t).rnd = r := by
    show ((List.range r).map fun i => (((t + s * i) % r : Nat) : Int)).length = r
    rw [List.length_map, List.length_range]
  rw [← val_mod ok, e]
  have il : i % r < r := Nat.mod_lt _ r1
  show ((List.range r).map fun i => (((t + s * i) % r : Nat) : Int)).getD (((i % r : Nat) : Int) % (((List.range r).map fun i => (((t + s * i) % r : Nat) : Int)).length : Int)).toNat 0 = _
  rw [List.length_map, List.length_range, ← Int.natCast_emod, Int.toNat_natCast, Nat.mod_mod, List.getD_eq_getElem?_getD, List.getElem?_map, List.getElem?_range il]
  show (((t + s * (i % r)) % r : Nat) : Int) = _
  rw [Nat.add_mod, Nat.mul_mod, Nat.mod_mod, ← Nat.mul_mod, ← Nat.add_mod]
theorem Sm_below {k : Nat} : ∀ n : Nat, k ≤ n → Sm (fun x => blw (k : Int) (x : Nat)) n = k
  | n, h => by
    obtain ⟨m, rfl⟩ : ∃ m, n = k + m := ⟨n - k, by omega⟩
    clear h
    induction m with
    | zero =>
      have : Sm (fun x => blw (k : Int) (x : Nat)) (k + 0) = Sm (fun _ => 1) k := Sm_congr fun i hi => if_pos (by omega)
      rw [this, Sm_const, Int.mul_one]
    | succ m ih =>
      show Sm (fun x => blw (k : Int) (x : Nat)) (k + m) + blw (k : Int) ((k + m : Nat) : Int) = k
      rw [ih, show blw (k : Int) ((k + m : Nat) : Int) = 0 from if_neg (by omega), Int.add_zero]
theorem cnt_sum {r s t k : Nat} (ok : (Mk.counter r s t).Ok) (cop : Nat.Coprime s r) (hk : k ≤ r) : Sm (fun (i : Nat) => blw (k : Int) ((Mk.counter r s t).val (i : Int))) r = k := by
  have e : Sm (fun (i : Nat) => blw (k : Int) ((Mk.counter r s t).val (i : Int))) r = Sm (fun q => (fun x : Nat => blw (k : Int) (x : Nat)) ((q * s + t) % r)) r := Sm_congr fun i _ => by
    show blw (k : Int) _ = blw (k : Int) _
    rw [val_cnt ok, Nat.add_comm t, Nat.mul_comm s]
  rw [e]
  exact (Sm_shift (fun x : Nat => blw (k : Int) (x : Nat)) ok.1 cop).trans (Sm_below r hk)
/-! lengths together -/
theorem lcmF_one (ns : List Nat) : lcmF (ns ++ [1]) = lcmF ns := by
  rw [lcmF_snoc, Nat.mul_one, Nat.gcd_one_right, Nat.div_one]
theorem lcmF_lcm (ns : List Nat) (n : Nat) : lcmF (ns ++ [n]) = Nat.lcm (lcmF ns) n := lcmF_snoc ns n
/-! the shares -/
theorem col_make {Ps : List Pie} {i : Nat} {m : Mk} {k : Nat} (e : Ps[i]? = some (.make m k)) (ok : m.Ok) (t : Nat) : col Ps i t = blw k (m.val (t : Int)) := bit_make e ok (rnd_pos ok)
theorem val_per {m : Mk} (ok : m.Ok) {N : Nat} (d : m.rnd ∣ N) (t : Nat) : m.val ((t + N : Nat) : Int) = m.val (t : Int) := by
  obtain ⟨c, rfl⟩ := d
  rw [← val_mod ok (t + m.rnd * c), Nat.add_mul_mod_self_left, val_mod ok]
theorem make_dvd {Ps : List Pie} {i : Nat} {m : Mk} {k : Nat} (e : Ps[i]? = some (.make m k)) : m.rnd ∣ cmL Ps := by
  have := nums_dvd e
  have l : (Pie.make m k).nums.length = m.rnd := by
    show ((List.range m.rnd).map fun (i : Nat) => m.val i).length = m.rnd
    rw [List.length_map, List.length_range]
  rwa [l] at this
theorem cnt_rnd (r s t : Nat) : (Mk.counter r s t).rnd = r := by
  show ((List.range r).map fun i => (((t + s * i) % r : Nat) : Int)).length = r
  rw [List.length_map, List.length_range]
theorem cnt_many {r s t k : Nat} (ok : (Mk.counter r s t).Ok) (cop : Nat.Coprime s r) (hk : k ≤ r) {N : Nat} (d : r ∣ N) : Sm (fun (i : Nat) => blw (k : Int) ((Mk.counter r s t).val (i : Int))) N * (r : Int) = (k : Int) * (N : Int) := by
  obtain ⟨c, rfl⟩ := d
  rw [Sm_per (f := fun (i : Nat) => blw (k : Int) ((Mk.counter r s t).val (i : Int))) (r := r) (fun i => by
    show blw _ _ = blw _ _
    rw [val_per ok (by rw [cnt_rnd]; exact Nat.dvd_refl r)]), cnt_sum ok cop hk, Int.natCast_mul]
  ac_rfl
theorem make_share {Ps : List Pie} {i r s t k : Nat} (e : Ps[i]? = some (.make (.counter r s t) k)) (ok : (Mk.counter r s t).Ok) (cop : Nat.Coprime s r) (hk : k ≤ r) (A : Nat) : (colL Ps i A (cmL Ps)).sum * (r : Int) = (k : Int) * (cmL Ps : Int) := by
  have d := make_dvd e
  rw [cnt_rnd] at d
  rw [colL_Sm, Sm_congr (g := fun u => (fun (i : Nat) => blw (k : Int) ((Mk.counter r s t).val (i : Int))) (A + u)) fun u _ => col_make e ok _, Sm_win (f := fun (i : Nat) => blw (k : Int) ((Mk.counter r s t).val (i : Int))) (fun i => by
    show blw _ _ = blw _ _
    rw [val_per ok (make_dvd e)]), cnt_many ok cop hk d]
theorem col_late {Ps : List Pie} {i a : Nat} {ah : List Int} (e : Ps[i]? = some (.late a ah)) (h : 1 ≤ ah.length) (t : Nat) : col Ps i t = if t < ah.length then ah.getD t 0 else col Ps a (t - ah.length) := bit_late e h
/-- what a late piece comes to be -/
noncomputable def lateW (m : Mk) (k sz N : Nat) (p : Nat) : Int := blw k (m.val (((p : Int) - sz) % N))
theorem lateW_far {m : Mk} (ok : m.Ok) {k sz N : Nat} (d : m.rnd ∣ N) {p : Nat} (h : sz ≤ p) : lateW m k sz N p = blw k (m.val ((p - sz : Nat) : Int)) := by
  unfold lateW
  rw [show (p : Int) - sz = ((p - sz : Nat) : Int) by omega, ← Int.natCast_emod]
  congr 1
  obtain ⟨c, rfl⟩ := d
  rw [← val_mod ok ((p - sz) % (m.rnd * c)), Nat.mod_mul_right_mod, val_mod ok]
theorem lateW_per (m : Mk) (k sz N p : Nat) : lateW m k sz N (p + N) = lateW m k sz N p := by
  unfold lateW
  rw [show ((p + N : Nat) : Int) - sz = ((p : Int) - sz) + N by omega, Int.add_emod_right]
theorem late_go {Ps : List Pie} (okP : PsOk Ps.length Ps) {i a k : Nat} {m : Mk} {ah : List Int} (e : Ps[i]? = some (.late a ah)) (ea : Ps[a]? = some (.make m k)) (ok : m.Ok) (oth : ∀ j P, Ps[j]? = some P → j ≠ i → P.hold = false) (c0 : 0 < cmL Ps) {A : Nat}
    (hA : A ≤ ah.length) (hw : ∀ p, A ≤ p → p < ah.length → ah.getD p 0 = lateW m k ah.length (cmL Ps) p) (hb : A = 0 ∨ ah.getD (A - 1) 0 ≠ lateW m k ah.length (cmL Ps) (A - 1)) : Rep Ps (A + cmL Ps) A :=
  late_rep okP e oth c0 hA hw hb (fun p hp => by
    rw [lateW_far ok (make_dvd ea) hp]
    exact (col_make ea ok _).symm) (fun p => lateW_per m k ah.length (cmL Ps) p)
theorem late_share {Ps : List Pie} {i a k r s t : Nat} {ah : List Int} (e : Ps[i]? = some (.late a ah)) (h1 : 1 ≤ ah.length) (ea : Ps[a]? = some (.make (.counter r s t) k)) (ok : (Mk.counter r s t).Ok) (cop : Nat.Coprime s r) (hk : k ≤ r) {A : Nat}
    (hw : ∀ p, A ≤ p → p < ah.length → ah.getD p 0 = lateW (.counter r s t) k ah.length (cmL Ps) p) : (colL Ps i A (cmL Ps)).sum * (r : Int) = (k : Int) * (cmL Ps : Int) := by
  have hc : ∀ p, A ≤ p → col Ps i p = lateW (.counter r s t) k ah.length (cmL Ps) p := fun p hp => by
    rw [col_late e h1]
    by_cases c : p < ah.length
    · rw [if_pos c, hw p hp c]
    · rw [if_neg c, lateW_far ok (make_dvd ea) (by omega), col_make ea ok]
  have w := Sm_win (f := lateW (.counter r s t) k ah.length (cmL Ps)) (N := cmL Ps) (fun p => lateW_per _ k ah.length (cmL Ps) p)
  rw [colL_Sm, Sm_congr (g := fun u => lateW (.counter r s t) k ah.length (cmL Ps) (A + u)) fun u _ => hc _ (by omega), w A, ← w ah.length]
  have d := make_dvd ea
  rw [cnt_rnd] at d
  rw [Sm_congr (g := fun (i : Nat) => blw (k : Int) ((Mk.counter r s t).val (i : Int))) fun u _ => by
    show lateW (.counter r s t) k ah.length (cmL Ps) (ah.length + u) = _
    rw [lateW_far ok (make_dvd ea) (by omega), show ah.length + u - ah.length = u by omega], cnt_many ok cop hk d]
theorem both_share {Ps : List Pie} {i k0 r0 s0 t0 k1 r1 s1 t1 : Nat} (e : Ps[i]? = some (.both 0 1)) (i2 : 1 < i) (ea : Ps[0]? = some (.make (.counter r0 s0 t0) k0)) (oka : (Mk.counter r0 s0 t0).Ok) (copa : Nat.Coprime s0 r0) (ka : k0 ≤ r0)
    (eb : Ps[1]? = some (.make (.counter r1 s1 t1) k1)) (okb : (Mk.counter r1 s1 t1).Ok) (copb : Nat.Coprime s1 r1) (kb : k1 ≤ r1) (hl : Nat.lcm r0 r1 = r0 * r1) (A : Nat) : (colL Ps i A (cmL Ps)).sum * ((r0 : Int) * (r1 : Int)) = (k0 : Int) * (k1 : Int) * (cmL Ps : Int) := by
  have da := make_dvd ea
  have db := make_dvd eb
  have ra : 0 < r0 := oka.1
  have rb : 0 < r1 := okb.1
  have cop : Nat.Coprime r0 r1 := by
    have g := Nat.gcd_mul_lcm r0 r1
    rw [hl] at g
    exact Nat.eq_of_mul_eq_mul_right (Nat.mul_pos ra rb) (by rw [g, Nat.one_mul])
  have d : r0 * r1 ∣ cmL Ps := by
    rw [← hl]
    rw [cnt_rnd] at da db
    exact Nat.lcm_dvd da db
  let f0 : Nat → Int := fun i => blw (k0 : Int) ((Mk.counter r0 s0 t0).val (i : Int))
  let f1 : Nat → Int := fun i => blw (k1 : Int) ((Mk.counter r1 s1 t1).val (i : Int))
  have hcol : ∀ t, col Ps i t = f0 t * f1 t := fun t => by
    have := bit_both (t := t) e (by omega) (by omega)
    show (bts Ps t).getD i 0 = _
    rw [this]
    show col Ps 0 t * col Ps 1 t = _
    rw [col_make ea oka, col_make eb okb]
  have p0 : ∀ (N : Nat), r0 ∣ N → ∀ t, f0 (t + N) = f0 t := fun N h t => by
    show blw _ _ = blw _ _
    rw [val_per oka (by rw [cnt_rnd]; exact h)]
  have p1 : ∀ (N : Nat), r1 ∣ N → ∀ t, f1 (t + N) = f1 t := fun N h t => by
    show blw _ _ = blw _ _
    rw [val_per okb (by rw [cnt_rnd]; exact h)]
  have per : ∀ (N : Nat), r0 ∣ N → r1 ∣ N → ∀ t, f0 (t + N) * f1 (t + N) = f0 t * f1 t := fun N h h' t => by rw [p0 N h, p1 N h']
  have m0 : ∀ i, f0 (i % r0) = f0 i := fun i => by
    show blw _ _ = blw _ _
    have := val_mod oka i
    rw [cnt_rnd] at this
    rw [this]
  have m1 : ∀ i, f1 (i % r1) = f1 i := fun i => by
    show blw _ _ = blw _ _
    have := val_mod okb i
    rw [cnt_rnd] at this
    rw [this]
  have M := meets_cop (h := f1) ra rb cop m1 f0
  rw [Sm_congr (g := fun i => f0 i * f1 i) (fun i _ => by rw [m0])] at M
  have S0 : Sm f0 r0 = k0 := cnt_sum oka copa ka
  have S1 : Sm f1 (r0 * r1) = (r0 : Int) * k1 := by
    rw [Nat.mul_comm r0, Sm_per (f := f1) (r := r1) (p1 r1 (Nat.dvd_refl _)), cnt_sum okb copb kb]
  rw [S0, S1] at M
  have S2 : Sm (fun i => f0 i * f1 i) (r0 * r1) = (k0 : Int) * k1 := by
    refine Int.eq_of_mul_eq_mul_right (show (r0 : Int) ≠ 0 by omega) ?_
    rw [M]
    ac_rfl
  have dA : r0 ∣ cmL Ps := by rw [cnt_rnd] at da; exact da
  have dB : r1 ∣ cmL Ps := by rw [cnt_rnd] at db; exact db
  rw [colL_Sm, Sm_congr (g := fun u => (fun i => f0 i * f1 i) (A + u)) fun u _ => hcol _, Sm_win (f := fun i => f0 i * f1 i) (per _ dA dB)]
  obtain ⟨c, hc⟩ := d
  rw [hc, Sm_per (f := fun i => f0 i * f1 i) (r := r0 * r1) (per _ (Nat.dvd_mul_right _ _) (Nat.dvd_mul_left _ _)), S2, Int.natCast_mul, Int.natCast_mul]
  ac_rfl
/-! an error that is caught, and kept beyond the suite -/
def ExK (cls : Value) (d : Option Addr) (a : Addr) : HO := .ext fun h => ∃ (oe : Obj) (vs : Array Value), h.get? a = some oe ∧ Zc cls d oe ∧ oe.data = .fields vs
theorem exK_in {P : Program} {w : World} {G : Hp} {h : Heap} {a : Addr} {cls : Value} {d : Option Addr} {oe : Obj} {vs : Array Value} (e : h.get? a = some oe) (z : Zc cls d oe) (f : oe.data = .fields vs) : ObjOk P w G h a (ExK cls d a) :=
  ⟨⟨oe, vs, e, z, f⟩, ⟨oe, e⟩, fun _ _ hh k => by
    obtain ⟨o, v, q, r⟩ := hh
    exact ⟨o, v, k o q, r⟩⟩
section
variable {X : Cx} {pins : List (Addr × Obj)} {σ : L2.St} {H : Hp} {s : Shared} {a : Addr} {oe : Obj} {vs : Array Value} {cls : Value} {d : Option Addr}
theorem keep_track (I : Inv (X.suite a ((a, oe) :: (X.pn ++ pins))) [] σ H s) (ok : X.Ok) (new : X.s_0.heap.get? a = none) (other : ∀ p, p ∈ X.pn ++ pins → p.1 ≠ a) (hz : Zc cls d oe) (hd : oe.data = .fields vs) :
    Inv X pins σ (upd H a (ExK cls d a)) s := by
  obtain ⟨hget, hnone, nloc, nfs, ncell⟩ := I.pin (a, oe) (List.mem_append_left _ List.mem_cons_self)
  have hne : ∀ {b : Addr} {o : HO}, H b = some o → b ≠ a := fun e => ne_of_none e hnone
  have up : ∀ {b : Addr} {o : HO}, H b = some o → (upd H a (ExK cls d a)) b = some o := fun e => by
    rw [upd_ne (hne e)]
    exact e
  refine ⟨ok, I.os, I.bare, ⟨I.base.keep, I.base.slot, fun b o e n x => ?_, I.base.there, fun b xs e => up (I.base.tups b xs e), fun b o u e => up (I.base.frzs b o u e), fun b ps e => ?_⟩, I.loc, I.cell, ?_, fun x c e => ?_, fun p hp => ?_, fun b u e => ?_, I.len⟩
  · have hb : b ≠ a := fun z => by
      rw [z, new] at e
      cases e
    rw [upd_ne hb]
    exact I.base.free b o e n x
  · obtain ⟨more, q⟩ := I.base.tbls b ps e
    exact ⟨more, up q⟩
  · rw [upd_ne (Ne.symm nloc)]
    exact I.free
  · have hc : c ≠ a := fun z => by
      obtain ⟨v, o, q, r⟩ := I.cell x c e
      rw [z, hget] at q
      cases q
      first
        | exact ncell _ r
        | exact ncell _ r.1
        | exact ncell _ r.2
    rw [upd_ne hc]
    exact I.freeC x c e
  · obtain ⟨q1, q2, q3, q4, q5⟩ := I.pin p (List.mem_append_left _ (List.mem_cons_of_mem _ hp))
    exact ⟨q1, by rw [upd_ne (other p hp)]; exact q2, q3, q4, q5⟩
  · by_cases hb : b = a
    · subst hb
      rw [upd_same] at e
      cases e
      exact exK_in hget hz hd
    · rw [upd_ne hb] at e
      exact (I.hok b u e).stay (fun _ _ _ q => q) (fun _ q => up q) fun _ _ q => up q
end
def wHeld (K : PySem.W.Frag) (c : Value) (i : Nat) (ts : Addr → Value → Option Addr → TS) (Wout : WX) (D : Ends) : WX := fun cls d σ H =>
  ∃ b, PySem.W.exmOne K cls c = some b ∧ (b = false → Wout cls d σ H) ∧
    (b = true → ∀ a, H a = none → ts a cls d { nx := fun σ' G => D.nx (σ'.set i none) (upd G a (ExK cls d a)), rt := fun _ _ => False, bk := fun _ _ => False, ct := fun _ _ => False } (σ.set i (some (.ref a))) H)
theorem ps_try_held {X : Cx} {x n : Str} {c : Value} {i : Nat} {body suite : List Stmt} {b₀ : Stmt} {np pos pos' : Pos} {tb : WX → TS} {ts : Addr → Value → Option Addr → TS} {Wout : WX} (hex : X.ex = []) (hs : X.stack = X.env :: X.outer) (hf : X.env.frame = some X.env.locals) (hN : X.N.Nodup) (hi : X.N[i]? = some n) (hln : X.env.kindOf n = some .local)
    (hc : Names X x c) (tk : Takes X Wout) (hb : ∀ (W : WX) (pn : List (Addr × Obj)) (xe : Value → Shared → Prop), Takes (X.tr pn xe) W → PassesOwn (model X.prog X.w) X.A X.env xe → PSs (X.tr pn xe) body (tb W))
    (hsu : ∀ (a : Addr) (oe : Obj) (cls : Value) (d : Option Addr) (pn : List (Addr × Obj)), Zc cls d oe → (∃ vs, oe.data = .fields vs) → PSs (X.suite a ((a, oe) :: pn)) (b₀ :: suite) (ts a cls d)) :
    PS X (.Try body [.ExceptHandler (some (.Name x np)) (some n) (b₀ :: suite) pos'] [] [] pos) (fun D σ H => tb (wHeld X.K c i ts Wout D) D σ H) := by
  refine ⟨fun pins s σ H D I h => ?_⟩
  have ok := I.ok
  have hA : X.A.frames = some (X.env :: X.outer) := by
    rw [ok.frames, hs]
  let catcher : Value → Shared → Prop := fun u s₁ => wpAny (model X.prog X.w) X.A (noteFrame u X.env) (fun _ s₂ => wpAny (model X.prog X.w) X.A (setFlight u none)
    (fun _ s₃ => wpAny (model X.prog X.w) X.A (handleBy u X.env [.ExceptHandler (some (.Name x np)) (some n) (b₀ :: suite) pos']) (SP X pins D) X.xe s₃) X.xe s₂) X.xe s₁
  have main := (hb (wHeld X.K c i ts Wout D) (X.pn ++ pins) catcher ?_ PassesOwn.looking).run [] s σ H D (I.toTry _) h
  · refine wpAny_Try_except (wpAny_mono main (fun fl s1 r => ?_) fun _ _ z => z)
    cases fl with
    | next =>
      obtain ⟨σ', G, J, q⟩ := r
      exact wpAny_execs_nil ⟨σ', G, J.ofTry ok, q⟩
    | brk =>
      obtain ⟨σ', G, J, q⟩ := r
      exact ⟨σ', G, J.ofTry ok, q⟩
    | cont =>
      obtain ⟨σ', G, J, q⟩ := r
      exact ⟨σ', G, J.ofTry ok, q⟩
    | ret u =>
      obtain ⟨v, σ', G, J, q⟩ := r
      exact ⟨v, σ', G, J.ofTry ok, q⟩
  intro u s' air
  obtain ⟨a, B, sI, ps, σ', G, cls, d, rfl, J', nb, up, sky, na, os, ag, b, eb, no, yes⟩ := air
  have J : Inv X pins σ' G sI := J'.ofTry ok
  rw [show (X.tr (X.pn ++ pins) catcher).stack = X.env :: X.outer from hs] at sky nb
  have nB : B.get? a = none := by
    rcases sky with k | k | k
    · exact k.2.1
    · exact k.2.1
    · exact k.2.1
  show wpAny (model X.prog X.w) X.A (noteFrame (.ref a) X.env) _ _ _
  refine Sky.land Zc.steady hA hf sky fun h3 f3 u3 => ?_
  have nb' : ∀ b o, sI.heap.get? b = some o → b ∉ frs X.stack → B.get? b = some o := by
    rw [hs]
    exact nb
  have J3 : Inv X pins σ' G { s' with heap := h3 } := J.landed nb' f3.1 (up.trans u3) os ag
  obtain ⟨o3, v3, g3, z3, d3⟩ := f3.there
  have nfr : a ∉ frs (X.env :: X.outer) := fun hm => by
    obtain ⟨_, o', e', nf⟩ := f3.2.2.1.mem hm
    rw [g3] at e'
    cases e'
    exact nf _ d3
  have nL : a ≠ X.env.locals := fun z => nfr (List.mem_filterMap.mpr ⟨_, List.mem_cons_self, by rw [hf, z]⟩)
  have nF : a ∉ X.fs := fun hm => by
    obtain ⟨v, hv, q⟩ := List.mem_filterMap.mp hm
    exact nfr (List.mem_filterMap.mpr ⟨v, List.mem_cons_of_mem _ hv, q⟩)
  have nI : sI.heap.get? a = none := by
    cases q : sI.heap.get? a with
    | none => rfl
    | some o =>
      have := nb a o q nfr
      rw [nB] at this
      cases this
  have n0 : X.s_0.heap.get? a = none := by
    cases q : X.s_0.heap.get? a with
    | none => rfl
    | some o =>
      obtain ⟨o', e'⟩ := J.base.there a o q (by rw [hex]; exact List.not_mem_nil)
      rw [nI] at e'
      cases e'
  have nP : ∀ p, p ∈ X.pn ++ pins → p.1 ≠ a := fun p hp z => by
    have e := (J.pin p hp).1
    rw [z, nI] at e
    cases e
  have S3 := J3.suite g3 d3 na nL nF
  refine wpAny_handleBy_cons (codeAny_handlers_test ?_) (fun q => by cases q)
  have look : PySem.W.Looks (model X.prog X.w) h3 (typeOf (.ref a)) cls := fun A' Q' E' t k q => wpAny_typeOf_ref (k _ _ g3) (by rw [z3.1]; exact q)
  have fits := PySem.W.exm_one (M := model X.prog X.w) J3.kIn look eb
  have asked : ∀ {Q' : Value → Shared → Prop} {E' : Value → Shared → Prop}, Q' c { s' with heap := h3 } → wpAny (model X.prog X.w) (X.A.mark (some (.ref a))) (eval (.Name x np) X.env) Q' E' { s' with heap := h3 } := fun q => by
    obtain ⟨g, dbg, m | ⟨m, v, nn⟩⟩ := hc
    · exact ld_glob (X := X.suite a ((a, o3) :: (X.pn ++ pins))) S3 g m q dbg
    · exact ld_blt (X := X.suite a ((a, o3) :: (X.pn ++ pins))) S3 g m v q nn dbg
  refine asked (fits.here ?_)
  cases b with
  | true =>
    refine codeAny_handlers_suite_as (HandSPX.lands_againZ f3 fun h4 f4 u4 => ?_)
    have J4 : Inv X pins σ' G { s' with heap := h4 } := J.landed nb' f4.1 ((up.trans u3).trans u4) os ag
    obtain ⟨o4, v4, g4, z4, d4⟩ := f4.there
    refine store_ok (X := X.suite a ((a, o4) :: (X.pn ++ pins))) (v := .ref a) (J4.suite g4 d4 na nL nF) hN hi (.inl hln) rfl (fun s5 S5 => ?_) (.inr hln)
    refine wpAny_mono ((hsu a o4 cls d (X.pn ++ pins) z4 ⟨_, d4⟩).run [] s5 _ G _ S5 (yes rfl a na)) (fun fl s6 r => ?_) fun _ _ z => z.elim
    cases fl with
    | next =>
      obtain ⟨σ6, G6, S6, q6⟩ := r
      exact gone_ok (keep_track S6 ok n0 nP z4 d4) hN hi hln fun s7 J7 => ⟨_, _, J7, q6⟩
    | brk =>
      obtain ⟨_, _, _, q6⟩ := r
      exact q6.elim
    | cont =>
      obtain ⟨_, _, _, q6⟩ := r
      exact q6.elim
    | ret u =>
      obtain ⟨_, _, _, _, _, q6⟩ := r
      exact q6.elim
  | false =>
    show wpAny _ X.A (handleBy (.ref a) X.env []) _ _ _
    refine wpAny_handleBy_nil ?_
    have f3' := f3
    obtain ⟨_, _, _, oe, ws, T, _, _, ge, _, de, te, _⟩ := f3'
    unfold PySem.passOn
    refine wpAny_bind (wpAny_field ge de te ?_)
    rw [if_neg (by simp)]
    have out : wpAny (model X.prog X.w) X.A (setFlight (.ref a) X.env.frame) (fun _ s4 => wpAny (model X.prog X.w) X.A (throw (.ref a) : Sem Flow) (SP X pins D) X.xe s4) X.xe { s' with heap := h3 } := by
      rw [hf]
      refine HandSPX.setFlight_upZ f3 fun h4 hold u4 => wpAny_throw (tk _ _ ?_)
      refine ⟨a, B, sI, pins, σ', G, cls, d, rfl, J, nb', (up.trans u3).trans u4, .inr (.inr ?_), na, os, ag, no rfl⟩
      rw [hs]
      exact hold
    first
      | exact wpAny_bind (wpAny_pure (wpAny_bind out))
      | exact wpAny_bind out
/-! isinstance of a kept error -/
theorem kit_kept {X : Cx} {pins : List (Addr × Obj)} {σ : L2.St} {H : Hp} {s : Shared} {a D : Addr} (I : Inv X pins σ H s) (C : ExcC X.K D) (e : H a = some (ExK (.ref D) none a)) : ∃ P : Heap → Prop, PySem.W.KitX X.K (.ref a) (.ref D) P ∧ P s.heap := by
  obtain ⟨⟨oe, vs, hg, hz, hd⟩, _, _⟩ := (show ObjOk X.prog X.w H s.heap a (ExK (.ref D) none a) from I.hok a _ e)
  have J : PySem.W.InstAt s.heap a oe D none := by
    obtain ⟨c1, c2, c3, c4⟩ := oe
    obtain ⟨z1, z2⟩ := hz
    dsimp only at z1 z2 hd
    subst z1 z2 hd
    exact ⟨hg, rfl, rfl, trivial⟩
  exact ⟨_, PySem.W.handS_kitx_exc C.hg C.hk C.hs C.hd C.ha C.hn C.ht C.hm, J⟩
def rIsK (K : PySem.W.Frag) : List V → Hp → VK → Prop := fun xs H Q => ∃ (a D : Addr) (c : V) (u : Value) (b : Bool), xs = [.ref a, c] ∧ H a = some (ExK (.ref D) none a) ∧ ExcC K D ∧ ClsV c u ∧ PySem.W.kitOne K (.ref D) u = some b ∧ Q (.bl b) H
theorem call_isK {X : Cx} : CallR X (.builtin "isinstance") (rIsK X.K) := by
  intro pins s σ H xs us Q I r h
  obtain ⟨a, D, c, u, b, rfl, ha, C, k, e, q⟩ := h
  obtain ⟨u1, u2, rfl, r1, r2⟩ := vals2 r
  cases (show u1 = Value.ref a from r1)
  cases k.eq r2
  obtain ⟨P, Z, p⟩ := kit_kept I C ha
  exact PySem.W.kia_one Z I.kIn p e (fun z => nomatch z) fun tk => ⟨.bl b, H, I.tok tk, rfl, q⟩
def rIsKT (K : PySem.W.Frag) : List V → Hp → VK → Prop := fun xs H Q => ∃ (a D tp : Addr) (cs : List V) (us : List Value) (b : Bool), xs = [.ref a, .ref tp] ∧ H a = some (ExK (.ref D) none a) ∧ ExcC K D ∧ H tp = some (.tup cs) ∧ Paired ClsV cs us ∧ PySem.W.kitAny K (.ref D) us = some b ∧ Q (.bl b) H
theorem call_isKT {X : Cx} : CallR X (.builtin "isinstance") (rIsKT X.K) := by
  intro pins s σ H xs us Q I r h
  obtain ⟨a, D, tp, cs, ws, b, rfl, ha, C, hT, k, e, q⟩ := h
  obtain ⟨u1, u2, rfl, r1, r2⟩ := vals2 r
  cases (show u1 = Value.ref a from r1)
  cases (show u2 = Value.ref tp from r2)
  obtain ⟨P, Z, p⟩ := kit_kept I C ha
  obtain ⟨_, its, rv, o, h1, h2, n, h3⟩ := (show ObjOk X.prog X.w H s.heap tp (.tup cs) from I.hok tp _ hT)
  cases ClsV.all k rv
  obtain ⟨oc, od, dt, sl⟩ := o
  simp only at h2 h3
  subst h2 h3
  exact PySem.W.kia_tup Z I.kIn p h1 e (fun z => nomatch z) fun tk => ⟨.bl b, H, I.tok tk, rfl, q⟩/-! the law's lowest terms -/
def sp__law_lowest (_ : PySem.W.Frag) : Sp := fun vs H Q _ => ∃ t b : Int, vs = [.int t, .int b] ∧ 0 ≤ t ∧ 0 < b ∧ S 4000 b ∧ ∀ H' p, Same H H' → H p = none → H' p = some (.tup [.int (frT t b), .int (frB t b)]) → Q (.ref p) H'
theorem ok__law_lowest (T : Defs K mg) (TT : Tabs T base) : FnOk P w K mg base CX0 1 T.f__law_lowest T.fd__law_lowest ["_law_top", "_law_bottom"] (sp__law_lowest K) := by
  refine T.F__law_lowest.ok sc__law_lowest (fun vs H Q E h => ?_) (fun cdv A outer s H vs Q E hr h => ?_)
  · obtain ⟨t, b, rfl, ht, hb, hs, q⟩ := h
    rfl
  · obtain ⟨t, b, rfl, ht, hb, hs, q⟩ := h
    refine ⟨_, PSs.nox (pss_cons (ps_par (i := 2) (j := 3) (by rfl) sc__law_lowest.nd rfl rfl (by decide) rfl rfl (pa_cons (pv 0) (pa_cons (pv 1) pa_nil)) (by rfl))
    (pss_cons (ps_while PassesOwn.never (pt_cmpR op_gt (pv 3) pe_int (nomark _)) (pss_one (ps_par (i := 2) (j := 3) (by rfl) sc__law_lowest.nd rfl rfl (by decide) rfl rfl (pa_cons (pv 3) (pa_cons (pe_op op_mod (pv 2) (pv 3)) pa_nil)) (by rfl))))
    (pss_one (ps_ret (pe_tup (pa_cons (pe_op op_fdivNW (pv 0) (pv 2)) (pa_cons (pe_op op_fdivNW (pv 1) (pv 2)) pa_nil))))))), ?_⟩
    refine ⟨.int t, rfl, .int b, rfl, _, _, rfl, ?_⟩
    refine while_by (fun σ H1 => H1 = H ∧ ∃ x y : Nat, σ = [some (.int t), some (.int b), some (.int (x : Nat)), some (.int (y : Nat))] ∧ Nat.gcd x y = Int.gcd t b) (fun σ _ => match σ with | [_, _, _, some (.int y)] => y.toNat | _ => 0) ⟨rfl, t.natAbs, b.natAbs, ?_, rfl⟩ ?_ ?_
    · rw [Int.natAbs_of_nonneg ht, Int.natAbs_of_nonneg (Int.le_of_lt hb)]
      rfl
    · rintro σ H1 ⟨rfl, x, y, rfl, hg⟩
      refine ⟨.int (y : Nat), rfl, _, _, rfl, rfl, _, rfl, ite2 (fun e => ?_) (fun e => ?_)⟩
      · have hy : (0 : Int) < (y : Int) := of_decide_eq_true e
        refine ⟨.int (y : Nat), rfl, .int (x : Nat), rfl, .int (y : Nat), rfl, _, _, rfl, rfl, hy, _, _, rfl, ⟨rfl, y, x % y, ?_, ?_⟩, ?_⟩
        · rfl
        · rw [gcd_step, hg]
        · show ((x : Int) % (y : Int)).toNat < ((y : Int)).toNat
          have := Int.emod_lt_of_pos (x : Int) hy
          have := Int.emod_nonneg (x : Int) (show (y : Int) ≠ 0 by omega)
          omega
      · have hy : ¬ (0 : Int) < (y : Int) := fun z => e (decide_eq_true z)
        have y0 : y = 0 := by omega
        subst y0
        rw [Nat.gcd_zero_right] at hg
        subst hg
        have hp : 0 < Int.gcd t b := Int.gcd_pos_of_ne_zero_right t (by omega)
        have hd := gcd_small (t := t) (show b ≠ 0 by omega) hs
        refine ⟨.int t, rfl, .int (Int.gcd t b : Nat), rfl, _, _, rfl, rfl, ⟨by omega, hd⟩, .int b, rfl, .int (Int.gcd t b : Nat), rfl, _, _, rfl, rfl, ⟨by omega, hd⟩, (show 2 ≤ sizeLine by decide), fun p np => ?_⟩
        refine q _ p (same_upd np) np ?_
        rw [upd_same]
        exact congrArg some (by rw [← (fr_ge t hb).1, ← (fr_ge t hb).2])
    · rintro σ H1 Q1 Q2 hQ ⟨v, hv, i, j, e1, e2, k, e3, h3⟩
      exact ⟨v, hv, i, j, e1, e2, k, e3, hQ _ _ h3⟩
/-! how far a counter is off, round upon round -/
def cntD (N s u k : Nat) (i : Nat) : Int := Sm (fun j => blw (k : Int) ((u + s * j) % N : Nat)) i * (N : Int) - i * (k : Int)
theorem Sm_apart (f : Nat → Int) (a : Nat) : ∀ b, Sm f (a + b) = Sm f a + Sm (fun v => f (a + v)) b
  | 0 => by
    show Sm f a = Sm f a + 0
    rw [Int.add_zero]
  | b + 1 => by
    show Sm f (a + b) + f (a + b) = Sm f a + (Sm (fun v => f (a + v)) b + f (a + b))
    rw [Sm_apart f a b, Int.add_assoc]
theorem cntD_per {r s t k : Nat} (ok : (Mk.counter r s t).Ok) (cop : Nat.Coprime s r) (hk : k ≤ r) (i : Nat) : cntD r s t k (i + r) = cntD r s t k i := by
  have per : ∀ j, blw (k : Int) ((t + s * (j + r)) % r : Nat) = blw (k : Int) ((t + s * j) % r : Nat) := fun j => by
    rw [Nat.mul_add, ← Nat.add_assoc, Nat.add_mul_mod_self_right]
  have e : Sm (fun j => blw (k : Int) ((t + s * j) % r : Nat)) r = k := (Sm_congr fun j _ => by rw [val_cnt ok]).trans (cnt_sum ok cop hk)
  unfold cntD
  rw [Sm_apart, Sm_win (f := fun j => blw (k : Int) ((t + s * j) % r : Nat)) per, e, Int.add_mul, Int.natCast_add, Int.add_mul, Int.mul_comm (k : Int)]
  omega
theorem cntD_best {r s t k : Nat} (ok : (Mk.counter r s t).Ok) (cop : Nat.Coprime s r) (hk : k ≤ r) {w : Int} {j : Nat} (b : Best (cntD r s t k) r w j) {N : Nat} (hN : r ≤ N) : Best (cntD r s t k) N w j := by
  have r1 : 1 ≤ r := ok.1
  have all : ∀ i, ((cntD r s t k i).natAbs : Int) ≤ w := fun i => by
    induction i using Nat.strongRecOn with
    | ind i ih =>
      by_cases h : i ≤ r
      · exact b.most i h
      · have e := cntD_per ok cop hk (i - r)
        rw [show i - r + r = i by omega] at e
        rw [e]
        exact ih _ (by omega)
  exact ⟨Nat.le_trans b.le hN, b.eq, fun i _ => all i, b.first⟩
theorem worst_eq {Ps : List Pie} {r s t k : Nat} (e : Ps[0]? = some (.make (.counter r s t) k)) (ok : (Mk.counter r s t).Ok) (cop : Nat.Coprime s r) (hk : k ≤ r) (c0 : 0 < cmL Ps) {A n : Nat} (hn : n = A + cmL Ps) {w1 : Int} {j1 : Nat} (b1 : Best (offD Ps 0 n A) n w1 j1) {w2 : Int} {j2 : Nat} (b2 : Best (cntD r s t k) r w2 j2) :
    j2 = j1 ∧ frT w2 (r : Int) = frT w1 ((n - A : Nat) : Int) ∧ frB w2 (r : Int) = frB w1 ((n - A : Nat) : Int) := by
  have ec : n - A = cmL Ps := by omega
  have d := make_dvd e
  rw [cnt_rnd] at d
  have r1 : 1 ≤ r := ok.1
  have rN : r ≤ n := by
    have := Nat.le_of_dvd c0 d
    omega
  have b3 := cntD_best ok cop hk b2 rN
  have sh := make_share e ok cop hk A
  have eo : ∀ u, ones_ Ps 0 u = Sm (fun j => blw (k : Int) ((t + s * j) % r : Nat)) u := fun u => by
    rw [← ones_sum, colL_Sm]
    exact Sm_congr fun v _ => by rw [Nat.zero_add, col_make e ok, val_cnt ok]
  have L0 : (0 : Int) < ((n - A : Nat) : Int) := by omega
  have b0 : (0 : Int) < (r : Int) := by omega
  have X := Best.cross (D := offD Ps 0 n A) (D' := cntD r s t k) L0 b0 (fun u => by
    unfold offD cntD
    rw [eo u]
    exact off_nat (s := (colL Ps 0 A (n - A)).sum) (a := (k : Int)) L0 b0 (by rw [ec]; exact sh.symm)) b1 b3
  obtain ⟨e1, e2⟩ := X
  exact ⟨e1, fr_cross b0 L0 e2⟩
/-! a nested thing's place in a tuple -/
def rTIndexD (K : PySem.W.Frag) : V → List V → Hp → VK → Prop := fun x xs H Q => ∃ (a : Addr) (y : V) (d : PyData) (ds : List PyData) (j : Nat) (z : PyData), x = V.ref a ∧ xs = [y] ∧ Dp K H (V.ref a) (.tuple ds) ∧ Dp K H y d ∧
  PySem.SeqAt.shaped (.tuple ds) = true ∧ PySem.SeqAt.shaped d = true ∧ ds[j]? = some z ∧ PyData.eqv z d = true ∧ (∀ (m : Nat) (z' : PyData), m < j → ds[m]? = some z' → PyData.eqv z' d = false) ∧ Q (.int (j : Nat)) H
theorem mt_tindexD {X : Cx} (hu : X.A.units + 65 < PySem.cLine) : MtR X "tuple.index" (rTIndexD X.K) := by
  intro pins s σ H x xs v us Q I rx rxs h
  obtain ⟨a, y, d, ds, j, z, rfl, rfl, hl, hy, sl, sd, hz, hzj, hno, q⟩ := h
  cases rx
  cases rxs with
  | cons ry rt =>
    rename_i uy ut
    cases rt
    obtain ⟨bs, r1⟩ := Dp.reads I d y uy hy ry
    have hxs : PyData.canLayAll0 ds = true := PySem.SeqAt.canLay_of_shaped sl
    have hroom : X.A.units + 1 + min (PyData.depthAll ds) d.depth < PySem.cLine := room_in_shaped sd hu
    cases hl with
    | tup hs ha =>
      obtain ⟨its, rv, ⟨⟨cls, dd, data, sls⟩, ho, hc, n, hdt⟩, hlen⟩ := I.tuple hs
      simp only at hc hdt
      subst hc hdt
      obtain ⟨as, h4⟩ := Dp.readsAll I ds _ its ha rv
      have hn : its.length = ds.length := PySem.SeqAt.ReadsAll.length ds its as h4
      have hmap : its.map (PySem.SeqAt.readOf s.heap) = ds := PySem.SeqAt.readsAll_map ds its as hxs h4
      obtain ⟨hjd, _⟩ := List.getElem?_eq_some_iff.mp hz
      have hjl : j < its.length := by omega
      have hj : j < its.toArray.size := by simpa using hjl
      have at_ : ∀ (m : Nat) (hm : m < its.toArray.size) (z' : PyData), ds[m]? = some z' → PySem.SeqAt.readOf s.heap its.toArray[m] = z' := by
        intro m hm z' hz'
        have hml : m < its.length := by simpa using hm
        rw [← hmap, List.getElem?_map, List.getElem?_eq_getElem hml] at hz'
        have e1 : PySem.SeqAt.readOf s.heap its[m] = z' := Option.some.inj (show some (PySem.SeqAt.readOf s.heap its[m]) = some z' from hz')
        simpa using e1
      refine call_meets PySem.F.slot_tuple_index ⟨_, ho, rfl⟩ PySem.F.entry_tuple_index (PySem.F.args_tuple_index_2 _ _)
        (TI.tuple_indexAt a its.toArray n dd sls uy (fun u => PyData.eqv (PySem.SeqAt.readOf s.heap u) d) j hj ?_ ?_) ⟨ho, PySem.SeqAt.items_eqAt (vs := its.toArray) (show PySem.ReadsAll s.heap its.toArray.toList ds as from h4) r1 hxs (PySem.SeqAt.canLay_of_shaped sd) hroom, ?_⟩
      · show PyData.eqv (PySem.SeqAt.readOf s.heap its.toArray[j]) d = true
        rw [at_ j hj z hz]
        exact hzj
      · intro m hm hmj
        have hmd : m < ds.length := by
          have : m < its.length := by simpa using hm
          omega
        show PyData.eqv (PySem.SeqAt.readOf s.heap its.toArray[m]) d = false
        rw [at_ m hm _ (List.getElem?_eq_getElem hmd)]
        exact hno m _ hmj (List.getElem?_eq_getElem hmd)
      · exact ⟨.int (j : Nat), H, I.tok _, ⟨_, rfl⟩, q⟩
/-! tuple(l), and a method of a tuple: the very object is told -/
def rTupF (K : PySem.W.Frag) : List V → Hp → VK → Prop := fun xs H Q => ∃ p ys, xs = [.ref p] ∧ SqL K H p ys ∧ ∀ l ob, H l = none → ob.dict = none → ob.cls = .type "tuple" → Q (.ref l) (upd H l (tupO (some ob) ys))
theorem call_tupleF {X : Cx} : CallR X (.type "tuple") (rTupF X.K) := by
  intro pins s σ H xs us Q I r h
  obtain ⟨p, ys, rfl, hq, q⟩ := h
  obtain ⟨u, rfl, rx⟩ := vals1 r
  cases rx
  obtain ⟨its, r', pl, hz⟩ := I.list hq
  have hl := r'.length
  refine call_tuple_list pl.isList (fun h' kp => ?_) (by simp only [List.size_toArray] <;> omega)
  have J : Inv X pins σ H { s with heap := h' } := I.kept (t' := s.toks) kp
  have J2 : Inv X pins σ (upd H h'.objs.size (tupO (some { cls := .type "tuple", data := .seq its.toArray }) ys)) { s with heap := h'.push { cls := .type "tuple", data := .seq its.toArray } } :=
    J.laid (t' := s.toks) (fun b o e => Heap.get?_push_of_some _ e) (Nat.le_refl _) ⟨Heap.get?_push_size _ rfl, hz, its, r', IsTup.new _ _⟩
  exact ⟨.ref h'.objs.size, _, J2, rfl, q _ _ (J.hok.fresh (Nat.le_refl _)) rfl rfl⟩
def tTM (r : V → List V → Hp → VK → Prop) (to : TE) (t : TA) : TE := fun σ H Q => to σ H fun x H1 => (∃ p ob xs, x = .ref p ∧ ob.dict = none ∧ ob.cls = .type "tuple" ∧ H1 p = some (tupO (some ob) xs)) ∧ t σ H1 fun xs H2 => r x xs H2 Q
theorem pe_tm {X : Cx} {id : String} {name : Str} {r : V → List V → Hp → VK → Prop} {o e : Expr} {es : List Expr} {to : TE} {t : TA} {apos cpos : Pos} (slot : Slot "tuple" name id) (hty : typeOf (.builtin id) = pure (.type "method_descriptor")) (hm : MtR X id r) (ho : PE X o to) (ha : PA X (e :: es) t) (h1 : attributeBase o name X.env (eval o X.env) = eval o X.env := by rfl) (h2 : ((backTo cpos (starEach (e :: es) X.env)).all (fun x => !x.1) && (backToKw cpos (keywordEach [] X.env)).all (fun x => x.1.isSome) && decide ((e :: es).length + ([] : List Keyword).length + (if ([] : List Keyword).isEmpty then 0 else 1) < 30)) = true := by rfl) (h3 : (apos.endLine == cpos.line) = true := by rfl) (h4 : starEach (e :: es) X.env = (false, eval e X.env) :: starEach es X.env := by rfl) (h5 : (backTo cpos (starEach es X.env)).any (·.1) = false := by rfl) : PE X (.Call (.Attribute o name apos) (e :: es) [] cpos) (tTM r to t) := by
  refine ⟨fun pins s σ H Q I h => wpAny_Call_method_late h1 h2 h3 rfl (thn (ho.run pins s σ H _ I h) fun v s1 ⟨x, H1, J, rv, ⟨p, ob, xs, ex, od, oc, hp⟩, q⟩ => ?_)⟩
  subst ex
  cases rv
  have hg : s1.heap.get? p = some ob := (J.hok p _ hp).1
  refine ⟨"tuple", id, PySem.F.plainAttrs_tuple, slot, hty, ⟨ob, hg, oc⟩, fun a ea => by cases ea; exact ⟨ob, hg, od⟩, ?_⟩
  have w := ha.run cpos pins s1 σ H1 _ J q
  rw [h4] at w ⊢
  refine Calls.callWith_builtin (by show (false || (backTo cpos (starEach es X.env)).any (·.1)) = false; rw [h5] <;> rfl) (Calls.evalArgs_plain ?_)
  exact thn w fun us s2 ⟨vs, H2, J2, r2, q2⟩ => hm pins s2 σ H2 (.ref p) vs (.ref p) us Q J2 rfl r2 q2
/-! pieces as nested things -/
def pieD : Pie → PyData
  | .make m k => .tuple [.str "make", mkd m, .int (k : Nat)]
  | .late a h => .tuple [.str "late", .int (a : Nat), .tuple (h.map .int)]
  | .both a b => .tuple [.str "both", .int (a : Nat), .int (b : Nat)]
  | _ => .none
def Pie.three : Pie → Prop
  | .make _ _ => True
  | .late _ _ => True
  | .both _ _ => True
  | _ => False
theorem dp_ints' {K : PySem.W.Frag} {H : Hp} : ∀ ns : List Int, DpAll K H (ns.map V.int) (ns.map PyData.int)
  | [] => .nil
  | n :: ns => .cons (.int n) (dp_ints' ns)
theorem pieD_dp {K : PySem.W.Frag} {H : Hp} {P : Pie} {v : V} (t : P.three) (h : PieAt H P v) : Dp K H v (pieD P) := by
  cases P with
  | make m k =>
    obtain ⟨a, x, rfl, e, hm⟩ := h
    exact .tup (SqT.mk e) (.cons (.str _) (.cons (Tg.dp (p := fun _ => False) _ _ (mk_tg (fun _ _ _ z => z) hm)) (.cons (.int _) .nil)))
  | late a ah =>
    obtain ⟨a, b, rfl, e, e2⟩ := h
    exact .tup (SqT.mk e) (.cons (.str _) (.cons (.int _) (.cons (.tup (SqT.mk e2) (dp_ints' ah)) .nil)))
  | both a b =>
    obtain ⟨a, rfl, e⟩ := h
    exact .tup (SqT.mk e) (.cons (.str _) (.cons (.int _) (.cons (.int _) .nil)))
  | _ => exact t.elim
theorem pis_dp {K : PySem.W.Frag} {H : Hp} {Ps : List Pie} {vs : List V} (h : PisAt H Ps vs) (t : ∀ P, P ∈ Ps → P.three) : DpAll K H vs (Ps.map pieD) := by
  induction h with
  | nil => exact .nil
  | cons a _ ih => exact .cons (pieD_dp (t _ List.mem_cons_self) a) (ih fun P hP => t P (List.mem_cons_of_mem _ hP))
theorem gd_nat {n : Nat} (h : n ≤ 100000) : gd 21 (.int (n : Nat)) = true := decide_eq_true (n21 h)
theorem dep_ints : ∀ ns : List Int, PyData.depthAll (ns.map PyData.int) = 0
  | [] => rfl
  | n :: ns => by
    show PyData.depthAll (.int n :: ns.map PyData.int) = 0
    simp only [PyData.depthAll, PyData.depth, dep_ints ns]
    rfl
theorem pieD_gd {P : Pie} {i n : Nat} (t : P.three) (ok : P.Ok i n) (hi : i ≤ 24) (hn : n ≤ 24) : gd 21 (pieD P) = true ∧ (pieD P).depth ≤ 8 := by
  cases P with
  | make m k =>
    have b := mkd_bd ok.1.1
    have d := ok.1.2.2.1
    have bd := b.dp
    refine ⟨?_, ?_⟩
    · show gd 21 (.tuple _) = true
      simp only [gd]
      refine gdA_all.mpr fun x hx => ?_
      simp only [List.mem_cons, List.not_mem_nil, or_false] at hx
      rcases hx with rfl | rfl | rfl
      · decide +kernel
      · exact b.g
      · exact gd_nat (by have := ok.2; omega)
    · show (PyData.tuple _).depth ≤ 8
      simp only [PyData.depth, PyData.depthAll]
      omega
  | late a ah =>
    obtain ⟨h1, h2, h3⟩ := ok
    refine ⟨?_, ?_⟩
    · show gd 21 (.tuple _) = true
      simp only [gd]
      refine gdA_all.mpr fun x hx => ?_
      simp only [List.mem_cons, List.not_mem_nil, or_false] at hx
      rcases hx with rfl | rfl | rfl
      · decide +kernel
      · exact gd_nat (by omega)
      · simp only [gd]
        refine gdA_all.mpr fun y hy => ?_
        obtain ⟨z, hz, rfl⟩ := List.mem_map.mp hy
        obtain ⟨q, rfl⟩ := nat_of (h3 z hz).1
        exact gd_nat (by have := (h3 _ hz).2; omega)
    · show (PyData.tuple _).depth ≤ 8
      simp only [PyData.depth, PyData.depthAll, dep_ints]
      omega
  | both a b =>
    obtain ⟨h1, h2⟩ := ok
    refine ⟨?_, ?_⟩
    · show gd 21 (.tuple _) = true
      simp only [gd]
      refine gdA_all.mpr fun x hx => ?_
      simp only [List.mem_cons, List.not_mem_nil, or_false] at hx
      rcases hx with rfl | rfl | rfl
      · decide +kernel
      · exact gd_nat (by omega)
      · exact gd_nat (by omega)
    · show (PyData.tuple _).depth ≤ 8
      simp only [PyData.depth, PyData.depthAll]
      omega
  | _ => exact t.elim
theorem depA_all {n : Nat} : ∀ {ds : List PyData}, (∀ d, d ∈ ds → d.depth ≤ n) → PyData.depthAll ds ≤ n
  | [], _ => by simp [PyData.depthAll]
  | x :: xs, h => by
    have h1 := h x List.mem_cons_self
    have h2 := depA_all (ds := xs) fun d hd => h d (List.mem_cons_of_mem _ hd)
    simp only [PyData.depthAll]
    omega
theorem gd_shaped {d : PyData} (h : gd 21 d = true) (n : d.depth ≤ 64) : PySem.SeqAt.shaped d = true := by
  unfold PySem.SeqAt.shaped
  rw [(gd_lvs d h).2, decide_eq_true n]
  rfl
theorem pis_gd {Ps : List Pie} (ok : PsOk Ps.length Ps) (n24 : Ps.length ≤ 24) (t : ∀ P, P ∈ Ps → P.three) : PySem.SeqAt.shaped (.tuple (Ps.map pieD)) = true := by
  have all : ∀ d, d ∈ Ps.map pieD → gd 21 d = true ∧ d.depth ≤ 8 := fun d hd => by
    obtain ⟨P, hP, rfl⟩ := List.mem_map.mp hd
    obtain ⟨i, hi, e⟩ := List.getElem_of_mem hP
    have o := ok i P (by rw [List.getElem?_eq_getElem hi, e])
    exact pieD_gd (t P hP) o (by omega) n24
  refine gd_shaped ?_ ?_
  · simp only [gd]
    exact gdA_all.mpr fun x hx => (all x hx).1
  · have := depA_all (n := 8) fun d hd => (all d hd).2
    simp only [PyData.depth]
    omega
/-- a machine of counters with one late piece -/
structure LatM (Ps : List Pie) (ns : List Nat) (L a : Nat) (ah : List Int) (A : Nat) : Prop where
  ok : PsOk Ps.length Ps
  len : Ps.length = L + 3
  nl : 2 ≤ ns.length ∧ ns.length ≤ L
  n24 : Ps.length ≤ 24
  n64 : ∀ x, x ∈ ns → 1 ≤ x ∧ x ≤ 64
  ct : ∀ i, i < ns.length → ∃ s u k, Ps[i]? = some (.make (.counter (ns.getD i 0) s u) k) ∧ Nat.Coprime s (ns.getD i 0) ∧ k ≤ ns.getD i 0
  mks : ∀ i, i < L → ∃ m k, Ps[i]? = some (.make m k)
  lt : Ps[L]? = some (.late a ah)
  b1 : Ps[L + 1]? = some (.both 0 L)
  b2 : Ps[L + 2]? = some (.both 0 1)
  al : a < ns.length
  c0 : 0 < cmL Ps
  hA : A ≤ ah.length
  hw : ∀ m k, Ps[a]? = some (.make m k) → ∀ p, A ≤ p → p < ah.length → ah.getD p 0 = lateW m k ah.length (cmL Ps) p
  hb : ∀ m k, Ps[a]? = some (.make m k) → A = 0 ∨ ah.getD (A - 1) 0 ≠ lateW m k ah.length (cmL Ps) (A - 1)
section
variable {Ps : List Pie} {ns : List Nat} {L a : Nat} {ah : List Int} {A : Nat}
theorem LatM.at (h : LatM Ps ns L a ah A) {j : Nat} {P : Pie} (e : Ps[j]? = some P) : (j < L ∧ ∃ m k, P = .make m k) ∨ (j = L ∧ P = .late a ah) ∨ (j = L + 1 ∧ P = .both 0 L) ∨ (j = L + 2 ∧ P = .both 0 1) := by
  have jl := (List.getElem?_eq_some_iff.mp e).1
  have := h.len
  rcases Nat.lt_or_ge j L with z | z
  · obtain ⟨m, k, e2⟩ := h.mks j z
    rw [e] at e2
    cases e2
    exact .inl ⟨z, m, k, rfl⟩
  · obtain rfl | rfl | rfl : j = L ∨ j = L + 1 ∨ j = L + 2 := by omega
    · exact .inr (.inl ⟨rfl, by have := h.lt; rw [e] at this; cases this; rfl⟩)
    · exact .inr (.inr (.inl ⟨rfl, by have := h.b1; rw [e] at this; cases this; rfl⟩))
    · exact .inr (.inr (.inr ⟨rfl, by have := h.b2; rw [e] at this; cases this; rfl⟩))
theorem LatM.three (h : LatM Ps ns L a ah A) (P : Pie) (hP : P ∈ Ps) : P.three := by
  obtain ⟨i, hi, e⟩ := List.getElem_of_mem hP
  rcases h.at (j := i) (P := P) (by rw [List.getElem?_eq_getElem hi, e]) with ⟨_, m, k, rfl⟩ | ⟨_, rfl⟩ | ⟨_, rfl⟩ | ⟨_, rfl⟩ <;> trivial
theorem LatM.rep (h : LatM Ps ns L a ah A) : Rep Ps (A + cmL Ps) A := by
  obtain ⟨m, k, e⟩ := h.mks a (by have := h.al; have := h.nl; omega)
  have o := (h.ok a _ e).1.1
  refine late_go h.ok h.lt e o (fun j P eP ji => ?_) h.c0 h.hA (h.hw m k e) (h.hb m k e)
  rcases h.at eP with ⟨_, m, k, rfl⟩ | ⟨z, rfl⟩ | ⟨_, rfl⟩ | ⟨_, rfl⟩
  · rfl
  · exact absurd z ji
  · rfl
  · rfl
end
theorem fr_neq {K : PySem.W.Frag} {H : Hp} {a b : Addr} {x y u v : Int} {Q : VK} (ha : H a = some (.tup [.int (frT x y), .int (frB x y)])) (hb : H b = some (.tup [.int (frT u v), .int (frB u v)])) (hy : 0 < y) (hv : 0 < v) (e : x * v = u * y) (q : Q (.bl false) H) : rNeD K (.ref a) (.ref b) H Q := by
  obtain ⟨f1, f2⟩ := fr_cross hy hv e
  rw [f1, f2] at ha
  refine ⟨_, _, .tup (SqT.mk ha) (.cons (.int _) (.cons (.int _) .nil)), .tup (SqT.mk hb) (.cons (.int _) (.cons (.int _) .nil)), rfl, rfl, ?_⟩
  rw [PySem.SeqAt.eqv_refl _ rfl]
  exact q
/-! the law's own rounds and counters -/
def sp__law_lcm (_ : PySem.W.Frag) : Sp := fun vs H Q _ => ∃ a b : Nat, vs = [.int (a : Nat), .int (b : Nat)] ∧ 1 ≤ a ∧ 1 ≤ b ∧ b ≤ 100000 ∧ a ≤ 100000000 ∧ Q (.int (Nat.lcm a b : Nat)) H
theorem ok__law_lcm (T : Defs K mg) (TT : Tabs T base) : FnOk P w K mg base CX0 1 T.f__law_lcm T.fd__law_lcm ["_law_one", "_law_other"] (sp__law_lcm K) := by
  refine T.F__law_lcm.ok sc__law_lcm (fun vs H Q E h => ?_) (fun cdv A outer s H vs Q E hr h => ?_)
  · obtain ⟨a, b, rfl, ha, hb, hb2, ha2, q⟩ := h
    rfl
  · obtain ⟨a, b, rfl, ha, hb, hb2, ha2, q⟩ := h
    refine ⟨_, PSs.nox (pss_cons (ps_par (i := 2) (j := 3) (by rfl) sc__law_lcm.nd rfl rfl (by decide) rfl rfl (pa_cons (pv 0) (pa_cons (pv 1) pa_nil)) (by rfl))
    (pss_cons (ps_while PassesOwn.never (pt_cmpR op_gt (pv 3) pe_int (nomark _)) (pss_one (ps_par (i := 2) (j := 3) (by rfl) sc__law_lcm.nd rfl rfl (by decide) rfl rfl (pa_cons (pv 3) (pa_cons (pe_op op_mod (pv 2) (pv 3)) pa_nil)) (by rfl))))
    (pss_one (ps_ret (pe_op op_fdiv (pe_op op_mul (pv 0) (pv 1)) (pv 2)))))), ?_⟩
    refine ⟨.int (a : Nat), rfl, .int (b : Nat), rfl, _, _, rfl, ?_⟩
    refine while_by (fun σ H1 => H1 = H ∧ ∃ x y : Nat, σ = [some (.int (a : Nat)), some (.int (b : Nat)), some (.int (x : Nat)), some (.int (y : Nat))] ∧ Nat.gcd x y = Nat.gcd a b) (fun σ _ => match σ with | [_, _, _, some (.int y)] => y.toNat | _ => 0) ⟨rfl, a, b, rfl, rfl⟩ ?_ ?_
    · rintro σ H1 ⟨rfl, x, y, rfl, hg⟩
      refine ⟨.int (y : Nat), rfl, _, _, rfl, rfl, _, rfl, ite2 (fun e => ?_) (fun e => ?_)⟩
      · have hy : (0 : Int) < (y : Int) := of_decide_eq_true e
        refine ⟨.int (y : Nat), rfl, .int (x : Nat), rfl, .int (y : Nat), rfl, _, _, rfl, rfl, hy, _, _, rfl, ⟨rfl, y, x % y, ?_, ?_⟩, ?_⟩
        · rfl
        · rw [gcd_step, hg]
        · show ((x : Int) % (y : Int)).toNat < ((y : Int)).toNat
          have := Int.emod_lt_of_pos (x : Int) hy
          have := Int.emod_nonneg (x : Int) (show (y : Int) ≠ 0 by omega)
          omega
      · have hy : ¬ (0 : Int) < (y : Int) := fun z => e (decide_eq_true z)
        have y0 : y = 0 := by omega
        subst y0
        rw [Nat.gcd_zero_right] at hg
        subst hg
        have hp : 0 < Nat.gcd a b := Nat.gcd_pos_of_pos_left b ha
        have hl : Nat.gcd a b ≤ b := Nat.le_of_dvd hb (Nat.gcd_dvd_right a b)
        refine ⟨.int (a : Nat), rfl, .int (b : Nat), rfl, _, _, rfl, rfl, .inr ⟨by omega, by omega⟩, .int (Nat.gcd a b : Nat), rfl, _, _, rfl, rfl, ⟨by omega, by omega⟩, ?_⟩
        have e : ((a : Nat) : Int) * (b : Nat) / ((Nat.gcd a b : Nat) : Int) = ((Nat.lcm a b : Nat) : Int) := by
          unfold Nat.lcm
          rw [Int.natCast_ediv, Int.natCast_mul]
        try dsimp only
        rw [e]
        exact q
    · rintro σ H1 Q1 Q2 hQ ⟨v, hv, i, j, e1, e2, k, e3, h3⟩
      exact ⟨v, hv, i, j, e1, e2, k, e3, hQ _ _ h3⟩
def sp__law_counter (_ : PySem.W.Frag) : Sp := fun vs H Q _ => ∃ (p : Addr) (n N : Nat), vs = [.ref p, .int (N : Nat)] ∧ Bx H p n ∧ n < 900000000 ∧ 1 ≤ N ∧ N ≤ 64 ∧
  ∀ H' t (s u : Nat), But p H H' → Bx H' p (n + 2) → H' t = some (.tup [.str "counter", .int (N : Nat), .int (s : Nat), .int (u : Nat)]) → 1 ≤ s → s ≤ N → Nat.Coprime s N → u < N → Q (.ref t) H'
theorem ok__law_counter (T : Defs K mg) (TT : Tabs T base) : FnOk P w K mg base CX0 2 T.f__law_counter T.fd__law_counter ["_law_box_here", "_law_many"] (sp__law_counter K) := by
  have G__law_take : FnOk P w K mg base CX0 1 T.f__law_take T.fd__law_take ["_law_box_here", "_law_many"] (sp__law_take K) := ok__law_take T TT
  have G__law_lcm : FnOk P w K mg base CX0 1 T.f__law_lcm T.fd__law_lcm ["_law_one", "_law_other"] (sp__law_lcm K) := ok__law_lcm T TT
  refine T.F__law_counter.ok sc__law_counter (fun vs H Q E h => ?_) (fun cdv A outer s H vs Q E hr h => ?_)
  · obtain ⟨p, n, N, rfl, hB, hn, N1, N64, q⟩ := h
    rfl
  · obtain ⟨p, n, N, rfl, hB, hn, N1, N64, q⟩ := h
    refine ⟨_, PSs.nox (pss_cons (ps_set (i := 2) sc__law_counter.nd rfl (.inl rfl) (pe_op op_add pe_int (pe_call G__law_take (hr.mono (by decide)) (by rfl) T.g__law_take T.F__law_take.kp T.b__law_take .nil pass0 (pa_cons (pv 0) (pa_cons (pv 1) pa_nil)))))
    (pss_cons (ps_while PassesOwn.never (pt_cmpR op_ne (pe_call G__law_lcm (hr.mono (by decide)) (by rfl) T.g__law_lcm T.F__law_lcm.kp T.b__law_lcm .nil pass0 (pa_cons (pv 2) (pa_cons (pv 1) pa_nil))) (pe_op op_mul (pv 2) (pv 1)) (nomark _)) (pss_one (ps_set (i := 2) sc__law_counter.nd rfl (.inl rfl) (pe_op op_sub (pv 2) pe_int))))
    (pss_one (ps_ret (pe_tup (pa_cons pe_str (pa_cons (pv 1) (pa_cons (pv 2) (pa_cons (pe_call G__law_take (hr.mono (by decide)) (by rfl) T.g__law_take T.F__law_take.kp T.b__law_take .nil pass0 (pa_cons (pv 0) (pa_cons (pv 1) pa_nil))) pa_nil))))))))), ?_⟩
    have hsl : sizeLine = 16777216 := by decide
    refine ⟨.ref p, rfl, .int (N : Nat), rfl, p, N, n, rfl, hB, by omega, by omega, by omega, fun H1 r c1 B1 l1 u1 => ⟨_, _, rfl, rfl, ?_⟩⟩
    obtain ⟨s0, hs0, a1, a2⟩ : ∃ s : Nat, 1 + r = (s : Int) ∧ 1 ≤ s ∧ s ≤ N := ⟨(1 + r).toNat, by omega, by omega, by omega⟩
    try dsimp only
    rw [hs0]
    refine while_by (fun σ G => G = H1 ∧ ∃ s : Nat, σ = [some (.ref p), some (.int (N : Nat)), some (.int (s : Nat))] ∧ 1 ≤ s ∧ s ≤ N) (fun σ _ => match σ with | [_, _, some (.int s)] => s.toNat | _ => 0) ⟨rfl, s0, rfl, a1, a2⟩ ?_ ?_
    · rintro σ G ⟨rfl, s, rfl, s1, sN⟩
      refine ⟨.int (s : Nat), rfl, .int (N : Nat), rfl, s, N, rfl, s1, by omega, by omega, by omega, ?_⟩
      refine ⟨.int (s : Nat), rfl, .int (N : Nat), rfl, _, _, rfl, rfl, .inl ⟨by omega, by omega⟩, rfl, _, rfl, ?_⟩
      by_cases e : Nat.lcm s N = s * N
      · refine iteNS (congrArg V.int (by rw [e, Int.natCast_mul])) ?_
        have cop : Nat.Coprime s N := by
          have g := Nat.gcd_mul_lcm s N
          rw [e] at g
          have : 0 < s * N := Nat.mul_pos s1 N1
          exact Nat.eq_of_mul_eq_mul_right this (by rw [g, Nat.one_mul])
        refine ⟨.int (N : Nat), rfl, .int (s : Nat), rfl, .ref p, rfl, .int (N : Nat), rfl, p, N, _, rfl, B1, by omega, by omega, by omega, fun H2 r2 c2 B2 l2 u2 => ⟨(show 4 ≤ sizeLine by decide), fun t nt => ?_⟩⟩
        obtain ⟨u, rfl⟩ := nat_of l2
        exact q _ t s u (c1.trans (c2.new nt)) ((B2.new nt).mono (by omega)) upd_same s1 sN cop (by omega)
      · have ne : ¬ V.int ((Nat.lcm s N : Nat) : Int) = V.int ((s : Int) * (N : Int)) := fun z => e (by
          have := V.int.inj z
          rw [← Int.natCast_mul] at this
          omega)
        have s2 : 2 ≤ s := by
          rcases Nat.lt_or_ge s 2 with z | z
          · exfalso
            obtain rfl : s = 1 := by omega
            exact e (by rw [Nat.lcm_one_left, Nat.one_mul])
          · exact z
        rw [decide_eq_false ne]
        refine iteT ⟨.int (s : Nat), rfl, _, _, rfl, rfl, ⟨rfl, s - 1, ?_, by omega, by omega⟩, ?_⟩
        · show [some (V.ref p), some (V.int (N : Nat)), some (V.int ((s : Int) - 1))] = _
          rw [show (s : Int) - 1 = ((s - 1 : Nat) : Int) by omega]
        · show ((s : Int) - 1).toNat < ((s : Int)).toNat
          omega
    · rintro σ H1 Q1 Q2 hQ ⟨v, hv, w, hw, a, b, e, h1, h2, h3, h4, w1, hw1, w2, hw2, i, j, ei, ej, cm, ru, k, ek, h6⟩
      exact ⟨v, hv, w, hw, a, b, e, h1, h2, h3, h4, w1, hw1, w2, hw2, i, j, ei, ej, cm, ru, k, ek, hQ _ _ h6⟩
def sp__law_rounds (_ : PySem.W.Frag) : Sp := fun vs H Q _ => ∃ (p : Addr) (n : Nat), vs = [.ref p] ∧ Bx H p n ∧ n < 900000000 ∧
  ∀ H' l (ns : List Nat), But p H H' → Bx H' p (n + 10) → l ≠ p → H' l = some (.lst (ns.map fun (x : Nat) => V.int x)) → 2 ≤ ns.length → ns.length ≤ 3 → (∀ x, x ∈ ns → 1 ≤ x ∧ x ≤ 64) → Q (.ref l) H'
theorem ok__law_rounds (T : Defs K mg) (TT : Tabs T base) : FnOk P w K mg base CX0 2 T.f__law_rounds T.fd__law_rounds ["_law_box_here"] (sp__law_rounds K) := by
  have G__law_take : FnOk P w K mg base CX0 1 T.f__law_take T.fd__law_take ["_law_box_here", "_law_many"] (sp__law_take K) := ok__law_take T TT
  refine T.F__law_rounds.ok sc__law_rounds (fun vs H Q E h => ?_) (fun cdv A outer s H vs Q E hr h => ?_)
  · obtain ⟨p, n, rfl, hB, hn, q⟩ := h
    rfl
  · obtain ⟨p, n, rfl, hB, hn, q⟩ := h
    refine ⟨_, PSs.nox (pss_cons (ps_set (i := 1) sc__law_rounds.nd rfl (.inl rfl) (pe_lst (pa_cons (pe_tup (pa_cons pe_int (pa_cons pe_int (pa_cons pe_int pa_nil)))) (pa_cons (pe_tup (pa_cons pe_int (pa_cons pe_int (pa_cons pe_int pa_nil)))) (pa_cons (pe_tup (pa_cons pe_int (pa_cons pe_int (pa_cons pe_int pa_nil)))) (pa_cons (pe_tup (pa_cons pe_int (pa_cons pe_int (pa_cons pe_int pa_nil)))) (pa_cons (pe_tup (pa_cons pe_int (pa_cons pe_int (pa_cons pe_int pa_nil)))) (pa_cons (pe_tup (pa_cons pe_int (pa_cons pe_int (pa_cons pe_int pa_nil)))) (pa_cons (pe_tup (pa_cons pe_int (pa_cons pe_int (pa_cons pe_int pa_nil)))) (pa_cons (pe_tup (pa_cons pe_int (pa_cons pe_int (pa_cons pe_int pa_nil)))) pa_nil))))))))))
    (pss_cons (ps_set (i := 2) sc__law_rounds.nd rfl (.inl rfl) (pe_ifExp (pt_cmpR op_eq (pe_call G__law_take (hr.mono (by decide)) (by rfl) T.g__law_take T.F__law_take.kp T.b__law_take .nil pass0 (pa_cons (pv 0) (pa_cons pe_int pa_nil))) pe_int (nomark _)) (pe_callTy call_list_of (by rfl) T.m_list bt_list (pa_cons (pe_ix ix_list (pv 1) (pe_call G__law_take (hr.mono (by decide)) (by rfl) T.g__law_take T.F__law_take.kp T.b__law_take .nil pass0 (pa_cons (pv 0) (pa_cons pe_int pa_nil))) (fun _ _ => rfl)) pa_nil)) (pe_lc (own := [("_law_turn", 3)]) (g := gName 3) (tt := tYes) rfl sc__law_rounds.nd (pi_range1 (by rfl) T.m_range (pa_cons pe_int pa_nil)) (blkOk_by (N := N__law_rounds) (sc := defScope s__law_rounds) (by decide +kernel)) (fun _ _ _ _ _ => (pg_name (i := 3) sc__law_rounds.nd rfl (.inl rfl))) (fun _ _ _ _ _ => pts_nil) (fun _ _ _ _ _ => (pe_op op_add pe_int (pe_call G__law_take (hr.mono (by decide)) (by rfl) T.g__law_take T.F__law_take.kp T.b__law_take .nil pass0 (pa_cons (pv 0) (pa_cons pe_int pa_nil))))))))
    (pss_one (ps_ret (pe_slice sl_list (pv 2) po_none (po_some (pe_op op_add pe_int (pe_call G__law_take (hr.mono (by decide)) (by rfl) T.g__law_take T.F__law_take.kp T.b__law_take .nil pass0 (pa_cons (pv 0) (pa_cons pe_int pa_nil)))))))))), ?_⟩
    have hsl : sizeLine = 16777216 := by decide
    refine ⟨(show 3 ≤ sizeLine by decide), fun t1 n1 => ?_⟩
    have x1 := same_upd n1 (o := .tup [.int 60, .int 61, .int 2])
    have y1 := upd_same (H := H) (a := t1) (o := .tup [.int 60, .int 61, .int 2])
    generalize upd H t1 (.tup [.int 60, .int 61, .int 2]) = W1 at x1 y1 ⊢
    refine ⟨(show 3 ≤ sizeLine by decide), fun t2 n2 => ?_⟩
    have x2 := same_upd n2 (o := .tup [.int 59, .int 61, .int 2])
    have y2 := upd_same (H := W1) (a := t2) (o := .tup [.int 59, .int 61, .int 2])
    generalize upd W1 t2 (.tup [.int 59, .int 61, .int 2]) = W2 at x2 y2 ⊢
    refine ⟨(show 3 ≤ sizeLine by decide), fun t3 n3 => ?_⟩
    have x3 := same_upd n3 (o := .tup [.int 63, .int 64, .int 2])
    have y3 := upd_same (H := W2) (a := t3) (o := .tup [.int 63, .int 64, .int 2])
    generalize upd W2 t3 (.tup [.int 63, .int 64, .int 2]) = W3 at x3 y3 ⊢
    refine ⟨(show 3 ≤ sizeLine by decide), fun t4 n4 => ?_⟩
    have x4 := same_upd n4 (o := .tup [.int 64, .int 43, .int 3])
    have y4 := upd_same (H := W3) (a := t4) (o := .tup [.int 64, .int 43, .int 3])
    generalize upd W3 t4 (.tup [.int 64, .int 43, .int 3]) = W4 at x4 y4 ⊢
    refine ⟨(show 3 ≤ sizeLine by decide), fun t5 n5 => ?_⟩
    have x5 := same_upd n5 (o := .tup [.int 62, .int 33, .int 8])
    have y5 := upd_same (H := W4) (a := t5) (o := .tup [.int 62, .int 33, .int 8])
    generalize upd W4 t5 (.tup [.int 62, .int 33, .int 8]) = W5 at x5 y5 ⊢
    refine ⟨(show 3 ≤ sizeLine by decide), fun t6 n6 => ?_⟩
    have x6 := same_upd n6 (o := .tup [.int 63, .int 26, .int 5])
    have y6 := upd_same (H := W5) (a := t6) (o := .tup [.int 63, .int 26, .int 5])
    generalize upd W5 t6 (.tup [.int 63, .int 26, .int 5]) = W6 at x6 y6 ⊢
    refine ⟨(show 3 ≤ sizeLine by decide), fun t7 n7 => ?_⟩
    have x7 := same_upd n7 (o := .tup [.int 45, .int 26, .int 7])
    have y7 := upd_same (H := W6) (a := t7) (o := .tup [.int 45, .int 26, .int 7])
    generalize upd W6 t7 (.tup [.int 45, .int 26, .int 7]) = W7 at x7 y7 ⊢
    refine ⟨(show 3 ≤ sizeLine by decide), fun t8 n8 => ?_⟩
    have x8 := same_upd n8 (o := .tup [.int 63, .int 64, .int 61])
    have y8 := upd_same (H := W7) (a := t8) (o := .tup [.int 63, .int 64, .int 61])
    generalize upd W7 t8 (.tup [.int 63, .int 64, .int 61]) = W8 at x8 y8 ⊢
    refine ⟨(show 8 ≤ sizeLine by decide), fun L nL => ?_⟩
    have x9 := same_upd nL (o := .lst [.ref t1, .ref t2, .ref t3, .ref t4, .ref t5, .ref t6, .ref t7, .ref t8])
    have y9 := upd_same (H := W8) (a := L) (o := .lst [.ref t1, .ref t2, .ref t3, .ref t4, .ref t5, .ref t6, .ref t7, .ref t8])
    generalize upd W8 L (.lst [.ref t1, .ref t2, .ref t3, .ref t4, .ref t5, .ref t6, .ref t7, .ref t8]) = W9 at x9 y9 ⊢
    replace y1 := x9 _ _ (x8 _ _ (x7 _ _ (x6 _ _ (x5 _ _ (x4 _ _ (x3 _ _ (x2 _ _ y1)))))))
    replace y2 := x9 _ _ (x8 _ _ (x7 _ _ (x6 _ _ (x5 _ _ (x4 _ _ (x3 _ _ y2))))))
    replace y3 := x9 _ _ (x8 _ _ (x7 _ _ (x6 _ _ (x5 _ _ (x4 _ _ y3)))))
    replace y4 := x9 _ _ (x8 _ _ (x7 _ _ (x6 _ _ (x5 _ _ y4))))
    replace y5 := x9 _ _ (x8 _ _ (x7 _ _ (x6 _ _ y5)))
    replace y6 := x9 _ _ (x8 _ _ (x7 _ _ y6))
    replace y7 := x9 _ _ (x8 _ _ y7)
    replace y8 := x9 _ _ y8
    have x0 := x1.trans (x2.trans (x3.trans (x4.trans (x5.trans (x6.trans (x7.trans (x8.trans x9)))))))
    have B0 := hB.same x0
    clear x1 x2 x3 x4 x5 x6 x7 x8 x9 n1 n2 n3 n4 n5 n6 n7 n8
    refine ⟨.ref p, rfl, p, 2, _, rfl, B0, by decide, by decide, by omega, fun G1 r1 c1 B1 l1 u1 => ?_⟩
    have c1' := (same_but x0).trans c1
    have Lp : L ≠ p := by
      obtain ⟨a, b, c, hp, _⟩ := B0
      exact ne_of y9 hp (fun z => by cases z)
    refine ⟨rfl, _, rfl, ite2 (fun _ => ?_) (fun _ => ?_)⟩
    · refine ⟨.ref L, rfl, .ref p, rfl, p, 8, _, rfl, B1, by decide, by decide, by omega, fun G2 r2 c2 B2 l2 u2 => ?_⟩
      obtain ⟨v, ev, tk, a, b, c, rfl, ht, ha, hb, hc⟩ := at_menuV (Pr := fun v => ∃ (tk : Addr) (a b c : Nat), v = .ref tk ∧ W9 tk = some (.tup [.int (a : Nat), .int (b : Nat), .int (c : Nat)]) ∧ (1 ≤ a ∧ a ≤ 64) ∧ (1 ≤ b ∧ b ≤ 64) ∧ (1 ≤ c ∧ c ≤ 64)) (xs := [.ref t1, .ref t2, .ref t3, .ref t4, .ref t5, .ref t6, .ref t7, .ref t8]) l2 u2 (fun x hx => by
        simp only [List.mem_cons, List.not_mem_nil, or_false] at hx
        rcases hx with rfl | rfl | rfl | rfl | rfl | rfl | rfl | rfl
        · exact ⟨t1, 60, 61, 2, rfl, y1, by decide, by decide, by decide⟩
        · exact ⟨t2, 59, 61, 2, rfl, y2, by decide, by decide, by decide⟩
        · exact ⟨t3, 63, 64, 2, rfl, y3, by decide, by decide, by decide⟩
        · exact ⟨t4, 64, 43, 3, rfl, y4, by decide, by decide, by decide⟩
        · exact ⟨t5, 62, 33, 8, rfl, y5, by decide, by decide, by decide⟩
        · exact ⟨t6, 63, 26, 5, rfl, y6, by decide, by decide, by decide⟩
        · exact ⟨t7, 45, 26, 7, rfl, y7, by decide, by decide, by decide⟩
        · exact ⟨t8, 63, 64, 61, rfl, y8, by decide, by decide, by decide⟩)
      have c12 := c1.trans c2
      refine ⟨L, _, _, _, rfl, rfl, SqL.mk (c12 _ _ Lp y9), ev, ?_⟩
      refine ⟨tk, _, rfl, .inr (SqT.mk (c12 _ _ (B0.ne_tup ht) ht)), fun S nS => ?_⟩
      have Sp : S ≠ p := ne_new B2 nS
      have hS : (upd G2 S (.lst [.int (a : Nat), .int (b : Nat), .int (c : Nat)])) S = some (.lst ([a, b, c].map fun (x : Nat) => V.int x)) := upd_same
      have BS := (B2.new (o := .lst [.int (a : Nat), .int (b : Nat), .int (c : Nat)]) nS).mono (show _ ≤ n + 5 by omega)
      have bS := ((same_but x0).trans c12).new (o := .lst [.int (a : Nat), .int (b : Nat), .int (c : Nat)]) nS
      have hns : ∀ x, x ∈ [a, b, c] → 1 ≤ x ∧ x ≤ 64 := fun x hx => by
        simp only [List.mem_cons, List.not_mem_nil, or_false] at hx
        omega
      have hS3 : [a, b, c].length = 3 := rfl
      generalize [a, b, c] = ns at hS hS3 hns
      generalize upd G2 S (.lst [.int (a : Nat), .int (b : Nat), .int (c : Nat)]) = GS at hS BS bS ⊢
      have hS3 : ns.length = 3 := hS3
      refine ⟨.ref S, rfl, .ref p, rfl, p, 2, _, rfl, BS, by decide, by decide, by omega, fun Z r cZ BZ lz uz => ⟨_, _, rfl, rfl, _, rfl, ?_⟩⟩
      obtain ⟨m, hm, m2, m3⟩ : ∃ m : Nat, 2 + r = (m : Int) ∧ 2 ≤ m ∧ m ≤ 3 := ⟨(2 + r).toNat, by omega, by omega, by omega⟩
      try dsimp only
      rw [hm]
      have hSZ := cZ _ _ Sp hS
      refine ⟨S, _, rfl, SqL.mk hSZ, fun C nC => ?_⟩
      rw [cut_lo _ _ (by rw [List.length_map]; omega), ← List.map_take]
      have Cp : C ≠ p := ne_new BZ nC
      exact q _ C (ns.take m) ((bS.trans cZ).new nC) ((BZ.new nC).mono (by omega)) Cp upd_same (by rw [List.length_take]; omega) (by rw [List.length_take]; omega) (fun x hx => hns x (List.mem_of_mem_take hx))
    · refine ⟨3, rfl, by decide, by decide, fun S nS => ?_⟩
      have Sp : S ≠ p := ne_new B1 nS
      refine lc_range (fun j G => ∃ ns : List Nat, ns.length = j ∧ (∀ x, x ∈ ns → 1 ≤ x ∧ x ≤ 64) ∧ But p H G ∧ Bx G p (n + 1 + j) ∧ G S = some (.lst (ns.map fun (x : Nat) => V.int x))) ⟨[], rfl, fun x h => (by cases h), ((same_but x0).trans c1).new nS, B1.new nS, upd_same⟩ (fun j G hj h => ?_) (fun G h => ?_)
      · obtain ⟨ns, ln, hx, cG, BG, hD⟩ := h
        have hj : j < 3 := hj
        refine ⟨rfl, yes_ite ?_⟩
        refine ⟨.ref p, rfl, p, 64, _, rfl, BG, by decide, by decide, by omega, fun G2 r c2 B2 l2 u2 => ⟨_, _, rfl, rfl, ?_⟩⟩
        obtain ⟨y, hy, ya, yb⟩ : ∃ y : Nat, 1 + r = (y : Int) ∧ 1 ≤ y ∧ y ≤ 64 := ⟨(1 + r).toNat, by omega, by omega, by omega⟩
        try dsimp only
        rw [hy]
        refine ⟨_, c2 _ _ Sp hD, by rw [List.length_map]; omega, ns ++ [y], by rw [List.length_append, ln]; rfl, fun x hx' => ?_, ?_, (B2.other Sp).mono (by omega), by rw [upd_same, List.map_append]; rfl⟩
        · rcases List.mem_append.mp hx' with h | h
          · exact hx x h
          · rw [List.mem_singleton.mp h]
            exact ⟨ya, yb⟩
        · have hSn : H S = none := by
            cases e : H S with
            | none => rfl
            | some o =>
              have := c1 _ _ Sp (x0 _ _ e)
              rw [nS] at this
              cases this
          exact but_newer (cG.trans c2) hSn
      obtain ⟨ns, ln, hns, bS, BS, hS⟩ := h
      have hS3 : ns.length = 3 := ln
      have BS := BS.mono (show _ ≤ n + 5 by show n + 1 + 3 ≤ n + 5; omega)
      have hS3 : ns.length = 3 := hS3
      refine ⟨.ref S, rfl, .ref p, rfl, p, 2, _, rfl, BS, by decide, by decide, by omega, fun Z r cZ BZ lz uz => ⟨_, _, rfl, rfl, _, rfl, ?_⟩⟩
      obtain ⟨m, hm, m2, m3⟩ : ∃ m : Nat, 2 + r = (m : Int) ∧ 2 ≤ m ∧ m ≤ 3 := ⟨(2 + r).toNat, by omega, by omega, by omega⟩
      try dsimp only
      rw [hm]
      have hSZ := cZ _ _ Sp hS
      refine ⟨S, _, rfl, SqL.mk hSZ, fun C nC => ?_⟩
      rw [cut_lo _ _ (by rw [List.length_map]; omega), ← List.map_take]
      have Cp : C ≠ p := ne_new BZ nC
      exact q _ C (ns.take m) ((bS.trans cZ).new nC) ((BZ.new nC).mono (by omega)) Cp upd_same (by rw [List.length_take]; omega) (by rw [List.length_take]; omega) (fun x hx => hns x (List.mem_of_mem_take hx))
/-! the law's own look at how far a counter is off -/
def sp__law_worst (_ : PySem.W.Frag) : Sp := fun vs H Q _ => ∃ (t : Addr) (N s u k : Nat), vs = [.ref t, .int (k : Nat)] ∧ H t = some (.tup [.str "counter", .int (N : Nat), .int (s : Nat), .int (u : Nat)]) ∧ 1 ≤ N ∧ N ≤ 64 ∧ s ≤ 64 ∧ u ≤ 64 ∧ k ≤ N ∧
  ∀ H' r p w j, Same H H' → H' r = some (.tup [.ref p, .int (j : Nat)]) → H' p = some (.tup [.int (frT w (N : Nat)), .int (frB w (N : Nat))]) → Best (cntD N s u k) N w j → Q (.ref r) H'
theorem Sm_01 {c : Nat → Int} (h : ∀ i, c i = 0 ∨ c i = 1) : ∀ n : Nat, 0 ≤ Sm c n ∧ Sm c n ≤ n
  | 0 => ⟨Int.le_refl 0, Int.le_refl 0⟩
  | n + 1 => by
    have ih := Sm_01 h n
    show 0 ≤ Sm c n + c n ∧ Sm c n + c n ≤ ((n + 1 : Nat) : Int)
    rcases h n with e | e <;> rw [e] <;> omega
theorem ok__law_worst (T : Defs K mg) (TT : Tabs T base) : FnOk P w K mg base CX0 2 T.f__law_worst T.fd__law_worst ["_law_maker", "_law_k"] (sp__law_worst K) := by
  have G__law_lowest : FnOk P w K mg base CX0 1 T.f__law_lowest T.fd__law_lowest ["_law_top", "_law_bottom"] (sp__law_lowest K) := ok__law_lowest T TT
  refine T.F__law_worst.ok sc__law_worst (fun vs H Q E h => ?_) (fun cdv A outer s H vs Q E hr h => ?_)
  · obtain ⟨t, N, s, u, k, rfl, ht, N1, N64, s64, u64, kN, q⟩ := h
    rfl
  · obtain ⟨t, N, s, u, k, rfl, ht, N1, N64, s64, u64, kN, q⟩ := h
    refine ⟨_, PSs.nox (pss_cons (ps_par3 (i := 2) (j := 3) (l := 4) (by rfl) sc__law_worst.nd rfl rfl rfl (by decide) (by decide) (by decide) rfl rfl rfl (pa_cons (pe_ix ix_tup (pv 0) pe_int (fun _ _ => rfl)) (pa_cons pe_int (pa_cons (pe_tup (pa_cons pe_int (pa_cons pe_int pa_nil))) pa_nil))) (by rfl))
    (pss_cons ((ps_for PassesOwn.never rfl (pi_range1 (by rfl) T.m_range (pa_cons (pv 2) pa_nil)) (pg_name (i := 5) sc__law_worst.nd rfl (.inl rfl)) (pss_cons (ps_set (i := 3) sc__law_worst.nd rfl (.inl rfl) (pe_op op_add (pv 3) (pe_callTy call_int1 (by rfl) T.m_int bt_int (pa_cons (pe_cmpR op_lt (pe_op op_mod (pe_op op_add (pe_ix ix_tup (pv 0) pe_int (fun _ _ => rfl)) (pe_op op_mul (pe_ix ix_tup (pv 0) pe_int (fun _ _ => rfl)) (pv 5))) (pv 2)) (pv 1) (nomark _)) pa_nil))))
    (pss_cons (ps_set (i := 6) sc__law_worst.nd rfl (.inl rfl) (pe_callB call_abs (by rfl) T.m_abs bt_abs (pa_cons (pe_op op_sub (pe_op op_mul (pv 3) (pv 2)) (pe_op op_mul (pe_op op_add (pv 5) pe_int) (pv 1))) pa_nil)))
    (pss_one (ps_if (pt_cmpR op_gt (pv 6) (pe_ix ix_tup (pv 4) pe_int (fun _ _ => rfl)) (nomark _)) (pss_one (ps_set (i := 4) sc__law_worst.nd rfl (.inl rfl) (pe_tup (pa_cons (pv 6) (pa_cons (pe_op op_add (pv 5) pe_int) pa_nil))))) pss_nil))))))
    (pss_one (ps_ret (pe_tup (pa_cons (pe_call G__law_lowest (hr.mono (by decide)) (by rfl) T.g__law_lowest T.F__law_lowest.kp T.b__law_lowest .nil pass0 (pa_cons (pe_ix ix_tup (pv 4) pe_int (fun _ _ => rfl)) (pa_cons (pv 2) pa_nil))) (pa_cons (pe_ix ix_tup (pv 4) pe_int (fun _ _ => rfl)) pa_nil))))))), ?_⟩
    have hsl : sizeLine = 16777216 := by decide
    refine ⟨.ref t, rfl, t, _, 1, _, rfl, rfl, SqT.mk ht, atI_nat (j := 1) rfl, (show 2 ≤ sizeLine by decide), fun b nb => ?_⟩
    have sb := same_upd nb (o := .tup [.int 0, .int 0])
    have hb := upd_same (H := H) (a := b) (o := .tup [.int 0, .int 0])
    generalize upd H b (.tup [.int 0, .int 0]) = H1 at sb hb ⊢
    have ht1 := sb _ _ ht
    refine ⟨_, _, _, rfl, .int (N : Nat), rfl, (N : Nat), rfl, by omega, by omega, for_range (fun i σ G => ∃ b w j y5 y6, σ = [some (.ref t), some (.int (k : Nat)), some (.int (N : Nat)), some (.int (Sm (fun j => blw (k : Int) ((u + s * j) % N : Nat)) i)), some (.ref b), y5, y6] ∧ Same H1 G ∧ G b = some (.tup [.int w, .int (j : Nat)]) ∧ Best (cntD N s u k) i w j) ⟨b, 0, 0, none, none, rfl, Same.refl H1, hb, Best.zero (by unfold cntD; show (0 : Int) * N - ((0 : Nat) : Int) * k = 0; simp)⟩ ?_ ?_⟩
    · rintro i σ G hi ⟨b, w, j, y5, y6, rfl, sG, hb, best⟩
      have hi : i < N := by omega
      have htG := sG _ _ ht1
      generalize hc : (fun j : Nat => blw (k : Int) ((u + s * j) % N : Nat)) = c
      have hbit : ∀ i, c i = 0 ∨ c i = 1 := fun i => by
        rw [← hc]
        exact blw_bit _ _
      have h01 := Sm_01 hbit i
      have h02 := Sm_01 hbit (i + 1)
      refine ⟨.int _, rfl, .ref t, rfl, t, _, 3, _, rfl, rfl, SqT.mk htG, atI_nat (j := 3) rfl, .ref t, rfl, t, _, 2, _, rfl, rfl, SqT.mk htG, atI_nat (j := 2) rfl, .int (0 + (i : Int)), rfl, _, _, rfl, rfl, .inl ⟨by omega, by omega⟩, _, _, rfl, rfl, .int (N : Nat), rfl, _, _, rfl, rfl, (show (0 : Int) < (N : Int) by omega), .int (k : Nat), rfl, _, _, rfl, rfl, .inr ⟨_, rfl, _, _, rfl, rfl, ?_⟩⟩
      have e1 : (if decide (((u : Int) + (s : Int) * (0 + (i : Int))) % (N : Int) < (k : Int)) = true then (1 : Int) else 0) = c i := by
        rw [← hc, Int.zero_add]
        show _ = blw (k : Int) (((u + s * i) % N : Nat) : Int)
        rw [Int.natCast_emod, Int.natCast_add, Int.natCast_mul]
        unfold blw
        by_cases z : ((u : Int) + (s : Int) * (i : Int)) % (N : Int) < (k : Int)
        · rw [if_pos (decide_eq_true z), if_pos z]
        · rw [if_neg (fun y => z (of_decide_eq_true y)), if_neg z]
      try dsimp only
      rw [e1]
      have eD : (Sm c i + c i) * (N : Int) - ((0 + (i : Int)) + 1) * (k : Int) = cntD N s u k (i + 1) := by
        unfold cntD
        rw [hc, Int.zero_add, Int.natCast_add]
        rfl
      have h03 : Sm c (i + 1) = Sm c i + c i := rfl
      refine ⟨.int (Sm c i + c i), rfl, .int (N : Nat), rfl, _, _, rfl, rfl, .inl ⟨by omega, by omega⟩, .int (0 + (i : Int)), rfl, _, _, rfl, rfl, .int (k : Nat), rfl, _, _, rfl, rfl, .inl ⟨by omega, by omega⟩, _, _, rfl, rfl, _, rfl, ?_⟩
      show gName 6 (V.int (if (Sm c i + c i) * (N : Int) - ((0 + (i : Int)) + 1) * (k : Int) < 0 then -((Sm c i + c i) * (N : Int) - ((0 + (i : Int)) + 1) * (k : Int)) else (Sm c i + c i) * (N : Int) - ((0 + (i : Int)) + 1) * (k : Int))) _ _ _
      rw [natAbs_if, eD]
      refine ⟨.int _, rfl, .ref b, rfl, b, _, 0, _, rfl, rfl, SqT.mk hb, atI_nat (j := 0) rfl, _, _, rfl, rfl, _, rfl, ite2 (fun e => ?_) (fun e => ?_)⟩
      · refine ⟨.int _, rfl, .int (0 + (i : Int)), rfl, _, _, rfl, rfl, (show 2 ≤ sizeLine by decide), fun r nr => ?_⟩
        have st := same_upd nr (o := .tup [.int ((cntD N s u k (i + 1)).natAbs : Nat), .int (0 + (i : Int) + 1)])
        refine ⟨r, _, i + 1, _, _, rfl, sG.trans st, ?_, best.more (of_decide_eq_true e)⟩
        rw [upd_same, Int.zero_add]
        rfl
      · refine ⟨b, w, j, _, _, rfl, sG, hb, best.less ?_⟩
        have := (fun z => e (decide_eq_true z) : ¬ w < ((cntD N s u k (i + 1)).natAbs : Int))
        exact Int.not_lt.mp this
    rintro σ G ⟨b, w, j, y5, y6, rfl, sG, hb, best⟩
    rw [Int.toNat_natCast] at best
    have w0 : 0 ≤ w := by
      rw [← best.eq]
      omega
    refine ⟨.ref b, rfl, b, _, 0, _, rfl, rfl, SqT.mk hb, atI_nat (j := 0) rfl, .int (N : Nat), rfl, w, (N : Nat), rfl, w0, by omega, S.mono (n := 7) (show ((N : Nat) : Int).natAbs < 2 ^ 7 by omega) (by decide), fun G2 f s2 nf hf => ?_⟩
    refine ⟨.ref b, rfl, b, _, 1, _, rfl, rfl, SqT.mk (s2 _ _ hb), atI_nat (j := 1) rfl, (show 2 ≤ sizeLine by decide), fun r nr => ?_⟩
    have st := same_upd nr (o := .tup [.ref f, .int (j : Nat)])
    exact q _ r f w j (sb.trans (sG.trans (s2.trans st))) upd_same (st _ _ hf) best
theorem none_of {t c1 c2 c3 c4 c5 : Value} (h1 : PySem.W.kitOne K t c1 = some false) (h2 : PySem.W.kitOne K t c2 = some false) (h3 : PySem.W.kitOne K t c3 = some false) (h4 : PySem.W.kitOne K t c4 = some false) (h5 : PySem.W.kitOne K t c5 = some false) : PySem.W.kitAny K t [c1, c2, c3, c4, c5] = some false :=
  kitAny_cons h1 (fun _ => kitAny_cons h2 (fun _ => kitAny_cons h3 (fun _ => kitAny_cons h4 (fun _ => kitAny_cons h5 (fun _ => rfl) (fun z => by cases z)) (fun z => by cases z)) (fun z => by cases z)) (fun z => by cases z)) (fun z => by cases z)
def sp__law_refused {K : PySem.W.Frag} {mg : Str → Option Value} (T : Defs K mg) : Sp := fun vs H Q _ => ∃ (pa : Addr) (xs : List V) (Ps : List Pie) (i : Nat) (z : Str), vs = [.str z, .ref pa, .int (i : Nat)] ∧ (∃ ob, H pa = some (tupO ob xs)) ∧ PisAt H Ps xs ∧ Ps.length ≤ 24 ∧ PsOk Ps.length Ps ∧ i < Ps.length ∧ GxR.TabG H T.P_settled_row ∧ (∀ n s, Rep Ps n s → n ≤ 8192 → False) ∧
  ∀ H', Sam H H' → Q (.bl true) H'
theorem ok__law_refused (T : Defs K mg) (TT : Tabs T base) : FnOk P w K mg base CX0 17 T.f__law_refused T.fd__law_refused ["_law_call", "_law_pieces", "_law_number"] (sp__law_refused T) := by
  have G_long_share : FnOk P w K mg base (L2.CX P w) 16 T.f_long_share T.fd_long_share ["pieces", "number"] (sp_long_share T) := ok_long_share T TT
  have G_worst_run : FnOk P w K mg base (L2.CX P w) 16 T.f_worst_run T.fd_worst_run ["pieces", "number"] (sp_worst_run T) := ok_worst_run T TT
  refine T.F__law_refused.ok sc__law_refused (fun vs H Q E h => ?_) (fun cdv A outer s H vs Q E hr h => ?_)
  · obtain ⟨pa, xs, Ps, i, z, rfl, hpa, hps, n24, ok, il, tab, no, q⟩ := h
    rfl
  · obtain ⟨pa, xs, Ps, i, z, rfl, hpa, hps, n24, ok, il, tab, no, q⟩ := h
    refine ⟨_, PSs.nox (pss_cons (ps_set (i := 3) sc__law_refused.nd rfl (.inl rfl) pe_non)
    (pss_cons (ps_try_held (i := 4) rfl rfl rfl sc__law_refused.nd rfl rfl ⟨by rfl, by decide, .inl T.g_OnesError⟩ takes0 (fun W pn xe tk pa => (pss_one (ps_if (pt_cmpR op_eq (pv 0) pe_str (nomark _)) (pss_one (ps_expr (pe_callS G_long_share (hr.mono (by decide)) (by rfl) T.g_long_share T.F_long_share.kp T.b_long_share (fun σ => passAt tk σ) (pa_cons (pv 1) (pa_cons (pv 2) pa_nil))))) (pss_one (ps_expr (pe_callS G_worst_run (hr.mono (by decide)) (by rfl) T.g_worst_run T.F_worst_run.kp T.b_worst_run (fun σ => passAt tk σ) (pa_cons (pv 1) (pa_cons (pv 2) pa_nil)))))))) (fun a oe cls d pn hz hf => (pss_one (ps_set (i := 3) sc__law_refused.nd rfl (.inl rfl) (pv 4)))))
    (pss_cons (ps_set (i := 5) sc__law_refused.nd rfl (.inl rfl) (pe_callB call_isKT (by rfl) T.m_isinstance bt_isinstance (pa_cons (pv 3) (pa_cons (pe_tup (pa_cons (pe_glob (v := .ref T.C_BadSheet) (by rfl) T.g_BadSheet rfl) (pa_cons (pe_glob (v := .ref T.C_BadText) (by rfl) T.g_BadText rfl) (pa_cons (pe_glob (v := .ref T.C_NoOne) (by rfl) T.g_NoOne rfl) (pa_cons (pe_glob (v := .ref T.C_NoSuch) (by rfl) T.g_NoSuch rfl) (pa_cons (pe_glob (v := .ref T.C_Unlike) (by rfl) T.g_Unlike rfl) pa_nil)))))) pa_nil))))
    (pss_one (ps_ret (pe_and (pe_callB call_isK (by rfl) T.m_isinstance bt_isinstance (pa_cons (pv 3) (pa_cons (pe_glob (v := .ref T.C_NoRound) (by rfl) T.g_NoRound rfl) pa_nil))) (pe_and (pe_callB call_isK (by rfl) T.m_isinstance bt_isinstance (pa_cons (pv 3) (pa_cons (pe_bltn (v := .ty "ValueError") (by rfl) T.m_ValueError bt_ValueError rfl) pa_nil))) (pe_one (pe_not (pv 5)))))))))), ?_⟩
    refine ⟨.str z, rfl, rfl, _, rfl, ite2 (fun _ => ?_) (fun _ => ?_)⟩
    · refine ⟨.ref pa, rfl, .int (i : Nat), rfl, pa, xs, Ps, i, rfl, hpa, hps, n24, ok, il, tab, fun H2 s2 _ => ?_, fun H2 t n s s2 rep n8 _ => (no n s rep n8).elim⟩
      refine ⟨true, T.xm_NoRound, fun z => (by cases z), fun _ e ne => ?_⟩
      refine ⟨.ref e, rfl, ?_⟩
      have s3 : Sam H (upd H2 e (ExK (.ref T.C_NoRound) none e)) := s2.trans (Sam.of (same_upd ne))
      have he : (upd H2 e (ExK (.ref T.C_NoRound) none e)) e = some (ExK (.ref T.C_NoRound) none e) := upd_same
      refine ⟨.ref e, rfl, (show 5 ≤ sizeLine by decide), fun tu nu => ?_⟩
      have s4 := same_upd nu (o := .tup [.ref T.C_BadSheet, .ref T.C_BadText, .ref T.C_NoOne, .ref T.C_NoSuch, .ref T.C_Unlike])
      have he4 := s4 _ _ he
      refine ⟨e, T.C_NoRound, tu, _, _, false, rfl, he4, T.xc_NoRound, upd_same, .cons (.own _) (.cons (.own _) (.cons (.own _) (.cons (.own _) (.cons (.own _) .nil)))), none_of T.xo_NoRound_BadSheet T.xo_NoRound_BadText T.xo_NoRound_NoOne T.xo_NoRound_NoSuch T.xo_NoRound_Unlike, ?_⟩
      refine ⟨.ref e, rfl, e, T.C_NoRound, _, _, true, rfl, he4, T.xc_NoRound, .own _, T.xo_NoRound_NoRound, _, rfl, iteT ?_⟩
      refine ⟨.ref e, rfl, e, T.C_NoRound, _, _, true, rfl, he4, T.xc_NoRound, .ty "ValueError", T.xv_NoRound, _, rfl, iteT ?_⟩
      exact ⟨.bl false, rfl, false, rfl, q _ (s3.trans (Sam.of s4))⟩
    · refine ⟨.ref pa, rfl, .int (i : Nat), rfl, pa, xs, Ps, i, rfl, hpa, hps, n24, ok, il, tab, fun H2 s2 _ => ?_, fun H2 t p w j n s s2 rep n8 _ _ _ => (no n s rep n8).elim⟩
      refine ⟨true, T.xm_NoRound, fun z => (by cases z), fun _ e ne => ?_⟩
      refine ⟨.ref e, rfl, ?_⟩
      have s3 : Sam H (upd H2 e (ExK (.ref T.C_NoRound) none e)) := s2.trans (Sam.of (same_upd ne))
      have he : (upd H2 e (ExK (.ref T.C_NoRound) none e)) e = some (ExK (.ref T.C_NoRound) none e) := upd_same
      refine ⟨.ref e, rfl, (show 5 ≤ sizeLine by decide), fun tu nu => ?_⟩
      have s4 := same_upd nu (o := .tup [.ref T.C_BadSheet, .ref T.C_BadText, .ref T.C_NoOne, .ref T.C_NoSuch, .ref T.C_Unlike])
      have he4 := s4 _ _ he
      refine ⟨e, T.C_NoRound, tu, _, _, false, rfl, he4, T.xc_NoRound, upd_same, .cons (.own _) (.cons (.own _) (.cons (.own _) (.cons (.own _) (.cons (.own _) .nil)))), none_of T.xo_NoRound_BadSheet T.xo_NoRound_BadText T.xo_NoRound_NoOne T.xo_NoRound_NoSuch T.xo_NoRound_Unlike, ?_⟩
      refine ⟨.ref e, rfl, e, T.C_NoRound, _, _, true, rfl, he4, T.xc_NoRound, .own _, T.xo_NoRound_NoRound, _, rfl, iteT ?_⟩
      refine ⟨.ref e, rfl, e, T.C_NoRound, _, _, true, rfl, he4, T.xc_NoRound, .ty "ValueError", T.xv_NoRound, _, rfl, iteT ?_⟩
      exact ⟨.bl false, rfl, false, rfl, q _ (s3.trans (Sam.of s4))⟩
/-! from which beat on a late piece is what it will be -/
theorem dec_blw (k x : Int) : (if decide (x < k) = true then (1 : Int) else 0) = blw k x := by
  unfold blw
  by_cases z : x < k
  · rw [if_pos (decide_eq_true z), if_pos z]
  · rw [if_neg (fun y => z (of_decide_eq_true y)), if_neg z]
def sp__law_ahead (_ : PySem.W.Frag) : Sp := fun vs H Q _ => ∃ (pa tl tb : Addr) (xs : List V) (Ps : List Pie) (v : V) (m : Mk) (k a N : Nat) (ah : List Int), vs = [.ref pa, .ref tl, .int (N : Nat)] ∧ (∃ ob, H pa = some (tupO ob xs)) ∧ xs[a]? = some v ∧ PieAt H (.make m k) v ∧ m.Ok ∧ m.dep < 5 ∧
  H tl = some (.tup [.str "late", .int (a : Nat), .ref tb]) ∧ H tb = some (.tup (ah.map V.int)) ∧ ah.length ≤ 64 ∧ 1 ≤ N ∧
  ∀ H' (A : Nat), Sam H H' → A ≤ ah.length → (∀ p, A ≤ p → p < ah.length → ah.getD p 0 = blw k (m.val (((p : Int) - ah.length) % N))) → (A = 0 ∨ ah.getD (A - 1) 0 ≠ blw k (m.val ((((A - 1 : Nat) : Int) - ah.length) % N))) → Q (.int (A : Nat)) H'
theorem ok__law_ahead (T : Defs K mg) (TT : Tabs T base) : FnOk P w K mg base CX0 6 T.f__law_ahead T.fd__law_ahead ["_law_pieces", "_law_late", "_law_many"] (sp__law_ahead K) := by
  have G_value_at : FnOk P w K mg base CX0 5 T.f_value_at T.fd_value_at ["maker", "t"] (sp_value_at K) := ok_value_at T TT
  refine T.F__law_ahead.ok sc__law_ahead (fun vs H Q E h => ?_) (fun cdv A outer s H vs Q E hr h => ?_)
  · obtain ⟨pa, tl, tb, xs, Ps, v, m, k, a, N, ah, rfl, ⟨ob, hpa⟩, hv, hP, ok, dp, htl, htb, lah, N1, q⟩ := h
    rfl
  · obtain ⟨pa, tl, tb, xs, Ps, v, m, k, a, N, ah, rfl, ⟨ob, hpa⟩, hv, hP, ok, dp, htl, htb, lah, N1, q⟩ := h
    refine ⟨_, PSs.nox (pss_cons (ps_asg (pe_slice sl_tupS (pe_ix ix_tup (pv 0) (pe_ix ix_tup (pv 1) pe_int (fun _ _ => rfl)) (fun _ _ => rfl)) (po_some pe_int) po_none) (pg_tup rfl (pgs_cons (pg_name (i := 3) sc__law_ahead.nd rfl (.inr rfl)) (pgs_cons (pg_name (i := 4) sc__law_ahead.nd rfl (.inr rfl)) pgs_nil))))
    (pss_cons (ps_set (i := 5) sc__law_ahead.nd rfl (.inr rfl) (pe_callB call_len_seq (by rfl) T.m_len bt_len (pa_cons (pe_ix ix_tup (pv 1) pe_int (fun _ _ => rfl)) pa_nil)))
    (pss_cons (ps_setLc (i := 6) (own := [("_law_place", 8)]) (g := gName 8) (tt := tYes) rfl sc__law_ahead.nd rfl rfl (sw_true rfl rfl rfl (by decide +kernel)) (pi_range1 (by rfl) T.m_range (pa_cons (pv 5) pa_nil)) (blkOk_by (N := N__law_ahead) (sc := defScope s__law_ahead) (by decide +kernel)) (fun _ _ _ _ _ => (pg_name (i := 8) sc__law_ahead.nd rfl (.inl rfl))) (fun _ _ _ _ _ => pts_nil) (fun _ _ _ _ _ => (pe_callTy call_int1 (by rfl) T.m_int bt_int (pa_cons (pe_cmpR op_lt (pe_call G_value_at (hr.mono (by decide)) (by rfl) T.g_value_at T.F_value_at.kp T.b_value_at .nil pass0 (pa_cons (pv 3) (pa_cons (pe_op op_mod (pe_op op_sub (pv 8) (pv 5)) (pv 2)) pa_nil))) (pv 4) (nomark _)) pa_nil))))
    (pss_cons (ps_set (i := 7) sc__law_ahead.nd rfl (.inl rfl) (pv 5))
    (pss_cons (ps_while PassesOwn.never (PW.pt (pw_and (pt_cmpR op_gt (pv 7) pe_int (nomark _)) (pw_and1 (pt_cmpR op_eq (pe_ix ix_tup (pe_ix ix_tup (pv 1) pe_int (fun _ _ => rfl)) (pe_op op_sub (pv 7) pe_int) (fun _ _ => rfl)) (pe_ix ix_list (pv 6) (pe_op op_sub (pv 7) pe_int) (fun _ _ => rfl)) (nomark _))))) (pss_one (ps_set (i := 7) sc__law_ahead.nd rfl (.inl rfl) (pe_op op_sub (pv 7) pe_int))))
    (pss_one (ps_ret (pv 7)))))))), ?_⟩
    have hsl : sizeLine = 16777216 := by decide
    obtain ⟨tp, x, rfl, htp, hm⟩ := hP
    refine ⟨.ref pa, rfl, .ref tl, rfl, tl, _, 1, _, rfl, rfl, SqT.mk htl, atI_nat (j := 1) rfl, pa, xs, a, .ref tp, rfl, rfl, SqO hpa, atI_nat hv, _, rfl, tp, _, rfl, htp, fun H1 c s1 hc => ?_⟩
    have hc : H1 c = some (.tup [x, .int (k : Nat)]) := hc
    have htl1 := s1 _ _ htl
    have htb1 := s1 _ _ htb
    refine ⟨c, _, rfl, SqT.mk hc, rfl, _, _, rfl, _, _, rfl, rfl, ?_⟩
    refine ⟨.ref tl, rfl, tl, _, 2, _, rfl, rfl, SqT.mk htl1, atI_nat (j := 2) rfl, tb, _, rfl, .inr (SqT.mk htb1), ?_⟩
    rw [List.length_map]
    generalize hwf : (fun p : Nat => blw (k : Int) (m.val (((p : Int) - (ah.length : Int)) % (N : Int)))) = wf
    have hq : ∀ p : Nat, blw (k : Int) (m.val (((p : Int) - (ah.length : Int)) % (N : Int))) = wf p := fun p => by rw [← hwf]
    change gName 5 (V.int ((ah.length : Nat) : Int)) [some (.ref pa), some (.ref tl), some (.int (N : Nat)), some x, some (.int (k : Nat)), none, none, none, none] H1 _
    refine ⟨.int (ah.length : Nat), rfl, (ah.length : Nat), rfl, by omega, by omega, fun D nD => ?_⟩
    refine lc_range (fun j G => Same H1 G ∧ G D = some (.lst (((List.range j).map wf).map V.int))) ⟨same_upd nD, upd_same⟩ (fun j G hj h => ?_) (fun G h => ?_)
    · obtain ⟨sG, hD⟩ := h
      refine ⟨rfl, yes_ite ?_⟩
      refine ⟨x, rfl, .int (0 + (j : Int)), rfl, .int (ah.length : Nat), rfl, _, _, rfl, rfl, .int (N : Nat), rfl, _, _, rfl, rfl, (show (0 : Int) < (N : Int) by omega), m, x, _, rfl, hm.same (s1.trans sG), ok, fun G2 s2 => ?_⟩
      refine ⟨.int (k : Nat), rfl, _, _, rfl, rfl, .inr ⟨_, rfl, _, s2 _ _ hD, by rw [List.length_map, List.length_map, List.length_range]; omega, same_newer (sG.trans s2) nD, ?_⟩⟩
      rw [upd_same, List.range_succ, List.map_append, List.map_append, List.map_singleton, List.map_singleton, ← hq j]
      try dsimp only
      rw [dec_blw, Int.zero_add]
    obtain ⟨sG, hD⟩ := h
    rw [Int.toNat_natCast] at hD
    have sHG := s1.trans sG
    have htl2 := sHG _ _ htl
    have htb2 := sHG _ _ htb
    clear hc htl1 htb1
    refine ⟨.int (ah.length : Nat), rfl, while_by (fun σ F => F = G ∧ ∃ A : Nat, σ = [some (.ref pa), some (.ref tl), some (.int (N : Nat)), some x, some (.int (k : Nat)), some (.int (ah.length : Nat)), some (.ref D), some (.int (A : Nat)), none] ∧ A ≤ ah.length ∧ ∀ p, A ≤ p → p < ah.length → ah.getD p 0 = wf p) (fun σ _ => match σ with | [_, _, _, _, _, _, _, some (.int A), _] => A.toNat | _ => 0) ⟨rfl, ah.length, rfl, Nat.le_refl _, fun p h1 h2 => by omega⟩ ?_ ?_⟩
    · rintro σ F ⟨rfl, A, rfl, hA, hp⟩
      have fin : (A = 0 ∨ ah.getD (A - 1) 0 ≠ wf (A - 1)) → Q (.int (A : Nat)) F := fun z => q F A (Sam.of sHG) hA (fun p a1 a2 => by rw [hq]; exact hp p a1 a2) (by rw [hq]; exact z)
      refine ⟨.int (A : Nat), rfl, _, _, rfl, rfl, _, rfl, ite2 (fun e => ?_) (fun e => ?_)⟩
      rotate_left
      · have e : ¬ (0 : Int) < (A : Int) := fun z => e (decide_eq_true z)
        exact iteF ⟨.int (A : Nat), rfl, fin (.inl (by omega))⟩
      have e : (0 : Int) < (A : Int) := of_decide_eq_true e
      have eA : (A : Int) - 1 = ((A - 1 : Nat) : Int) := by omega
      have i1 : atI (ah.map V.int) ((A : Int) - 1) = some (.int (ah.getD (A - 1) 0)) := by
        rw [eA]
        refine atI_nat ?_
        rw [List.getElem?_map, List.getElem?_eq_getElem (show A - 1 < ah.length by omega), getD_of (List.getElem?_eq_getElem (show A - 1 < ah.length by omega))]
        rfl
      have i2 : atI (((List.range ah.length).map wf).map V.int) ((A : Int) - 1) = some (.int (wf (A - 1))) := by
        rw [eA]
        refine atI_nat ?_
        rw [List.getElem?_map, List.getElem?_map, List.getElem?_range (by omega)]
        rfl
      refine ⟨.ref tl, rfl, tl, _, 2, _, rfl, rfl, SqT.mk htl2, atI_nat (j := 2) rfl, .int (A : Nat), rfl, _, _, rfl, rfl, tb, _, _, _, rfl, rfl, SqT.mk htb2, i1, .ref D, rfl, .int (A : Nat), rfl, _, _, rfl, rfl, D, _, _, _, rfl, rfl, SqL.mk hD, i2, rfl, _, rfl, ite2 (fun z => ?_) (fun z => ?_)⟩
      · have z := V.int.inj (of_decide_eq_true z)
        refine ⟨.int (A : Nat), rfl, _, _, rfl, rfl, ⟨rfl, A - 1, ?_, by omega, fun p h1 h2 => ?_⟩, ?_⟩
        · show [some (V.ref pa), some (V.ref tl), some (V.int (N : Nat)), some x, some (V.int (k : Nat)), some (V.int (ah.length : Nat)), some (V.ref D), some (V.int ((A : Int) - 1)), none] = _
          rw [eA]
        · rcases Nat.lt_or_ge p A with y | y
          · rw [show p = A - 1 by omega]
            exact z
          · exact hp p y h2
        · show ((A : Int) - 1).toNat < ((A : Int)).toNat
          omega
      · exact ⟨.int (A : Nat), rfl, fin (.inr fun y => z (decide_eq_true (congrArg V.int y)))⟩
    · rintro σ F Q1 Q2 mo ⟨v, hv, i, j, e1, e2, kk, e3, h⟩
      refine ⟨v, hv, i, j, e1, e2, kk, e3, ?_⟩
      cases kk with
      | false => exact mo _ _ h
      | true =>
        obtain ⟨v1, hv1, a1, ys1, i1, u1, ex1, ey1, st1, at1, v2, hv2, i2, j2, ei2, ej2, a3, ys3, i3, u3, ex3, ey3, st3, at3, v4, hv4, v5, hv5, i5, j5, ei5, ej5, a6, ys6, i6, u6, ex6, ey6, st6, at6, re, k7, ek7, h8⟩ := h
        exact ⟨v1, hv1, a1, ys1, i1, u1, ex1, ey1, st1, at1, v2, hv2, i2, j2, ei2, ej2, a3, ys3, i3, u3, ex3, ey3, st3, at3, v4, hv4, v5, hv5, i5, j5, ei5, ej5, a6, ys6, i6, u6, ex6, ey6, st6, at6, re, k7, ek7, mo _ _ h8⟩
def sp__law_shares_right {K : PySem.W.Frag} {mg : Str → Option Value} (T : Defs K mg) : Sp := fun vs H Q _ => ∃ (pa rl tl tb : Addr) (xs : List V) (Ps : List Pie) (ns : List Nat) (L a : Nat) (ah : List Int) (A : Nat), vs = [.ref pa, .ref rl, .ref tl] ∧ (∃ ob, ob.dict = none ∧ ob.cls = .type "tuple" ∧ H pa = some (tupO (some ob) xs)) ∧ PisAt H Ps xs ∧ LatM Ps ns L a ah A ∧ A + cmL Ps ≤ 8192 ∧ GxR.TabG H T.P_settled_row ∧
  H rl = some (.lst (ns.map fun (x : Nat) => V.int x)) ∧ H tl = some (.tup [.str "late", .int (a : Nat), .ref tb]) ∧ H tb = some (.tup (ah.map V.int)) ∧ ∀ H', Sam H H' → Q (.bl true) H'
theorem ok__law_shares_right (T : Defs K mg) (TT : Tabs T base) : FnOk P w K mg base CX0 17 T.f__law_shares_right T.fd__law_shares_right ["_law_pieces", "_law_rounds_here", "_law_late"] (sp__law_shares_right T) := by
  have G_long_share : FnOk P w K mg base (L2.CX P w) 16 T.f_long_share T.fd_long_share ["pieces", "number"] (sp_long_share T) := ok_long_share T TT
  have G__law_lowest : FnOk P w K mg base CX0 1 T.f__law_lowest T.fd__law_lowest ["_law_top", "_law_bottom"] (sp__law_lowest K) := ok__law_lowest T TT
  have G__law_lcm : FnOk P w K mg base CX0 1 T.f__law_lcm T.fd__law_lcm ["_law_one", "_law_other"] (sp__law_lcm K) := ok__law_lcm T TT
  have G_worst_run : FnOk P w K mg base (L2.CX P w) 16 T.f_worst_run T.fd_worst_run ["pieces", "number"] (sp_worst_run T) := ok_worst_run T TT
  have G__law_worst : FnOk P w K mg base CX0 2 T.f__law_worst T.fd__law_worst ["_law_maker", "_law_k"] (sp__law_worst K) := ok__law_worst T TT
  refine T.F__law_shares_right.ok sc__law_shares_right (fun vs H Q E h => ?_) (fun cdv A outer s H vs Q E hr h => ?_)
  · obtain ⟨pa, rl, tl, tb, xs, Ps, ns, L, a, ah, A0, rfl, ⟨ob, od, oc, hpa⟩, hps, lm, n8, tab, hrl, htl, htb, q⟩ := h
    rfl
  · obtain ⟨pa, rl, tl, tb, xs, Ps, ns, L, a, ah, A0, rfl, ⟨ob, od, oc, hpa⟩, hps, lm, n8, tab, hrl, htl, htb, q⟩ := h
    refine ⟨_, PSs.nox (pss_cons ((ps_for PassesOwn.never rfl (pi_enum (by rfl) T.m_enumerate (pa_cons (pv 1) pa_nil)) (pg_tup rfl (pgs_cons (pg_name (i := 3) sc__law_shares_right.nd rfl (.inl rfl)) (pgs_cons (pg_name (i := 4) sc__law_shares_right.nd rfl (.inl rfl)) pgs_nil))) (pss_one (ps_if (pt_cmpR (op_neD hr.units) (pe_call G_long_share (hr.mono (by decide)) (by rfl) T.g_long_share T.F_long_share.kp T.b_long_share .nil passL (pa_cons (pv 0) (pa_cons (pv 3) pa_nil))) (pe_call G__law_lowest (hr.mono (by decide)) (by rfl) T.g__law_lowest T.F__law_lowest.kp T.b__law_lowest .nil pass0 (pa_cons (pe_ix ix_tup (pe_ix ix_tup (pv 0) (pv 3) (fun _ _ => rfl)) pe_int (fun _ _ => rfl)) (pa_cons (pv 4) pa_nil))) (nomark _)) (pss_one (ps_ret pe_bl)) pss_nil))))
    (pss_cons (ps_if (pt_cmpR (op_neD hr.units) (pe_call G_long_share (hr.mono (by decide)) (by rfl) T.g_long_share T.F_long_share.kp T.b_long_share .nil passL (pa_cons (pv 0) (pa_cons ((pe_tm PySem.F.slot_tuple_index PySem.F.type_tuple_index (mt_tindexD (u65g hr)) (pv 0) (pa_cons (pv 2) pa_nil))) pa_nil))) (pe_call G__law_lowest (hr.mono (by decide)) (by rfl) T.g__law_lowest T.F__law_lowest.kp T.b__law_lowest .nil pass0 (pa_cons (pe_ix ix_tup (pe_ix ix_tup (pv 0) (pe_ix ix_tup (pv 2) pe_int (fun _ _ => rfl)) (fun _ _ => rfl)) pe_int (fun _ _ => rfl)) (pa_cons (pe_ix ix_list (pv 1) (pe_ix ix_tup (pv 2) pe_int (fun _ _ => rfl)) (fun _ _ => rfl)) pa_nil))) (nomark _)) (pss_one (ps_ret pe_bl)) pss_nil)
    (pss_cons (ps_set (i := 5) sc__law_shares_right.nd rfl (.inl rfl) (pe_op op_mul (pe_ix ix_list (pv 1) pe_int (fun _ _ => rfl)) (pe_ix ix_list (pv 1) pe_int (fun _ _ => rfl))))
    (pss_cons (ps_if (pt_cmpR op_eq (pe_call G__law_lcm (hr.mono (by decide)) (by rfl) T.g__law_lcm T.F__law_lcm.kp T.b__law_lcm .nil pass0 (pa_cons (pe_ix ix_list (pv 1) pe_int (fun _ _ => rfl)) (pa_cons (pe_ix ix_list (pv 1) pe_int (fun _ _ => rfl)) pa_nil))) (pv 5) (nomark _)) (pss_one (ps_if (pt_cmpR (op_neD hr.units) (pe_call G_long_share (hr.mono (by decide)) (by rfl) T.g_long_share T.F_long_share.kp T.b_long_share .nil passL (pa_cons (pv 0) (pa_cons (pe_op op_sub (pe_callB call_len_seq (by rfl) T.m_len bt_len (pa_cons (pv 0) pa_nil)) pe_int) pa_nil))) (pe_call G__law_lowest (hr.mono (by decide)) (by rfl) T.g__law_lowest T.F__law_lowest.kp T.b__law_lowest .nil pass0 (pa_cons (pe_op op_mul (pe_ix ix_tup (pe_ix ix_tup (pv 0) pe_int (fun _ _ => rfl)) pe_int (fun _ _ => rfl)) (pe_ix ix_tup (pe_ix ix_tup (pv 0) pe_int (fun _ _ => rfl)) pe_int (fun _ _ => rfl))) (pa_cons (pv 5) pa_nil))) (nomark _)) (pss_one (ps_ret pe_bl)) pss_nil)) pss_nil)
    (pss_one (ps_ret (pe_cmpR (op_eqD hr.units) (pe_call G_worst_run (hr.mono (by decide)) (by rfl) T.g_worst_run T.F_worst_run.kp T.b_worst_run .nil passL (pa_cons (pv 0) (pa_cons pe_int pa_nil))) (pe_call G__law_worst (hr.mono (by decide)) (by rfl) T.g__law_worst T.F__law_worst.kp T.b__law_worst .nil pass0 (pa_cons (pe_ix ix_tup (pe_ix ix_tup (pv 0) pe_int (fun _ _ => rfl)) pe_int (fun _ _ => rfl)) (pa_cons (pe_ix ix_tup (pe_ix ix_tup (pv 0) pe_int (fun _ _ => rfl)) pe_int (fun _ _ => rfl)) pa_nil))) (nomark _)))))))), ?_⟩
    have hsl : sizeLine = 16777216 := by decide
    have rep := lm.rep
    have ec : A0 + cmL Ps - A0 = cmL Ps := by omega
    have nev : ∀ {X : Prop}, Nev Ps → X := fun no => absurd rep.eq.symm (no A0 (A0 + cmL Ps) rep.lt n8)
    have hlen := lm.len
    have hnl := lm.nl
    have hal := lm.al
    have C0 : (0 : Int) < ((A0 + cmL Ps - A0 : Nat) : Int) := by have := lm.c0; omega
    have lx := hps.len
    have gx : ∀ {i : Nat} {m : Mk} {k : Nat} {G : Hp}, Sam H G → Ps[i]? = some (.make m k) → ∃ t x, xs[i]? = some (.ref t) ∧ G t = some (.tup [.str "make", x, .int (k : Nat)]) ∧ MkAt G m x := fun {i m k G} sG e => by
      obtain ⟨v, hv, hP⟩ := hps.get e
      obtain ⟨t, x, rfl, ht, hm⟩ := hP
      exact ⟨t, x, hv, sG.tup ht, hm.keep fun a xs e => sG.tup e⟩
    have nsG : ∀ {i : Nat}, i < ns.length → ns[i]? = some (ns.getD i 0) := fun {i} hi => by
      rw [List.getElem?_eq_getElem hi, getD_of (List.getElem?_eq_getElem hi)]
    refine ⟨.ref rl, rfl, rl, _, rfl, SqL.mk hrl, for_it (walk_enum (xs := ns.map fun (x : Nat) => V.int x)) (fun i σ G => ∃ y3 y4 y5, σ = [some (.ref pa), some (.ref rl), some (.ref tl), y3, y4, y5] ∧ Sam H G) ⟨none, none, none, rfl, Sam.refl H⟩ ?_ ?_ ?_⟩
    · rintro i σ G hi ⟨y3, y4, y5, rfl, sG⟩
      exact SqL.mk (sG.lst hrl)
    · rintro i x σ G G1 hi ⟨y3, y4, y5, rfl, sG⟩ ⟨t, x1, x2, rfl, nt, rfl, g1, g2⟩
      rw [List.length_map] at hi
      have ex1 : x1 = .int (i : Nat) := (Option.some.inj g1).symm
      have ex2 : x2 = .int (ns.getD i 0 : Nat) := by
        have g2 : (ns.map fun (x : Nat) => V.int x)[i]? = some x2 := g2
        rw [List.getElem?_map, nsG hi] at g2
        exact (Option.some.inj g2).symm
      subst ex1 ex2
      have s1 := sG.trans (Sam.of (same_upd nt (o := .tup [.int (i : Nat), .int (ns.getD i 0 : Nat)])))
      obtain ⟨s, u, k, eP, cop, hk⟩ := lm.ct i hi
      have okm := (lm.ok i _ eP).1.1
      have n1 : 1 ≤ ns.getD i 0 := okm.1
      have n64 : ns.getD i 0 ≤ 64 := okm.2.1
      refine ⟨t, _, rfl, SqT.mk upd_same, rfl, _, _, rfl, _, _, rfl, rfl, ?_⟩
      refine ⟨.ref pa, rfl, .int (i : Nat), rfl, pa, xs, Ps, i, rfl, ⟨_, s1.obj _ _ (fun _ z => by cases z) hpa⟩, hps.keep (fun a xs e => s1.tup e), lm.n24, lm.ok, by omega, s1.tabG tab, fun _ _ no => nev no, fun G2 sh n' s' s2 rep' _ hsh => ?_⟩
      obtain ⟨rfl, rfl⟩ := rep'.uniq rep
      obtain ⟨tt, x, hxt, htt, hmm⟩ := gx (s1.trans s2) eP
      refine ⟨.ref pa, rfl, .int (i : Nat), rfl, pa, xs, _, .ref tt, rfl, rfl, SqO ((s1.trans s2).obj _ _ (fun _ z => by cases z) hpa), atI_nat hxt, tt, _, 2, _, rfl, rfl, SqT.mk htt, atI_nat (j := 2) rfl, .int (ns.getD i 0 : Nat), rfl, (k : Nat), (ns.getD i 0 : Nat), rfl, by omega, by omega, S.mono (n := 7) (show ((ns.getD i 0 : Nat) : Int).natAbs < 2 ^ 7 by omega) (by decide), fun G3 f s3 nf hf => ?_⟩
      refine fr_neq (s3 _ _ hsh) hf C0 (by omega) (by rw [ec]; exact make_share eP okm cop hk _) ⟨_, rfl, iteF ⟨_, _, _, rfl, (s1.trans s2).trans (Sam.of s3)⟩⟩
    rintro σ G ⟨y3, y4, y5, rfl, sG⟩
    have hpaG := sG.obj _ _ (fun _ z => by cases z) hpa
    have hpsG : PisAt G Ps xs := hps.keep (fun a xs e => sG.tup e)
    have htlG := sG.tup htl
    have htbG := sG.tup htb
    have LP : (Ps.map pieD)[L]? = some (pieD (.late a ah)) := by rw [List.getElem?_map, lm.lt]; rfl
    have okL := lm.ok L _ lm.lt
    have gL := pieD_gd (P := .late a ah) trivial okL (by have := lm.n24; omega) lm.n24
    have shL := gd_shaped gL.1 (by omega)
    have dL : Dp K G (.ref tl) (pieD (.late a ah)) := pieD_dp (P := .late a ah) trivial ⟨tl, tb, rfl, htlG, htbG⟩
    refine ⟨.ref pa, rfl, .ref pa, rfl, ?_⟩
    refine ⟨⟨pa, ob, xs, rfl, od, oc, hpaG⟩, .ref tl, rfl, pa, .ref tl, pieD (.late a ah), Ps.map pieD, L, pieD (.late a ah), rfl, rfl, .tup (SqO hpaG) (pis_dp hpsG lm.three), dL, pis_gd lm.ok lm.n24 lm.three, shL, LP, PySem.SeqAt.eqv_refl _ (gd_lvs _ gL.1).2, fun j z' hj e => ?_, ?_⟩
    · rw [List.getElem?_map] at e
      obtain ⟨P, eP, rfl⟩ := Option.map_eq_some_iff.mp e
      obtain ⟨m, k, e2⟩ := lm.mks j hj
      rw [eP] at e2
      cases e2
      rfl
    refine ⟨pa, xs, Ps, L, rfl, ⟨_, hpaG⟩, hpsG, lm.n24, lm.ok, by omega, sG.tabG tab, fun _ _ no => nev no, fun G2 sh n' s' s2 rep' _ hsh => ?_⟩
    obtain ⟨rfl, rfl⟩ := rep'.uniq rep
    have sG2 := sG.trans s2
    obtain ⟨s, u, k, eP, cop, hk⟩ := lm.ct a hal
    have okm := (lm.ok a _ eP).1.1
    have n1 : 1 ≤ ns.getD a 0 := okm.1
    have n64 : ns.getD a 0 ≤ 64 := okm.2.1
    obtain ⟨tt, x, hxt, htt, hmm⟩ := gx sG2 eP
    have htl2 := sG2.tup htl
    have hpa2 := sG2.obj _ _ (fun _ z => by cases z) hpa
    have hrl2 := sG2.lst hrl
    have iA : (ns.map fun (x : Nat) => V.int x)[a]? = some (.int (ns.getD a 0 : Nat)) := by rw [List.getElem?_map, nsG hal]; rfl
    refine ⟨.ref pa, rfl, .ref tl, rfl, tl, _, 1, _, rfl, rfl, SqT.mk htl2, atI_nat (j := 1) rfl, pa, xs, _, .ref tt, rfl, rfl, SqO hpa2, atI_nat hxt, tt, _, 2, _, rfl, rfl, SqT.mk htt, atI_nat (j := 2) rfl, .ref rl, rfl, .ref tl, rfl, tl, _, 1, _, rfl, rfl, SqT.mk htl2, atI_nat (j := 1) rfl, rl, _, _, _, rfl, rfl, SqL.mk hrl2, atI_nat iA, (k : Nat), (ns.getD a 0 : Nat), rfl, by omega, by omega, S.mono (n := 7) (show ((ns.getD a 0 : Nat) : Int).natAbs < 2 ^ 7 by omega) (by decide), fun G3 f s3 nf hf => ?_⟩
    refine fr_neq (s3 _ _ hsh) hf C0 (by omega) (by rw [ec]; exact late_share lm.lt (okL.2.1.1) eP okm cop hk (lm.hw _ _ eP)) ⟨_, rfl, iteF ?_⟩
    have sG3 := sG2.trans (Sam.of s3)
    have hrl3 := sG3.lst hrl
    have hpa3 := sG3.obj _ _ (fun _ z => by cases z) hpa
    have hps3 : PisAt G3 Ps xs := hps.keep (fun a xs e => sG3.tup e)
    have tab3 := sG3.tabG tab
    clear s2 s3 hsh hf nf htt hmm hxt htl2 hpa2 hrl2 iA sG2 shL dL LP gL sG hpaG hpsG htlG htbG
    have i0 : (ns.map fun (x : Nat) => V.int x)[0]? = some (.int (ns.getD 0 0 : Nat)) := by rw [List.getElem?_map, nsG (by omega)]; rfl
    have i1 : (ns.map fun (x : Nat) => V.int x)[1]? = some (.int (ns.getD 1 0 : Nat)) := by rw [List.getElem?_map, nsG (by omega)]; rfl
    obtain ⟨sa, ua, ka, ea, copa, hka⟩ := lm.ct 0 (by omega)
    obtain ⟨sb, ub, kb, eb, copb, hkb⟩ := lm.ct 1 (by omega)
    have oka := (lm.ok 0 _ ea).1.1
    have okb := (lm.ok 1 _ eb).1.1
    have a1 : 1 ≤ ns.getD 0 0 := oka.1
    have a64 : ns.getD 0 0 ≤ 64 := oka.2.1
    have b1 : 1 ≤ ns.getD 1 0 := okb.1
    have b64 : ns.getD 1 0 ≤ 64 := okb.2.1
    obtain ⟨ta, xa, hxa, hta, hma⟩ := gx sG3 ea
    obtain ⟨tb', xb, hxb, htb', hmb⟩ := gx sG3 eb
    refine ⟨.ref rl, rfl, rl, _, 0, _, rfl, rfl, SqL.mk hrl3, atI_nat (j := 0) i0, .ref rl, rfl, rl, _, 1, _, rfl, rfl, SqL.mk hrl3, atI_nat (j := 1) i1, _, _, rfl, rfl, .inl ⟨by omega, by omega⟩, ?_⟩
    refine nx_via (σ := [some (.ref pa), some (.ref rl), some (.ref tl), y3, y4, some (.int ((ns.getD 0 0 : Nat) * (ns.getD 1 0 : Nat)))]) (fun σ F => σ = [some (.ref pa), some (.ref rl), some (.ref tl), y3, y4, some (.int ((ns.getD 0 0 : Nat) * (ns.getD 1 0 : Nat)))] ∧ Sam G3 F) (fun N key => ?_) ?_
    · refine ⟨.ref rl, rfl, rl, _, 0, _, rfl, rfl, SqL.mk hrl3, atI_nat (j := 0) i0, .ref rl, rfl, rl, _, 1, _, rfl, rfl, SqL.mk hrl3, atI_nat (j := 1) i1, ns.getD 0 0, ns.getD 1 0, rfl, by omega, by omega, by omega, by omega, .int _, rfl, rfl, _, rfl, ite2 (fun e => ?_) (fun _ => key _ _ ⟨rfl, Sam.refl G3⟩)⟩
      have hl : Nat.lcm (ns.getD 0 0) (ns.getD 1 0) = ns.getD 0 0 * ns.getD 1 0 := by
        have := V.int.inj (of_decide_eq_true e)
        rw [← Int.natCast_mul] at this
        omega
      refine ⟨.ref pa, rfl, .ref pa, rfl, pa, _, rfl, .inr (SqO hpa3), _, _, rfl, rfl, pa, xs, Ps, L + 2, (by
        show [V.ref pa, V.int (((xs.length : Nat) : Int) - 1)] = _
        rw [show ((xs.length : Nat) : Int) - 1 = ((L + 2 : Nat) : Int) by omega]), ⟨_, hpa3⟩, hps3, lm.n24, lm.ok, by omega, tab3, fun _ _ no => nev no, fun F2 sh n' s' s2 rep' _ hsh => ?_⟩
      obtain ⟨rfl, rfl⟩ := rep'.uniq rep
      have hpa4 := s2.obj _ _ (fun _ z => by cases z) hpa3
      have m0 : (0 : Int) < (ns.getD 0 0 : Nat) * (ns.getD 1 0 : Nat) := Int.mul_pos (by omega) (by omega)
      have m1 : ns.getD 0 0 * ns.getD 1 0 ≤ 64 * 64 := Nat.mul_le_mul a64 b64
      refine ⟨.ref pa, rfl, pa, xs, 0, .ref ta, rfl, rfl, SqO hpa4, atI_nat (j := 0) hxa, ta, _, 2, _, rfl, rfl, SqT.mk (s2.tup hta), atI_nat (j := 2) rfl, .ref pa, rfl, pa, xs, 1, .ref tb', rfl, rfl, SqO hpa4, atI_nat (j := 1) hxb, tb', _, 2, _, rfl, rfl, SqT.mk (s2.tup htb'), atI_nat (j := 2) rfl, _, _, rfl, rfl, .inl ⟨by omega, by omega⟩, .int _, rfl, (ka : Nat) * (kb : Nat), (ns.getD 0 0 : Nat) * (ns.getD 1 0 : Nat), rfl, Int.mul_nonneg (by omega) (by omega), m0, S.mono (n := 20) (show (((ns.getD 0 0 : Nat) : Int) * ((ns.getD 1 0 : Nat) : Int)).natAbs < 2 ^ 20 by rw [← Int.natCast_mul, Int.natAbs_natCast]; omega) (by decide), fun F3 f s3 nf hf => ?_⟩
      refine fr_neq (s3 _ _ hsh) hf C0 m0 (by rw [ec]; exact both_share lm.b2 (by omega) ea oka copa hka eb okb copb hkb hl _) ⟨_, rfl, iteF (key _ _ ⟨rfl, s2.trans (Sam.of s3)⟩)⟩
    rintro σ F ⟨rfl, sF⟩
    have hpaF := sF.obj _ _ (fun _ z => by cases z) hpa3
    refine ⟨.ref pa, rfl, pa, xs, Ps, 0, rfl, ⟨_, hpaF⟩, hps3.keep (fun a xs e => sF.tup e), lm.n24, lm.ok, by omega, sF.tabG tab3, fun _ _ no => nev no, fun F2 t1 p1 w1 j1 n' s' s2 rep' _ ht1 hp1 best1 => ?_⟩
    obtain ⟨rfl, rfl⟩ := rep'.uniq rep
    have hpaF2 := s2.obj _ _ (fun _ z => by cases z) hpaF
    have htaF := s2.tup (sF.tup hta)
    have hmaF : MkAt F2 (.counter (ns.getD 0 0) sa ua) xa := (hma.keep fun a xs e => sF.tup e).keep fun a xs e => s2.tup e
    obtain ⟨pm, rfl, hpm⟩ := hmaF
    refine ⟨.ref pa, rfl, pa, xs, 0, .ref ta, rfl, rfl, SqO hpaF2, atI_nat (j := 0) hxa, ta, _, 1, _, rfl, rfl, SqT.mk htaF, atI_nat (j := 1) rfl, .ref pa, rfl, pa, xs, 0, .ref ta, rfl, rfl, SqO hpaF2, atI_nat (j := 0) hxa, ta, _, 2, _, rfl, rfl, SqT.mk htaF, atI_nat (j := 2) rfl, pm, ns.getD 0 0, sa, ua, ka, rfl, hpm, a1, a64, oka.2.2.1, by have := oka.2.2.2; omega, hka, fun F3 t2 p2 w2 j2 s3 ht2 hp2 best2 => ?_⟩
    obtain ⟨rfl, f1, f2⟩ := worst_eq ea oka copa hka lm.c0 rfl best1 best2
    rw [f1, f2] at hp2
    refine ⟨_, _, .tup (SqT.mk (s3 _ _ ht1)) (.cons (.tup (SqT.mk (s3 _ _ hp1)) (.cons (.int _) (.cons (.int _) .nil))) (.cons (.int _) .nil)), .tup (SqT.mk ht2) (.cons (.tup (SqT.mk hp2) (.cons (.int _) (.cons (.int _) .nil))) (.cons (.int _) .nil)), rfl, rfl, ?_⟩
    rw [PySem.SeqAt.eqv_refl _ rfl]
    exact q _ (sG3.trans (sF.trans (s2.trans (Sam.of s3))))
/-! the law -/
/-- the makers that a law writes down first -/
structure Mks (Ps : List Pie) (ns : List Nat) (i N : Nat) : Prop where
  ct : ∀ j, j < i → ∃ s u k, Ps[j]? = some (.make (.counter (ns.getD j 0) s u) k) ∧ Nat.Coprime s (ns.getD j 0) ∧ k ≤ ns.getD j 0
  mk' : ∀ (j : Nat) (R : Pie), Ps[j]? = some R → ∃ (m : Mk) (k : Nat), R = .make m k ∧ m.Wl ∧ k ≤ 64
  nm : N = lcmF (Ps.map fun P => P.nums.length)
theorem lcmF_ge : ∀ {ns : List Nat}, (∀ n, n ∈ ns → 1 ≤ n) → 1 ≤ lcmF ns := fun {ns} h => by
  have key : ∀ (ns : List Nat) (c : Nat), 1 ≤ c → (∀ n, n ∈ ns → 1 ≤ n) → 1 ≤ ns.foldl (fun c n => c * n / Nat.gcd c n) c := fun ns => by
    induction ns with
    | nil => exact fun c h _ => h
    | cons n ns ih =>
      intro c hc hn
      have e : c * n / Nat.gcd c n = Nat.lcm c n := rfl
      show 1 ≤ ns.foldl (fun c n => c * n / Nat.gcd c n) (c * n / Nat.gcd c n)
      rw [e]
      exact ih _ (Nat.lcm_pos hc (hn n List.mem_cons_self)) fun m hm => hn m (List.mem_cons_of_mem _ hm)
  exact key ns 1 (Nat.le_refl 1) h
theorem lcm_le {a b : Nat} (ha : 1 ≤ a) (hb : 1 ≤ b) : Nat.lcm a b ≤ a * b := Nat.le_of_dvd (Nat.mul_pos ha hb) (Nat.lcm_dvd (Nat.dvd_mul_right a b) (Nat.dvd_mul_left b a))
theorem make_nums (m : Mk) (k : Nat) : (Pie.make m k).nums.length = m.rnd := by
  show ((List.range m.rnd).map fun (i : Nat) => m.val i).length = m.rnd
  rw [List.length_map, List.length_range]
theorem Mks.nil (ns : List Nat) : Mks [] ns 0 1 := ⟨fun j h => absurd h (Nat.not_lt_zero j), (fun j R e => by cases e), rfl⟩
theorem Mks.pos {Ps : List Pie} {ns : List Nat} {i N : Nat} (h : Mks Ps ns i N) : 1 ≤ N := by
  rw [h.nm]
  refine lcmF_ge fun n hn => ?_
  obtain ⟨P, hP, rfl⟩ := List.mem_map.mp hn
  obtain ⟨j, hj, e⟩ := List.getElem_of_mem hP
  obtain ⟨m, k, rfl, w, _⟩ := h.mk' j P (by rw [List.getElem?_eq_getElem hj, e])
  rw [make_nums]
  exact rnd_pos w.1
theorem snoc_get {Ps : List Pie} {P R : Pie} {j : Nat} (e : (Ps ++ [P])[j]? = some R) : Ps[j]? = some R ∨ R = P := by
  by_cases h : j < Ps.length
  · rw [List.getElem?_append_left h] at e
    exact .inl e
  · have := (List.getElem?_eq_some_iff.mp e).1
    rw [List.length_append, List.length_singleton] at this
    obtain rfl : j = Ps.length := by omega
    rw [List.getElem?_append_right (Nat.le_refl _), Nat.sub_self] at e
    cases e
    exact .inr rfl
theorem Mks.more {Ps : List Pie} {ns : List Nat} {i N : Nat} (h : Mks Ps ns i N) (l : i ≤ Ps.length) {m : Mk} {k : Nat} (w : m.Wl) (hk : k ≤ 64) : Mks (Ps ++ [.make m k]) ns i (Nat.lcm N m.rnd) := by
  refine ⟨fun j hj => ?_, fun j P e => ?_, ?_⟩
  · obtain ⟨s, u, k', e, r⟩ := h.ct j hj
    exact ⟨s, u, k', by rw [List.getElem?_append_left (by omega)]; exact e, r⟩
  · rcases snoc_get e with e | rfl
    · exact h.mk' j P e
    · exact ⟨m, k, rfl, w, hk⟩
  · rw [List.map_append, List.map_singleton, lcmF_lcm, ← h.nm, make_nums]
theorem Mks.step {Ps : List Pie} {ns : List Nat} {i N : Nat} (h : Mks Ps ns i N) (l : Ps.length = i) {s u k : Nat} (w : (Mk.counter (ns.getD i 0) s u).Wl) (cop : Nat.Coprime s (ns.getD i 0)) (hk : k ≤ ns.getD i 0) (n64 : ns.getD i 0 ≤ 64) : Mks (Ps ++ [.make (.counter (ns.getD i 0) s u) k]) ns (i + 1) (Nat.lcm N (ns.getD i 0)) := by
  have h2 := h.more (by omega) w (k := k) (by omega)
  rw [cnt_rnd] at h2
  refine ⟨fun j hj => ?_, h2.mk', h2.nm⟩
  by_cases c : j < i
  · exact h2.ct j c
  · obtain rfl : j = i := by omega
    exact ⟨s, u, k, by rw [← l, List.getElem?_append_right (Nat.le_refl _), Nat.sub_self]; rfl, cop, hk⟩
theorem Bus.same {p : Addr} {H H' : Hp} (s : Same H H') : Bus p H H' := .sam (.of s)
theorem PisAt.app {H : Hp} {Ps Qs : List Pie} {vs us : List V} (h : PisAt H Ps vs) (g : PisAt H Qs us) : PisAt H (Ps ++ Qs) (vs ++ us) := by
  induction h with
  | nil => exact g
  | cons a _ ih => exact .cons a ih
theorem Mks.cm {Ps : List Pie} {ns : List Nat} {i N a L : Nat} {ah : List Int} (h : Mks Ps ns i N) : cmL (Ps ++ [Pie.late a ah, .both 0 L, .both 0 1]) = N := by
  unfold cmL
  rw [List.map_append, h.nm]
  show lcmF (_ ++ [1, 1, 1]) = _
  rw [show ∀ xs : List Nat, xs ++ [1, 1, 1] = ((xs ++ [1]) ++ [1]) ++ [1] from fun xs => by simp, lcmF_one, lcmF_one, lcmF_one]
theorem Mks.lat {Ps : List Pie} {ns : List Nat} {N a A k0 : Nat} {m0 : Mk} {ah : List Int} (h : Mks Ps ns ns.length N) (n2 : 2 ≤ ns.length) (nl : ns.length ≤ Ps.length) (l4 : Ps.length ≤ 4) (n64 : ∀ x, x ∈ ns → 1 ≤ x ∧ x ≤ 64) (al : a < ns.length) (ah1 : 1 ≤ ah.length) (ah16 : ah.length ≤ 16) (ahb : ∀ x, x ∈ ah → 0 ≤ x ∧ x < 2)
    (e0 : Ps[a]? = some (.make m0 k0)) (hA : A ≤ ah.length) (hw : ∀ p, A ≤ p → p < ah.length → ah.getD p 0 = blw k0 (m0.val (((p : Int) - ah.length) % N))) (hb : A = 0 ∨ ah.getD (A - 1) 0 ≠ blw k0 (m0.val ((((A - 1 : Nat) : Int) - ah.length) % N))) :
    LatM (Ps ++ [Pie.late a ah, .both 0 Ps.length, .both 0 1]) ns Ps.length a ah A := by
  have ec : cmL (Ps ++ [Pie.late a ah, .both 0 Ps.length, .both 0 1]) = N := h.cm
  have len : (Ps ++ [Pie.late a ah, .both 0 Ps.length, .both 0 1]).length = Ps.length + 3 := by rw [List.length_append]; rfl
  have low : ∀ {j : Nat}, j < Ps.length → (Ps ++ [Pie.late a ah, .both 0 Ps.length, .both 0 1])[j]? = Ps[j]? := fun {j} hj => List.getElem?_append_left hj
  have hi : ∀ (j : Nat), (Ps ++ [Pie.late a ah, .both 0 Ps.length, .both 0 1])[Ps.length + j]? = [Pie.late a ah, .both 0 Ps.length, .both 0 1][j]? := fun j => by
    rw [List.getElem?_append_right (by omega), show Ps.length + j - Ps.length = j by omega]
  have ea : ∀ m k, (Ps ++ [Pie.late a ah, .both 0 Ps.length, .both 0 1])[a]? = some (.make m k) → m = m0 ∧ k = k0 := fun m k e => by
    rw [low (by omega), e0] at e
    cases e
    exact ⟨rfl, rfl⟩
  refine ⟨fun i R e => ?_, len, ⟨n2, nl⟩, by omega, n64, fun i hi' => ?_, fun i hi' => ?_, hi 0, hi 1, hi 2, al, by rw [ec]; exact h.pos, hA, fun m k e p p1 p2 => ?_, fun m k e => ?_⟩
  · rw [len]
    have il := (List.getElem?_eq_some_iff.mp e).1
    rw [len] at il
    rcases Nat.lt_or_ge i Ps.length with z | z
    · rw [low z] at e
      obtain ⟨m, k, rfl, w, hk⟩ := h.mk' i R e
      exact ⟨w, hk⟩
    · obtain ⟨j, rfl⟩ : ∃ j, i = Ps.length + j := ⟨i - Ps.length, by omega⟩
      rw [hi j] at e
      match j, e with
      | 0, e => cases e; exact ⟨by omega, ⟨ah1, ah16⟩, ahb⟩
      | 1, e => cases e; exact ⟨by omega, by omega⟩
      | 2, e => cases e; exact ⟨by omega, by omega⟩
      | j + 3, e => cases e
  · obtain ⟨s, u, k, e, r⟩ := h.ct i hi'
    exact ⟨s, u, k, by rw [low (by omega)]; exact e, r⟩
  · obtain ⟨m, k, e, _, _⟩ := h.mk' i _ (List.getElem?_eq_getElem hi')
    exact ⟨m, k, by rw [low hi', List.getElem?_eq_getElem hi', e]⟩
  · obtain ⟨rfl, rfl⟩ := ea m k e
    rw [ec]
    exact hw p p1 p2
  · obtain ⟨rfl, rfl⟩ := ea m k e
    rw [ec]
    exact hb
def sp_law {K : PySem.W.Frag} {mg : Str → Option Value} (T : Defs K mg) : Sp := fun vs H Q _ => ∃ (a : Addr) (ns : List Int), vs = [.ref a] ∧ SqL K H a (ns.map V.int) ∧ ns.length ≤ 63 ∧ (GxR.TabG H T.P_settled_row ∧ True) ∧ ∀ H', Q (.bl true) H'
theorem ok_law (T : Defs K mg) (TT : Tabs T base) : FnOk P w K mg base CX0 18 T.f_law T.fd_law ["_law_script"] (sp_law T) := by
  have G__law_folded : FnOk P w K mg base CX0 1 T.f__law_folded T.fd__law_folded ["_law_script", "_law_many"] (sp__law_folded K) := ok__law_folded T TT
  have G__law_box : FnOk P w K mg base CX0 1 T.f__law_box T.fd__law_box ["_law_script", "_law_k"] (sp__law_box K) := ok__law_box T TT
  have G__law_rounds : FnOk P w K mg base CX0 2 T.f__law_rounds T.fd__law_rounds ["_law_box_here"] (sp__law_rounds K) := ok__law_rounds T TT
  have G__law_ahead : FnOk P w K mg base CX0 6 T.f__law_ahead T.fd__law_ahead ["_law_pieces", "_law_late", "_law_many"] (sp__law_ahead K) := ok__law_ahead T TT
  have G__law_lcm : FnOk P w K mg base CX0 1 T.f__law_lcm T.fd__law_lcm ["_law_one", "_law_other"] (sp__law_lcm K) := ok__law_lcm T TT
  have G__law_take : FnOk P w K mg base CX0 1 T.f__law_take T.fd__law_take ["_law_box_here", "_law_many"] (sp__law_take K) := ok__law_take T TT
  have G_settles : FnOk P w K mg base CX0 15 T.f_settles T.fd_settles ["pieces"] (sp_settles T) := ok_settles T TT
  have G__law_counter : FnOk P w K mg base CX0 2 T.f__law_counter T.fd__law_counter ["_law_box_here", "_law_many"] (sp__law_counter K) := ok__law_counter T TT
  have G__law_shares_right : FnOk P w K mg base CX0 17 T.f__law_shares_right T.fd__law_shares_right ["_law_pieces", "_law_rounds_here", "_law_late"] (sp__law_shares_right T) := ok__law_shares_right T TT
  have G__law_refused : FnOk P w K mg base CX0 17 T.f__law_refused T.fd__law_refused ["_law_call", "_law_pieces", "_law_number"] (sp__law_refused T) := ok__law_refused T TT
  refine T.F_law.ok sc_law (fun vs H Q E h => ?_) (fun cdv A outer s H vs Q E hr h => ?_)
  · obtain ⟨a, ns, rfl, hS, hlen, ⟨tg, _⟩, q⟩ := h
    rfl
  · obtain ⟨a, ns, rfl, hS, hlen, ⟨tg, _⟩, q⟩ := h
    refine ⟨_, PSs.nox (pss_cons (ps_set (i := 1) sc_law.nd rfl (.inl rfl) (pe_call G__law_folded (hr.mono (by decide)) (by rfl) T.g__law_folded T.F__law_folded.kp T.b__law_folded .nil pass0 (pa_cons (pv 0) (pa_cons pe_int pa_nil))))
    (pss_cons ((ps_for PassesOwn.never rfl (pi_range1 (by rfl) T.m_range (pa_cons (pe_callB (call_max2 rfl) (by rfl) T.m_max bt_max (pa_cons pe_int (pa_cons (pe_callB call_len_seq (by rfl) T.m_len bt_len (pa_cons (pv 1) pa_nil)) pa_nil))) pa_nil)) (pg_name (i := 2) sc_law.nd rfl (.inl rfl)) (pss_cons (ps_set (i := 3) sc_law.nd rfl (.inr rfl) (pe_call G__law_box (hr.mono (by decide)) (by rfl) T.g__law_box T.F__law_box.kp T.b__law_box .nil pass0 (pa_cons (pv 1) (pa_cons (pv 2) pa_nil))))
    (pss_cons (ps_set (i := 4) sc_law.nd rfl (.inl rfl) (pe_call G__law_rounds (hr.mono (by decide)) (by rfl) T.g__law_rounds T.F__law_rounds.kp T.b__law_rounds .nil pass0 (pa_cons (pv 3) pa_nil)))
    (pss_cons (ps_par (i := 5) (j := 6) (by rfl) sc_law.nd rfl rfl (by decide) rfl rfl (pa_cons (pe_lst pa_nil) (pa_cons pe_int pa_nil)) (by rfl))
    (pss_cons ((ps_for PassesOwn.never rfl (pi_list (pv 4)) (pg_name (i := 7) sc_law.nd rfl (.inl rfl)) (pss_cons (ps_expr (pe_bm PySem.F.plainAttrs_list PySem.F.slot_list_append PySem.F.type_list_append mt_append (pv 5) (pa_cons (pe_tup (pa_cons pe_str (pa_cons (pe_call G__law_counter (hr.mono (by decide)) (by rfl) T.g__law_counter T.F__law_counter.kp T.b__law_counter .nil pass0 (pa_cons (pv 3) (pa_cons (pv 7) pa_nil))) (pa_cons (pe_call G__law_take (hr.mono (by decide)) (by rfl) T.g__law_take T.F__law_take.kp T.b__law_take .nil pass0 (pa_cons (pv 3) (pa_cons (pe_op op_add (pv 7) pe_int) pa_nil))) pa_nil)))) pa_nil)))
    (pss_one (ps_set (i := 6) sc_law.nd rfl (.inl rfl) (pe_call G__law_lcm (hr.mono (by decide)) (by rfl) T.g__law_lcm T.F__law_lcm.kp T.b__law_lcm .nil pass0 (pa_cons (pv 6) (pa_cons (pv 7) pa_nil))))))))
    (pss_cons (ps_if (PW.pt (pw_and (pt_cmpR op_eq (pe_call G__law_take (hr.mono (by decide)) (by rfl) T.g__law_take T.F__law_take.kp T.b__law_take .nil pass0 (pa_cons (pv 3) (pa_cons pe_int pa_nil))) pe_int (nomark _)) (pw_and1 (pt_cmpR op_le (pv 6) pe_int (nomark _))))) (pss_cons (ps_set (i := 8) sc_law.nd rfl (.inl rfl) (pe_op op_add pe_int (pe_call G__law_take (hr.mono (by decide)) (by rfl) T.g__law_take T.F__law_take.kp T.b__law_take .nil pass0 (pa_cons (pv 3) (pa_cons pe_int pa_nil)))))
    (pss_cons (ps_expr (pe_bm PySem.F.plainAttrs_list PySem.F.slot_list_append PySem.F.type_list_append mt_append (pv 5) (pa_cons (pe_tup (pa_cons pe_str (pa_cons (pe_tup (pa_cons pe_str (pa_cons (pv 8) (pa_cons (pe_ix ix_tup (pe_ix ix_list (pv 5) pe_int (fun _ _ => rfl)) pe_int (fun _ _ => rfl)) pa_nil)))) (pa_cons (pe_call G__law_take (hr.mono (by decide)) (by rfl) T.g__law_take T.F__law_take.kp T.b__law_take .nil pass0 (pa_cons (pv 3) (pa_cons (pe_op op_add (pe_ix ix_list (pv 4) pe_int (fun _ _ => rfl)) pe_int) pa_nil))) pa_nil)))) pa_nil)))
    (pss_one (ps_set (i := 6) sc_law.nd rfl (.inl rfl) (pe_call G__law_lcm (hr.mono (by decide)) (by rfl) T.g__law_lcm T.F__law_lcm.kp T.b__law_lcm .nil pass0 (pa_cons (pv 6) (pa_cons (pe_op op_mul (pv 8) (pe_ix ix_list (pv 4) pe_int (fun _ _ => rfl))) pa_nil))))))) pss_nil)
    (pss_cons (ps_set (i := 9) sc_law.nd rfl (.inl rfl) (pe_callTy call_tuple_of (by rfl) T.m_tuple bt_tuple (pa_cons (pe_lc (own := [("_law_turn", 12)]) (g := gName 12) (tt := tYes) rfl sc_law.nd (pi_range1 (by rfl) T.m_range (pa_cons (pe_op op_add pe_int (pe_call G__law_take (hr.mono (by decide)) (by rfl) T.g__law_take T.F__law_take.kp T.b__law_take .nil pass0 (pa_cons (pv 3) (pa_cons pe_int pa_nil)))) pa_nil)) (blkOk_by (N := N_law) (sc := defScope s_law) (by decide +kernel)) (fun _ _ _ _ _ => (pg_name (i := 12) sc_law.nd rfl (.inl rfl))) (fun _ _ _ _ _ => pts_nil) (fun _ _ _ _ _ => (pe_call G__law_take (hr.mono (by decide)) (by rfl) T.g__law_take T.F__law_take.kp T.b__law_take .nil pass0 (pa_cons (pv 3) (pa_cons pe_int pa_nil))))) pa_nil)))
    (pss_cons (ps_set (i := 10) sc_law.nd rfl (.inl rfl) (pe_tup (pa_cons pe_str (pa_cons (pe_call G__law_take (hr.mono (by decide)) (by rfl) T.g__law_take T.F__law_take.kp T.b__law_take .nil pass0 (pa_cons (pv 3) (pa_cons (pe_callB call_len_seq (by rfl) T.m_len bt_len (pa_cons (pv 4) pa_nil)) pa_nil))) (pa_cons (pv 9) pa_nil)))))
    (pss_cons (ps_set (i := 5) sc_law.nd rfl (.inl rfl) (pe_callTy call_tupleF (by rfl) T.m_tuple bt_tuple (pa_cons (pe_op op_cat (pv 5) (pe_lst (pa_cons (pv 10) (pa_cons (pe_tup (pa_cons pe_str (pa_cons pe_int (pa_cons (pe_callB call_len_seq (by rfl) T.m_len bt_len (pa_cons (pv 5) pa_nil)) pa_nil)))) (pa_cons (pe_tup (pa_cons pe_str (pa_cons pe_int (pa_cons pe_int pa_nil)))) pa_nil))))) pa_nil)))
    (pss_cons (ps_set (i := 11) sc_law.nd rfl (.inl rfl) (pe_call G__law_ahead (hr.mono (by decide)) (by rfl) T.g__law_ahead T.F__law_ahead.kp T.b__law_ahead .nil pass0 (pa_cons (pv 5) (pa_cons (pv 10) (pa_cons (pv 6) pa_nil)))))
    (pss_one ((ps_for PassesOwn.never rfl (pi_range1 (by rfl) T.m_range (pa_cons pe_int pa_nil)) (pg_name (i := 12) sc_law.nd rfl (.inl rfl)) (pss_cons (ps_set (i := 13) sc_law.nd rfl (.inl rfl) (pe_call G_settles (hr.mono (by decide)) (by rfl) T.g_settles T.F_settles.kp T.b_settles .nil pass0 (pa_cons (pv 5) pa_nil)))
    (pss_one (ps_if (pt_cmpR op_le (pe_op op_add (pv 11) (pv 6)) pe_int (nomark _)) (pss_cons (ps_if (PW.pt (pw_or (pt_not (pt_val (pe_callB call_isi (by rfl) T.m_isinstance bt_isinstance (pa_cons (pv 13) (pa_cons (pe_bltn (v := .ty "tuple") (by rfl) T.m_tuple bt_tuple rfl) pa_nil))))) (pw_or1 (pt_cmpR (op_neD hr.units) (pv 13) (pe_tup (pa_cons (pv 11) (pa_cons (pv 6) pa_nil))) (nomark _))))) (pss_one (ps_ret pe_bl)) pss_nil)
    (pss_one (ps_if (PW.pt (pw_and (pt_cmpR op_eq (pv 12) pe_int (nomark _)) (pw_and1 (pt_not (pt_val (pe_call G__law_shares_right (hr.mono (by decide)) (by rfl) T.g__law_shares_right T.F__law_shares_right.kp T.b__law_shares_right .nil pass0 (pa_cons (pv 5) (pa_cons (pv 4) (pa_cons (pv 10) pa_nil))))))))) (pss_one (ps_ret pe_bl)) pss_nil))) (pss_one (ps_if (pt_cmpR op_notN (pv 13) pe_non (nomark _)) (pss_one (ps_ret pe_bl)) (pss_one (ps_if (pt_not (pt_val (pe_call G__law_refused (hr.mono (by decide)) (by rfl) T.g__law_refused T.F__law_refused.kp T.b__law_refused .nil pass0 (pa_cons (pe_ix ix_list (pe_lst (pa_cons pe_str (pa_cons pe_str pa_nil))) (pv 12) (fun _ _ => rfl)) (pa_cons (pv 5) (pa_cons (pe_call G__law_take (hr.mono (by decide)) (by rfl) T.g__law_take T.F__law_take.kp T.b__law_take .nil pass0 (pa_cons (pv 3) (pa_cons (pe_callB call_len_seq (by rfl) T.m_len bt_len (pa_cons (pv 5) pa_nil)) pa_nil))) pa_nil)))))) (pss_one (ps_ret pe_bl)) pss_nil)))))))))))))))))))))
    (pss_one (ps_ret pe_bl)))), ?_⟩
    have hsl : sizeLine = 16777216 := by decide
    refine ⟨.ref a, rfl, a, ns, 3, rfl, hS, hlen, by decide, by decide, fun H1 c cs s1 nc hc lc => ?_⟩
    have tg1 := (Sam.of s1).tabG tg
    have hn : (if (((cs.map V.int).length : Nat) : Int) > 2 then (((cs.map V.int).length : Nat) : Int) else 2) ≤ 3 ∧ 0 ≤ (if (((cs.map V.int).length : Nat) : Int) > 2 then (((cs.map V.int).length : Nat) : Int) else 2) := by
      rw [List.length_map]
      split <;> omega
    refine ⟨.ref c, rfl, c, _, rfl, .inl (SqL.mk hc), _, _, rfl, _, rfl, by omega, by omega, for_range (fun i σ H2 => ∃ y2 y3 y4 y5 y6 y7 y8 y9 y10 y11 y12 y13, σ = [some (.ref a), some (.ref c), y2, y3, y4, y5, y6, y7, y8, y9, y10, y11, y12, y13] ∧ Sam H1 H2) ⟨none, none, none, none, none, none, none, none, none, none, none, none, rfl, Sam.refl H1⟩ ?_ ?_⟩
    rotate_left
    · rintro σ H2 ⟨y2, y3, y4, y5, y6, y7, y8, y9, y10, y11, y12, y13, rfl, s2⟩
      exact q _
    rintro i σ H2 hi ⟨y2, y3, y4, y5, y6, y7, y8, y9, y10, y11, y12, y13, rfl, s2⟩
    have hi2 : i < 1000 := by omega
    refine ⟨.ref c, rfl, .int (0 + (i : Int)), rfl, c, cs, i, by rw [Int.zero_add]; rfl, SqL.mk (s2.lst hc), hi2, fun H3 b s3 nb hB => ?_⟩
    have nb1 : H1 b = none := s2.free nb
    have s13 := s2.trans (Sam.of s3)
    have tg3 := s13.tabG tg1
    clear hS s1 tg tg1 hn hi
    refine ⟨.ref b, rfl, b, _, rfl, hB, by decide, fun G1 rl ns c1 B1 rb hrl n2 n3 n64 => ⟨(show 0 ≤ sizeLine by decide), fun l nl => ⟨_, _, rfl, ?_⟩⟩⟩
    have lb : l ≠ b := ne_new B1 nl
    have rl_l : rl ≠ l := ne_of_none hrl nl
    have nl3 : H3 l = none := by
      cases e : H3 l with
      | none => rfl
      | some o =>
        have := c1 _ _ lb e
        rw [nl] at this
        cases this
    have hl0 := upd_same (H := G1) (a := l) (o := .lst [])
    have hrl0 := (same_upd nl (o := .lst [])) _ _ hrl
    have B0 := B1.new (o := .lst []) nl
    have c0 := c1.new (o := .lst []) nl
    generalize upd G1 l (.lst []) = G2 at hl0 hrl0 B0 c0 ⊢
    clear c1 B1 hrl nl
    have nsG : ∀ {i : Nat}, i < ns.length → ns[i]? = some (ns.getD i 0) := fun {i} hi => by
      rw [List.getElem?_eq_getElem hi, getD_of (List.getElem?_eq_getElem hi)]
    refine ⟨.ref rl, rfl, rl, rfl, ⟨_, SqL.mk hrl0⟩, for_list (xs := ns.map fun (x : Nat) => V.int x) (fun j σ G => ∃ y7 xs Ps N, σ = [some (.ref a), some (.ref c), some (.int (0 + (i : Int))), some (.ref b), some (.ref rl), some (.ref l), some (.int (N : Nat)), y7, y8, y9, y10, y11, y12, y13] ∧ But b H3 G ∧ Bx G b (100 + 10 * j) ∧ G rl = some (.lst (ns.map fun (x : Nat) => V.int x)) ∧ G l = some (.lst xs) ∧ PisAt G Ps xs ∧ Ps.length = j ∧ Mks Ps ns j N ∧ N ≤ 64 ^ j) ⟨y7, [], [], 1, rfl, c0, B0.mono (by decide), hrl0, hl0, .nil, rfl, Mks.nil ns, Nat.le_refl _⟩ ?_ ?_ ?_⟩
    · rintro j σ G _ ⟨y7, xs, Ps, N, rfl, cG, BG, hr, _⟩
      exact SqL.mk hr
    · rintro j x σ G hx ⟨y7, xs, Ps, N, rfl, cG, BG, hr, hl, hps, lp, mks, hN⟩
      have jl : j < ns.length := by
        have := (List.getElem?_eq_some_iff.mp hx).1
        rwa [List.length_map] at this
      rw [List.getElem?_map, nsG jl] at hx
      cases hx
      have hnm : ns.getD j 0 ∈ ns := List.mem_of_getElem? (nsG jl)
      obtain ⟨m1, m64⟩ := n64 _ hnm
      have lx := hps.len
      refine ⟨.ref l, rfl, .inl ⟨rfl, _, SqL.mk hl⟩, .ref b, rfl, .int (ns.getD j 0 : Nat), rfl, b, _, ns.getD j 0, rfl, BG, by omega, m1, m64, fun G3 t s u c3 B3 ht s1 sN cop uN => ?_⟩
      refine ⟨.ref b, rfl, .int (ns.getD j 0 : Nat), rfl, _, _, rfl, rfl, b, _, _, rfl, B3, by omega, by omega, by omega, fun G4 r c4 B4 lo hi => ⟨(show 3 ≤ sizeLine by decide), fun tp np => ?_⟩⟩
      obtain ⟨k, rfl⟩ := nat_of lo
      have c34 := c3.trans c4
      have sp := same_upd np (o := .tup [.str "make", .ref t, .int (k : Nat)])
      have hl4 := sp _ _ (c34 _ _ lb hl)
      have hr4 := sp _ _ (c34 _ _ rb hr)
      have ht4 := sp _ _ (c4 _ _ (B3.ne_tup ht) ht)
      have hps4 := (hps.but BG c34).same sp
      have htp := upd_same (H := G4) (a := tp) (o := .tup [.str "make", .ref t, .int (k : Nat)])
      have c5 := (cG.trans c34).new (o := .tup [.str "make", .ref t, .int (k : Nat)]) np
      have B5 := B4.new (o := .tup [.str "make", .ref t, .int (k : Nat)]) np
      generalize upd G4 tp (.tup [.str "make", .ref t, .int (k : Nat)]) = G5 at hl4 hr4 ht4 hps4 htp c5 B5 ⊢
      refine ⟨l, _, _, rfl, rfl, hl4, by omega, ?_⟩
      have ok : (Mk.counter (ns.getD j 0) s u).Ok := ⟨m1, m64, by omega, uN⟩
      have w : (Mk.counter (ns.getD j 0) s u).Wl := ⟨ok, ⟨s1, sN, cop⟩, (show 0 ≤ 3 by decide), by rw [cnt_rnd]; omega⟩
      have N1 := mks.pos
      have N64 : N ≤ 64 ^ 2 := Nat.le_trans hN (Nat.pow_le_pow_right (by decide) (by omega))
      refine ⟨.int (N : Nat), rfl, .int (ns.getD j 0 : Nat), rfl, N, ns.getD j 0, rfl, N1, m1, by omega, by omega, ?_⟩
      have kp : ∀ a xs', G5 a = some (.tup xs') → (upd G5 l (.lst (xs ++ [.ref tp]))) a = some (.tup xs') := fun a xs' e => (upd_ne (ne_of e hl4 (fun z => by cases z))).trans e
      refine ⟨_, xs ++ [.ref tp], Ps ++ [.make (.counter (ns.getD j 0) s u) k], Nat.lcm N (ns.getD j 0), rfl, but_newer c5 nl3, (B5.other lb).mono (by omega), (upd_ne rl_l).trans hr4, upd_same, (hps4.keep kp).snoc (P := .make (.counter (ns.getD j 0) s u) k) ⟨tp, .ref t, rfl, kp _ _ htp, t, rfl, kp _ _ ht4⟩, by rw [List.length_append, lp]; rfl, mks.step lp w cop (by omega) m64, ?_⟩
      rw [Nat.pow_succ]
      exact Nat.le_trans (lcm_le N1 m1) (Nat.mul_le_mul hN m64)
    rintro σ G ⟨y7, xs, Ps, N, rfl, cG, BG, hr, hl, hps, lp, mks, hN⟩
    rw [List.length_map] at lp mks hN BG
    have nn : 2 ≤ ns.length ∧ ns.length ≤ 3 := ⟨n2, n3⟩
    have N3 : N ≤ 64 ^ 3 := Nat.le_trans hN (Nat.pow_le_pow_right (by decide) n3)
    have i0 : (ns.map fun (x : Nat) => V.int x)[0]? = some (.int (ns.getD 0 0 : Nat)) := by rw [List.getElem?_map, nsG (by omega)]; rfl
    obtain ⟨r1, r64⟩ := n64 _ (List.mem_of_getElem? (nsG (i := 0) (by omega)))
    have BG := BG.mono (show 100 + 10 * ns.length ≤ 130 by omega)
    refine nx_via (fun σ F => ∃ y8 xs Ps N, σ = [some (.ref a), some (.ref c), some (.int (0 + (i : Int))), some (.ref b), some (.ref rl), some (.ref l), some (.int (N : Nat)), y7, y8, y9, y10, y11, y12, y13] ∧ But b H3 F ∧ Bx F b 500 ∧ F rl = some (.lst (ns.map fun (x : Nat) => V.int x)) ∧ F l = some (.lst xs) ∧ PisAt F Ps xs ∧ ns.length ≤ Ps.length ∧ Ps.length ≤ 4 ∧ Mks Ps ns ns.length N ∧ N ≤ 1000000) (fun NN key => ?_) ?_
    · refine ⟨.ref b, rfl, b, 4, _, rfl, BG, by decide, by decide, by decide, fun F1 r c1 B1 lo hi => ⟨rfl, _, rfl, ?_⟩⟩
      have hl1 := c1 _ _ lb hl
      have hr1 := c1 _ _ rb hr
      have hps1 := hps.but BG c1
      have c01 := cG.trans c1
      have key0 : ∀ {X : Prop}, (X → X) → NN [some (.ref a), some (.ref c), some (.int (0 + (i : Int))), some (.ref b), some (.ref rl), some (.ref l), some (.int (N : Nat)), y7, y8, y9, y10, y11, y12, y13] F1 := fun _ => key _ _ ⟨y8, xs, Ps, N, rfl, c01, B1.mono (by decide), hr1, hl1, hps1, by omega, by omega, mks, by omega⟩
      refine ite2 (fun _ => ?_) (fun _ => iteF (key0 (X := True) id))
      refine ⟨.int (N : Nat), rfl, _, _, rfl, rfl, _, rfl, ite2 (fun e => ?_) (fun _ => key0 (X := True) id)⟩
      have N1000 : N ≤ 1000 := by
        have : (N : Int) ≤ 1000 := of_decide_eq_true e
        omega
      clear key0 e
      refine ⟨.ref b, rfl, b, 9, _, rfl, B1, by decide, by decide, by decide, fun F2 r c2 B2 lo hi => ⟨_, _, rfl, rfl, ?_⟩⟩
      obtain ⟨sl, hsl2, sl1, sl2⟩ : ∃ n : Nat, 2 + r = (n : Int) ∧ 2 ≤ n ∧ n ≤ 10 := ⟨(2 + r).toNat, by omega, by omega, by omega⟩
      try dsimp only
      rw [hsl2]
      have hl2 := c2 _ _ lb hl1
      have hr2 := c2 _ _ rb hr1
      have hps2 := hps1.but B1 c2
      obtain ⟨s, u, k, e0, cop, hk⟩ := mks.ct 0 (by omega)
      obtain ⟨m0, k0, em, w0, _⟩ := mks.mk' 0 _ e0
      cases em
      obtain ⟨v0, hv0, t0, x0, rfl, ht0, hm0⟩ := hps2.get e0
      have lx := hps2.len
      refine ⟨.ref l, rfl, .inl ⟨rfl, _, SqL.mk hl2⟩, .int (sl : Nat), rfl, .ref l, rfl, l, _, 0, _, rfl, rfl, SqL.mk hl2, atI_nat (j := 0) hv0, t0, _, 1, _, rfl, rfl, SqT.mk ht0, atI_nat (j := 1) rfl, (show 3 ≤ sizeLine by decide), fun ts nts => ?_⟩
      have sp := same_upd nts (o := .tup [.str "slow", .int (sl : Nat), x0])
      have hts := upd_same (H := F2) (a := ts) (o := .tup [.str "slow", .int (sl : Nat), x0])
      have hl3 := sp _ _ hl2
      have hr3 := sp _ _ hr2
      have hps3 := hps2.same sp
      have hm3 := hm0.same sp
      have c3 := c2.new (o := .tup [.str "slow", .int (sl : Nat), x0]) nts
      have B3 := B2.new (o := .tup [.str "slow", .int (sl : Nat), x0]) nts
      generalize upd F2 ts (.tup [.str "slow", .int (sl : Nat), x0]) = F3 at hts hl3 hr3 hps3 hm3 c3 B3 ⊢
      refine ⟨.ref b, rfl, .ref rl, rfl, rl, _, 0, _, rfl, rfl, SqL.mk hr3, atI_nat (j := 0) i0, _, _, rfl, rfl, b, _, _, rfl, B3, by omega, by omega, by decide, fun F4 kk c4 B4 lo4 hi4 => ⟨(show 3 ≤ sizeLine by decide), fun tp np => ?_⟩⟩
      obtain ⟨kk, rfl⟩ := nat_of lo4
      have sq := same_upd np (o := .tup [.str "make", .ref ts, .int (kk : Nat)])
      have htp := upd_same (H := F4) (a := tp) (o := .tup [.str "make", .ref ts, .int (kk : Nat)])
      have hl5 := sq _ _ (c4 _ _ lb hl3)
      have hr5 := sq _ _ (c4 _ _ rb hr3)
      have hps5 := (hps3.but B3 c4).same sq
      have hm5 := (hm3.but B3 c4).same sq
      have hts5 := sq _ _ (c4 _ _ (B3.ne_tup hts) hts)
      have c5 := (c01.trans (c3.trans c4)).new (o := .tup [.str "make", .ref ts, .int (kk : Nat)]) np
      have B5 := B4.new (o := .tup [.str "make", .ref ts, .int (kk : Nat)]) np
      generalize upd F4 tp (.tup [.str "make", .ref ts, .int (kk : Nat)]) = F5 at htp hl5 hr5 hps5 hm5 hts5 c5 B5 ⊢
      refine ⟨l, _, _, rfl, rfl, hl5, by omega, ?_⟩
      have kp : ∀ a xs', F5 a = some (.tup xs') → (upd F5 l (.lst (xs ++ [.ref tp]))) a = some (.tup xs') := fun a xs' e => (upd_ne (ne_of e hl5 (fun z => by cases z))).trans e
      have hr6 : (upd F5 l (.lst (xs ++ [.ref tp]))) rl = some (.lst (ns.map fun (x : Nat) => V.int x)) := (upd_ne rl_l).trans hr5
      have P1 := Nat.mul_le_mul sl2 r64
      have P2 : 1 ≤ sl * ns.getD 0 0 := Nat.mul_pos (by omega) r1
      refine ⟨.int (N : Nat), rfl, .int (sl : Nat), rfl, .ref rl, rfl, rl, _, 0, _, rfl, rfl, SqL.mk hr6, atI_nat (j := 0) i0, _, _, rfl, rfl, .inl ⟨by omega, by omega⟩, N, sl * ns.getD 0 0, (by
        show [V.int (N : Nat), V.int ((sl : Int) * ((ns.getD 0 0 : Nat) : Int))] = _
        rw [Int.natCast_mul]), mks.pos, P2, by omega, by omega, ?_⟩
      have er : (Mk.slow sl (.counter (ns.getD 0 0) s u)).rnd = sl * ns.getD 0 0 := by
        show sl * (Mk.counter (ns.getD 0 0) s u).rnd = _
        rw [cnt_rnd]
      have w : (Mk.slow sl (.counter (ns.getD 0 0) s u)).Wl := ⟨⟨by omega, by omega, w0.1⟩, w0.2.1, (show 1 ≤ 3 by decide), by rw [er]; omega⟩
      have mm := mks.more (by omega) w (k := kk) (by omega)
      rw [er] at mm
      refine key _ _ ⟨_, xs ++ [.ref tp], Ps ++ [.make (.slow sl (.counter (ns.getD 0 0) s u)) kk], _, rfl, but_newer c5 nl3, (B5.other lb).mono (by decide), hr6, upd_same, (hps5.keep kp).snoc (P := .make (.slow sl (.counter (ns.getD 0 0) s u)) kk) ⟨tp, .ref ts, rfl, kp _ _ htp, ts, x0, rfl, kp _ _ hts5, hm5.keep kp⟩, by rw [List.length_append]; omega, by rw [List.length_append]; show Ps.length + 1 ≤ 4; omega, mm, ?_⟩
      have := lcm_le mks.pos P2
      have := Nat.mul_le_mul N1000 P1
      omega
    clear hl hr hps lp mks hN BG cG N3
    rintro σ F ⟨y8, xs, Ps, N, rfl, cF, BF, hr, hl, hps, lp, lp4, mks, hN⟩
    refine ⟨.ref b, rfl, b, 3, _, rfl, BF, by decide, by decide, by decide, fun F1 r c1 B1 lo hi => ⟨_, _, rfl, rfl, ?_⟩⟩
    obtain ⟨sz, hsz, sz1, sz3⟩ : ∃ n : Nat, 1 + r = (n : Int) ∧ 1 ≤ n ∧ n ≤ 3 := ⟨(1 + r).toNat, by omega, by omega, by omega⟩
    try dsimp only
    rw [hsz]
    have hr1 := c1 _ _ rb hr
    have hl1 := c1 _ _ lb hl
    have hps1 := hps.but BF c1
    have cF1 := cF.trans c1
    refine ⟨(sz : Nat), rfl, by omega, by omega, fun D nD => ?_⟩
    have Db : D ≠ b := ne_new B1 nD
    refine lc_range (fun j G => ∃ as : List Int, as.length = j ∧ (∀ x, x ∈ as → 0 ≤ x ∧ x < 2) ∧ But b F1 G ∧ Bx G b (501 + j) ∧ G D = some (.lst (as.map V.int))) ⟨[], rfl, fun x h => (by cases h), (But.refl b F1).new nD, B1.new nD, upd_same⟩ (fun j G hj h => ?_) (fun G h => ?_)
    · obtain ⟨as, la, hx, cG, BG, hD⟩ := h
      rw [Int.toNat_natCast] at hj
      refine ⟨rfl, yes_ite ?_⟩
      refine ⟨.ref b, rfl, b, 2, _, rfl, BG, by decide, by decide, by omega, fun G2 r c2 B2 l2 u2 => ?_⟩
      refine ⟨_, c2 _ _ Db hD, by rw [List.length_map]; omega, as ++ [r], by rw [List.length_append, la]; rfl, fun x hx' => ?_, but_newer (cG.trans c2) nD, (B2.other Db).mono (by omega), by rw [upd_same, List.map_append]; rfl⟩
      rcases List.mem_append.mp hx' with h | h
      · exact hx x h
      · rw [List.mem_singleton.mp h]
        exact ⟨l2, u2⟩
    obtain ⟨ah, lah, ahb, cG, BG, hD⟩ := h
    rw [Int.toNat_natCast] at lah BG
    have BG := BG.mono (show 501 + sz ≤ 510 by omega)
    have hr2 := cG _ _ rb hr1
    have hl2 := cG _ _ lb hl1
    have hps2 := hps1.but B1 cG
    have c2 := cF1.trans cG
    clear hr hl hps hr1 hl1 hps1 BF B1 cF cF1 cG c1 nD
    refine ⟨D, _, rfl, .inl ⟨SqL.mk hD, fun tb ntb => ?_⟩⟩
    have sb := same_upd ntb (o := .tup (ah.map V.int))
    have htb := upd_same (H := G) (a := tb) (o := .tup (ah.map V.int))
    have hr3 := sb _ _ hr2
    have hl3 := sb _ _ hl2
    have hps3 := hps2.same sb
    have c3 := c2.new (o := .tup (ah.map V.int)) ntb
    have B3 := BG.new (o := .tup (ah.map V.int)) ntb
    generalize upd G tb (.tup (ah.map V.int)) = G3 at htb hr3 hl3 hps3 c3 B3 ⊢
    clear hr2 hl2 hps2 c2 BG hD sb ntb
    refine ⟨.ref b, rfl, .ref rl, rfl, rl, _, rfl, .inl (SqL.mk hr3), b, _, _, rfl, B3, by rw [List.length_map]; omega, by rw [List.length_map]; omega, by decide, fun G4 ra c4 B4 lo4 hi4 => ⟨.ref tb, rfl, (show 3 ≤ sizeLine by decide), fun tl ntl => ?_⟩⟩
    rw [List.length_map] at hi4
    obtain ⟨ra, rfl⟩ := nat_of lo4
    have sb := same_upd ntl (o := .tup [.str "late", .int (ra : Nat), .ref tb])
    have htl := upd_same (H := G4) (a := tl) (o := .tup [.str "late", .int (ra : Nat), .ref tb])
    have hr4 := sb _ _ (c4 _ _ rb hr3)
    have hl4 := sb _ _ (c4 _ _ lb hl3)
    have htb4 := sb _ _ (c4 _ _ (B3.ne_tup htb) htb)
    have hps4 := (hps3.but B3 c4).same sb
    have c5 := (c3.trans c4).new (o := .tup [.str "late", .int (ra : Nat), .ref tb]) ntl
    have B5 := B4.new (o := .tup [.str "late", .int (ra : Nat), .ref tb]) ntl
    generalize upd G4 tl (.tup [.str "late", .int (ra : Nat), .ref tb]) = G5 at htl hr4 hl4 htb4 hps4 c5 B5 ⊢
    clear hr3 hl3 htb hps3 c3 B3 c4 B4 sb ntl
    have lx := hps4.len
    refine ⟨.ref l, rfl, .ref tl, rfl, .ref l, rfl, l, _, rfl, .inl (SqL.mk hl4), (show 3 ≤ sizeLine by decide), fun q1 nq1 => ⟨(show 3 ≤ sizeLine by decide), fun q2 nq2 => ⟨(show 3 ≤ sizeLine by decide), fun M nM => ?_⟩⟩⟩
    have s1 := same_upd nq1 (o := .tup [.str "both", .int 0, .int (xs.length : Nat)])
    have hq1 := upd_same (H := G5) (a := q1) (o := .tup [.str "both", .int 0, .int (xs.length : Nat)])
    generalize upd G5 q1 (.tup [.str "both", .int 0, .int (xs.length : Nat)]) = U1 at s1 hq1 nq2 nM ⊢
    have s2 := same_upd nq2 (o := .tup [.str "both", .int 0, .int 1])
    have hq2 := upd_same (H := U1) (a := q2) (o := .tup [.str "both", .int 0, .int 1])
    generalize upd U1 q2 (.tup [.str "both", .int 0, .int 1]) = U2 at s2 hq2 nM ⊢
    have s3 := same_upd nM (o := .lst [.ref tl, .ref q1, .ref q2])
    have hM := upd_same (H := U2) (a := M) (o := .lst [.ref tl, .ref q1, .ref q2])
    generalize upd U2 M (.lst [.ref tl, .ref q1, .ref q2]) = U3 at s3 hM ⊢
    have s123 := s1.trans (s2.trans s3)
    refine ⟨l, M, _, _, rfl, rfl, s123 _ _ hl4, hM, by show xs.length + 3 ≤ _; omega, fun S nS => ⟨S, _, rfl, SqL.mk upd_same, fun pa ob npa od oc => ?_⟩⟩
    have s4 := same_upd nS (o := .lst (xs ++ [.ref tl, .ref q1, .ref q2]))
    generalize upd U3 S (.lst (xs ++ [.ref tl, .ref q1, .ref q2])) = U4 at s4 npa ⊢
    have s5 := same_upd npa (o := tupO (some ob) (xs ++ [.ref tl, .ref q1, .ref q2]))
    have hpa := upd_same (H := U4) (a := pa) (o := tupO (some ob) (xs ++ [.ref tl, .ref q1, .ref q2]))
    generalize upd U4 pa (tupO (some ob) (xs ++ [.ref tl, .ref q1, .ref q2])) = U5 at s5 hpa ⊢
    have s15 := s123.trans (s4.trans s5)
    have hq1' := (s2.trans (s3.trans (s4.trans s5))) _ _ hq1
    have hq2' := (s3.trans (s4.trans s5)) _ _ hq2
    have htl5 := s15 _ _ htl
    have htb5 := s15 _ _ htb4
    have hr5 := s15 _ _ hr4
    rw [lx] at hq1'
    have hps5 : PisAt U5 (Ps ++ [Pie.late ra ah, .both 0 Ps.length, .both 0 1]) (xs ++ [.ref tl, .ref q1, .ref q2]) := (hps4.same s15).app (.cons (P := .late ra ah) ⟨tl, tb, rfl, htl5, htb5⟩ (.cons (P := .both 0 Ps.length) ⟨q1, rfl, hq1'⟩ (.cons (P := .both 0 1) ⟨q2, rfl, hq2'⟩ .nil)))
    have c6 := c5.trans (same_but s15)
    have B6 := B5.same s15
    clear s1 s2 s3 s4 s5 s15 s123 hq1 hq2 hq1' hq2' hM hl4 htl htb4 hr4 hps4 c5 B5 nq1 nq2 nM nS npa
    have hra : ra < ns.length := by omega
    obtain ⟨sa, ua, ka, ea, copa, hka⟩ := mks.ct ra hra
    obtain ⟨ma, ka', ema, wa, _⟩ := mks.mk' ra _ ea
    cases ema
    obtain ⟨va, hva, hPa⟩ := hps5.get (i := ra) (P := .make (.counter (ns.getD ra 0) sa ua) ka) (by rw [List.getElem?_append_left (by omega)]; exact ea)
    refine ⟨.ref pa, rfl, .ref tl, rfl, .int (N : Nat), rfl, pa, tl, tb, _, [], va, _, ka, ra, N, ah, rfl, ⟨some ob, hpa⟩, hva, hPa, wa.1, by have := wa.2.2.1; omega, htl5, htb5, by omega, mks.pos, fun V1 A sV hA hw hb => ?_⟩
    have lm := mks.lat (a := ra) (A := A) (ah := ah) nn.1 lp lp4 n64 hra (by omega) (by omega) ahb ea hA hw hb
    have ecm : cmL (Ps ++ [Pie.late ra ah, .both 0 Ps.length, .both 0 1]) = N := mks.cm
    have rep0 := lm.rep
    rw [ecm] at rep0
    have b7 := (Bus.of c6).trans (.sam sV)
    have B7 := B6.sam sV
    have hpa7 := sV.obj _ _ (fun _ z => by cases z) hpa
    have hr7 := sV.lst hr5
    have htl7 := sV.tup htl5
    have htb7 := sV.tup htb5
    have hps7 : PisAt V1 (Ps ++ [Pie.late ra ah, .both 0 Ps.length, .both 0 1]) (xs ++ [.ref tl, .ref q1, .ref q2]) := hps5.keep (fun a xs e => sV.tup e)
    have tg7 := b7.tabG hB tg3
    have pab : pa ≠ b := by
      obtain ⟨x1, x2, x3, hb', _⟩ := B7
      exact ne_of hpa7 hb' (fun z => by cases z)
    generalize hPS : Ps ++ [Pie.late ra ah, .both 0 Ps.length, .both 0 1] = PS at lm ecm rep0 hps7
    generalize hXS : xs ++ [V.ref tl, .ref q1, .ref q2] = XS at hpa7 hps7 hpa hps5
    have lPS : PS.length = Ps.length + 3 := lm.len
    clear hps5 hpa hr5 htl5 htb5 hva hPa sV c6 B6 hw hb
    refine ⟨2, rfl, by decide, by decide, for_range (n := 2) (fun j σ G => ∃ y12 y13, σ = [some (.ref a), some (.ref c), some (.int (0 + (i : Int))), some (.ref b), some (.ref rl), some (.ref pa), some (.int (N : Nat)), y7, y8, some (.ref tb), some (.ref tl), some (.int (A : Nat)), y12, y13] ∧ Bus b V1 G ∧ Bx G b (515 + 10 * j)) ⟨_, _, rfl, Bus.refl b V1, B7.mono (by decide)⟩ ?_ ?_⟩
    rotate_left
    · rintro σ G ⟨y12, y13, rfl, bG, BG⟩
      exact ⟨_, _, _, _, _, _, _, _, _, _, _, _, rfl, bus_same nb1 s13 (b7.trans bG)⟩
    rintro j σ G hj ⟨y12, y13, rfl, bG, BG⟩
    have hpaG := bG.obj _ _ pab (fun _ z => by cases z) hpa7
    have hrG := bG.obj _ _ rb (fun _ z => by cases z) hr7
    have htlG := bG.tup B7 htl7
    have htbG := bG.tup B7 htb7
    have hpsG : PisAt G PS XS := hps7.keep fun a xs e => bG.tup B7 e
    have tgG := bG.tabG B7 tg7
    refine ⟨.ref pa, rfl, pa, XS, PS, rfl, ⟨_, hpaG⟩, hpsG, lm.n24, lm.ok, fun Z tk n' s' sZ rep n8 htk => ?_, fun Z sZ no => ?_⟩
    · obtain ⟨rfl, rfl⟩ := rep.uniq rep0
      rw [show ((s' + N : Nat) : Int) - (s' : Nat) = (N : Nat) by omega] at htk
      refine ⟨.int (s' : Nat), rfl, .int (N : Nat), rfl, _, _, rfl, rfl, _, _, rfl, rfl, _, rfl, ite2 (fun _ => ?_) (fun z => absurd (decide_eq_true (show ((s' : Nat) : Int) + (N : Nat) ≤ 8192 by omega)) z)⟩
      refine ⟨.ref tk, rfl, _, _, _, _, _, rfl, .ty "tuple", .base (.tup htk), kit_ty (by show _ = some true; decide +kernel), _, rfl, ?_⟩
      refine iteF ?_
      refine ⟨.ref tk, rfl, .int (s' : Nat), rfl, .int (N : Nat), rfl, (show 2 ≤ sizeLine by decide), fun t2 n2 => ?_⟩
      have st := same_upd n2 (o := .tup [.int (s' : Nat), .int (N : Nat)])
      refine ⟨_, _, .tup (SqT.mk (st _ _ htk)) (.cons (.int _) (.cons (.int _) .nil)), .tup (SqT.mk upd_same) (.cons (.int _) (.cons (.int _) .nil)), rfl, rfl, ?_⟩
      rw [PySem.SeqAt.eqv_refl _ rfl]
      refine ⟨_, rfl, iteF ?_⟩
      have sY := sZ.trans st
      have BY := BG.same sY
      have bY := bG.trans (.sam (.of sY))
      refine ⟨.int (0 + (j : Int)), rfl, rfl, _, rfl, ite2 (fun _ => ?_) (fun _ => iteF ⟨_, _, rfl, bY, BY.mono (by omega)⟩)⟩
      refine ⟨.ref pa, rfl, .ref rl, rfl, .ref tl, rfl, pa, rl, tl, tb, XS, PS, ns, Ps.length, ra, ah, s', rfl, ⟨ob, od, oc, sY _ _ hpaG⟩, hpsG.same sY, lm, by rw [ecm]; exact n8, (Sam.of sY).tabG tgG, sY _ _ hrG, sY _ _ htlG, sY _ _ htbG, fun Z2 s2 => ⟨_, rfl, iteF ⟨_, _, rfl, bY.trans (.sam s2), (BY.sam s2).mono (by omega)⟩⟩⟩
    · have big : ¬ A + N ≤ 8192 := fun z => no A (A + N) rep0.lt z rep0.eq.symm
      refine ⟨.int (A : Nat), rfl, .int (N : Nat), rfl, _, _, rfl, rfl, _, _, rfl, rfl, _, rfl, ite2 (fun z => absurd (of_decide_eq_true z : ((A : Nat) : Int) + (N : Nat) ≤ 8192) (by omega)) (fun _ => ?_)⟩
      refine ⟨.non, rfl, rfl, _, rfl, iteF ?_⟩
      obtain ⟨z, ev⟩ : ∃ z, atI [V.str "share", V.str "worst"] (0 + (j : Int)) = some (.str z) := by
        obtain ⟨v, ev, z, rfl⟩ := at_menuV (Pr := fun v => ∃ z, v = .str z) (xs := [V.str "share", V.str "worst"]) (r := 0 + (j : Int)) (by omega) (by show _ < (2 : Int); omega) (fun x hx => by
          simp only [List.mem_cons, List.not_mem_nil, or_false] at hx
          rcases hx with rfl | rfl <;> exact ⟨_, rfl⟩)
        exact ⟨z, ev⟩
      have hpaZ := sZ _ _ hpaG
      have BZ := BG.same sZ
      refine ⟨(show 2 ≤ sizeLine by decide), fun m nm => ⟨.int (0 + (j : Int)), rfl, m, _, _, _, rfl, rfl, SqL.mk upd_same, ev, ?_⟩⟩
      have sm := same_upd nm (o := .lst [.str "share", .str "worst"])
      have lXS := hpsG.len
      have n24 := lm.n24
      refine ⟨.ref pa, rfl, .ref b, rfl, .ref pa, rfl, pa, _, rfl, .inr (SqO (sm _ _ hpaZ)), b, _, _, rfl, BZ.same sm, by omega, by omega, by omega, fun Z3 r c3 B3 lo hi => ?_⟩
      obtain ⟨r, rfl⟩ := nat_of lo
      have sY := sZ.trans sm
      have BY := BG.same sY
      have b3 := (Bus.sam (Sam.of sY)).trans (Bus.of c3 (p := b))
      refine ⟨pa, XS, PS, r, z, rfl, ⟨_, c3 _ _ pab (sm _ _ hpaZ)⟩, (hpsG.same sY).but BY c3, lm.n24, lm.ok, by omega, b3.tabG BG tgG, fun n s rep n8 => ?_, fun Z4 s4 => ⟨_, rfl, iteF ⟨_, _, rfl, bG.trans (b3.trans (.sam s4)), (B3.sam s4).mono (by omega)⟩⟩⟩
      obtain ⟨rfl, rfl⟩ := rep.uniq rep0
      exact big n8
end
def d__wall : He.DefD := ⟨("_wall", none), "_wall", "_wall", defArgs s__wall, defBody s__wall, defScope s__wall, [], []⟩
def d_common_divisor : He.DefD := ⟨("common_divisor", none), "common_divisor", "common_divisor", defArgs s_common_divisor, defBody s_common_divisor, defScope s_common_divisor, [], []⟩
def d_fraction : He.DefD := ⟨("fraction", none), "fraction", "fraction", defArgs s_fraction, defBody s_fraction, defScope s_fraction, [], []⟩
def d_ones : He.DefD := ⟨("ones", none), "ones", "ones", defArgs s_ones, defBody s_ones, defScope s_ones, [], []⟩
def d_share_of : He.DefD := ⟨("share_of", none), "share_of", "share_of", defArgs s_share_of, defBody s_share_of, defScope s_share_of, [], []⟩
def d_counter_round : He.DefD := ⟨("counter_round", none), "counter_round", "counter_round", defArgs s_counter_round, defBody s_counter_round, defScope s_counter_round, [], []⟩
def d_last_for_first : He.DefD := ⟨("last_for_first", none), "last_for_first", "last_for_first", defArgs s_last_for_first, defBody s_last_for_first, defScope s_last_for_first, [], []⟩
def d_size_of : He.DefD := ⟨("size_of", none), "size_of", "size_of", defArgs s_size_of, defBody s_size_of, defScope s_size_of, [], []⟩
def d_turned_round : He.DefD := ⟨("turned_round", none), "turned_round", "turned_round", defArgs s_turned_round, defBody s_turned_round, defScope s_turned_round, [], []⟩
def d_odd_ones : He.DefD := ⟨("odd_ones", none), "odd_ones", "odd_ones", defArgs s_odd_ones, defBody s_odd_ones, defScope s_odd_ones, [], []⟩
def d_held_round : He.DefD := ⟨("held_round", none), "held_round", "held_round", defArgs s_held_round, defBody s_held_round, defScope s_held_round, [], []⟩
def d_plain_round : He.DefD := ⟨("plain_round", none), "plain_round", "plain_round", defArgs s_plain_round, defBody s_plain_round, defScope s_plain_round, [], []⟩
def d_round_of : He.DefD := ⟨("round_of", none), "round_of", "round_of", defArgs s_round_of, defBody s_round_of, defScope s_round_of, [], []⟩
def d_innermost : He.DefD := ⟨("innermost", none), "innermost", "innermost", defArgs s_innermost, defBody s_innermost, defScope s_innermost, [], []⟩
def d_inner_beat : He.DefD := ⟨("inner_beat", none), "inner_beat", "inner_beat", defArgs s_inner_beat, defBody s_inner_beat, defScope s_inner_beat, [], []⟩
def d_values_at : He.DefD := ⟨("values_at", none), "values_at", "values_at", defArgs s_values_at, defBody s_values_at, defScope s_values_at, [], []⟩
def d_value_at : He.DefD := ⟨("value_at", none), "value_at", "value_at", defArgs s_value_at, defBody s_value_at, defScope s_value_at, [], []⟩
def d_values_of : He.DefD := ⟨("values_of", none), "values_of", "values_of", defArgs s_values_of, defBody s_values_of, defScope s_values_of, [], []⟩
def d_moved : He.DefD := ⟨("moved", none), "moved", "moved", defArgs s_moved, defBody s_moved, defScope s_moved, [], []⟩
def d_offs_by : He.DefD := ⟨("offs_by", none), "offs_by", "offs_by", defArgs s_offs_by, defBody s_offs_by, defScope s_offs_by, [], []⟩
def d_asks_of : He.DefD := ⟨("asks_of", none), "asks_of", "asks_of", defArgs s_asks_of, defBody s_asks_of, defScope s_asks_of, [], []⟩
def d_round_numbers : He.DefD := ⟨("round_numbers", none), "round_numbers", "round_numbers", defArgs s_round_numbers, defBody s_round_numbers, defScope s_round_numbers, [], []⟩
def d_numbers_of : He.DefD := ⟨("numbers_of", none), "numbers_of", "numbers_of", defArgs s_numbers_of, defBody s_numbers_of, defScope s_numbers_of, [], []⟩
def d_common_length : He.DefD := ⟨("common_length", none), "common_length", "common_length", defArgs s_common_length, defBody s_common_length, defScope s_common_length, [], []⟩
def d_held_first : He.DefD := ⟨("held_first", none), "held_first", "held_first", defArgs s_held_first, defBody s_held_first, defScope s_held_first, [], []⟩
def d_bits_asked : He.DefD := ⟨("bits_asked", none), "bits_asked", "bits_asked", defArgs s_bits_asked, defBody s_bits_asked, defScope s_bits_asked, [], []⟩
def d_bit_of : He.DefD := ⟨("bit_of", none), "bit_of", "bit_of", defArgs s_bit_of, defBody s_bit_of, defScope s_bit_of, [], []⟩
def d_held_behind : He.DefD := ⟨("held_behind", none), "held_behind", "held_behind", defArgs s_held_behind, defBody s_held_behind, defScope s_held_behind, [], []⟩
def d_Machine___init__ : He.DefD := ⟨("Machine", some "__init__"), "__init__", "Machine.__init__", defArgs s_Machine___init__, defBody s_Machine___init__, defScope s_Machine___init__, [], []⟩
def d_Machine_beat : He.DefD := ⟨("Machine", some "beat"), "beat", "Machine.beat", defArgs s_Machine_beat, defBody s_Machine_beat, defScope s_Machine_beat, [], []⟩
def d_Machine_beats_now : He.DefD := ⟨("Machine", some "beats_now"), "beats_now", "Machine.beats_now", defArgs s_Machine_beats_now, defBody s_Machine_beats_now, defScope s_Machine_beats_now, [], []⟩
def d_Machine_ones_now : He.DefD := ⟨("Machine", some "ones_now"), "ones_now", "Machine.ones_now", defArgs s_Machine_ones_now, defBody s_Machine_ones_now, defScope s_Machine_ones_now, [], []⟩
def d_Machine_held_now : He.DefD := ⟨("Machine", some "held_now"), "held_now", "Machine.held_now", defArgs s_Machine_held_now, defBody s_Machine_held_now, defScope s_Machine_held_now, [], []⟩
def d_run_to_settle : He.DefD := ⟨("run_to_settle", none), "run_to_settle", "run_to_settle", defArgs s_run_to_settle, defBody s_run_to_settle, defScope s_run_to_settle, [], []⟩
def d_settles : He.DefD := ⟨("settles", none), "settles", "settles", defArgs s_settles, defBody s_settles, defScope s_settles, [], []⟩
def d_settled_row : He.DefD := ⟨("settled_row", none), "settled_row", "settled_row", defArgs s_settled_row, defBody s_settled_row, defScope s_settled_row, [], []⟩
def d_long_share : He.DefD := ⟨("long_share", none), "long_share", "long_share", defArgs s_long_share, defBody s_long_share, defScope s_long_share, [], []⟩
def d_worst_run : He.DefD := ⟨("worst_run", none), "worst_run", "worst_run", defArgs s_worst_run, defBody s_worst_run, defScope s_worst_run, [], []⟩
def d__law_box : He.DefD := ⟨("_law_box", none), "_law_box", "_law_box", defArgs s__law_box, defBody s__law_box, defScope s__law_box, [], []⟩
def d__law_take : He.DefD := ⟨("_law_take", none), "_law_take", "_law_take", defArgs s__law_take, defBody s__law_take, defScope s__law_take, [], []⟩
def d__law_folded : He.DefD := ⟨("_law_folded", none), "_law_folded", "_law_folded", defArgs s__law_folded, defBody s__law_folded, defScope s__law_folded, [], []⟩
def d__law_lowest : He.DefD := ⟨("_law_lowest", none), "_law_lowest", "_law_lowest", defArgs s__law_lowest, defBody s__law_lowest, defScope s__law_lowest, [], []⟩
def d__law_lcm : He.DefD := ⟨("_law_lcm", none), "_law_lcm", "_law_lcm", defArgs s__law_lcm, defBody s__law_lcm, defScope s__law_lcm, [], []⟩
def d__law_counter : He.DefD := ⟨("_law_counter", none), "_law_counter", "_law_counter", defArgs s__law_counter, defBody s__law_counter, defScope s__law_counter, [], []⟩
def d__law_rounds : He.DefD := ⟨("_law_rounds", none), "_law_rounds", "_law_rounds", defArgs s__law_rounds, defBody s__law_rounds, defScope s__law_rounds, [], []⟩
def d__law_refused : He.DefD := ⟨("_law_refused", none), "_law_refused", "_law_refused", defArgs s__law_refused, defBody s__law_refused, defScope s__law_refused, [], []⟩
def d__law_ahead : He.DefD := ⟨("_law_ahead", none), "_law_ahead", "_law_ahead", defArgs s__law_ahead, defBody s__law_ahead, defScope s__law_ahead, [], []⟩
def d__law_worst : He.DefD := ⟨("_law_worst", none), "_law_worst", "_law_worst", defArgs s__law_worst, defBody s__law_worst, defScope s__law_worst, [], []⟩
def d__law_shares_right : He.DefD := ⟨("_law_shares_right", none), "_law_shares_right", "_law_shares_right", defArgs s__law_shares_right, defBody s__law_shares_right, defScope s__law_shares_right, [], []⟩
def d_law : He.DefD := ⟨("law", none), "law", "law", defArgs s_law, defBody s_law, defScope s_law, [], []⟩
def hfn : List He.DefD := [d__wall, d_common_divisor, d_fraction, d_ones, d_share_of, d_counter_round, d_last_for_first, d_size_of, d_turned_round, d_odd_ones, d_held_round, d_plain_round, d_round_of, d_innermost, d_inner_beat, d_values_at, d_value_at, d_values_of, d_moved, d_offs_by, d_asks_of, d_round_numbers, d_numbers_of, d_common_length, d_held_first, d_bits_asked, d_bit_of, d_held_behind, d_Machine___init__, d_Machine_beat, d_Machine_beats_now, d_Machine_ones_now, d_Machine_held_now, d_run_to_settle, d_settles, d_settled_row, d_long_share, d_worst_run, d__law_box, d__law_take, d__law_folded, d__law_lowest, d__law_lcm, d__law_counter, d__law_rounds, d__law_refused, d__law_ahead, d__law_worst, d__law_shares_right, d_law]
def hfa : List He.Fa := [.glo "_wall", .glo "common_divisor", .glo "fraction", .glo "ones", .glo "share_of", .glo "counter_round", .glo "last_for_first", .glo "size_of", .glo "turned_round", .glo "odd_ones", .glo "held_round", .glo "plain_round", .glo "round_of", .glo "innermost", .glo "inner_beat", .glo "values_at", .glo "value_at", .glo "values_of", .glo "moved", .glo "offs_by", .glo "asks_of", .glo "round_numbers", .glo "numbers_of", .glo "common_length", .glo "held_first", .glo "bits_asked", .glo "bit_of", .glo "held_behind", .keep "Machine", .keep "Machine", .keep "Machine", .keep "Machine", .keep "Machine", .glo "run_to_settle", .glo "settles", .glo "settled_row", .glo "long_share", .glo "worst_run", .glo "_law_box", .glo "_law_take", .glo "_law_folded", .glo "_law_lowest", .glo "_law_lcm", .glo "_law_counter", .glo "_law_rounds", .glo "_law_refused", .glo "_law_ahead", .glo "_law_worst", .glo "_law_shares_right", .glo "law", .free "ValueError", .free "abs", .free "divmod", .free "enumerate", .free "int", .free "isinstance", .free "len", .free "list", .free "max", .free "range", .free "sum", .free "tuple", .glo "OnesError", .glo "Unlike", .glo "NoSuch", .glo "NoOne", .glo "NoRound", .glo "BadText", .glo "BadSheet", .glo "ASKED", .exc "NoRound", .exm "NoRound" "OnesError" true, .glo "Machine", .cls "Machine", .mkr "Machine", .noat "Machine" "asks", .noat "Machine" "beats", .noat "Machine" "common", .noat "Machine" "counts", .noat "Machine" "held", .noat "Machine" "holding", .noat "Machine" "numbers", .noat "Machine" "pieces", .meth "Machine" "beat", .meth "Machine" "beats_now", .meth "Machine" "ones_now", .meth "Machine" "held_now", .int "MOST_SETTLING" 8192]
def hts : List He.Tab := [((fun K => He.ga K "ASKED"), ["make", "less", "both", "either", "oneof", "pick", "keep", "late", "keeper"])]
def htf : List He.Defn := [("settled_row", none)]
abbrev Hex (K : PySem.W.Frag) : Prop := (PySem.W.findIn K (.ref (He.ga K "NoRound")) "__getattribute__" = some (some (.builtin "BaseException.__getattribute__"))) ∧ (PySem.W.findIn K (.ref (He.ga K "NoRound")) "__getattr__" = some none) ∧ (PySem.W.subIn K (.ref (He.ga K "NoRound")) (.type "BaseException") = some true) ∧ (PySem.W.hasDictIn K (He.ga K "NoRound") = true) ∧ (PySem.W.findIn K (.ref (He.ga K "NoRound")) "__class__" = some (some (.builtin "object.__class__"))) ∧ (PySem.W.specialIn K (.builtin "object.__class__") "__get__" = some (some (.builtin "getset_descriptor.__get__"))) ∧ (PySem.W.takesIn K (.builtin "object.__class__") = some true) ∧ (PySem.W.mroIn K (He.ga K "NoRound") (.type "object") = some true) ∧ (PySem.W.kitOne K (.ref (He.ga K "NoRound")) (.ref (He.ga K "OnesError")) = some true) ∧ (PySem.W.kitOne K (.ref (He.ga K "NoRound")) (.ref (He.ga K "Unlike")) = some false) ∧ (PySem.W.kitOne K (.ref (He.ga K "NoRound")) (.ref (He.ga K "NoSuch")) = some false) ∧ (PySem.W.kitOne K (.ref (He.ga K "NoRound")) (.ref (He.ga K "NoOne")) = some false) ∧ (PySem.W.kitOne K (.ref (He.ga K "NoRound")) (.ref (He.ga K "NoRound")) = some true) ∧ (PySem.W.kitOne K (.ref (He.ga K "NoRound")) (.ref (He.ga K "BadText")) = some false) ∧ (PySem.W.kitOne K (.ref (He.ga K "NoRound")) (.ref (He.ga K "BadSheet")) = some false) ∧ (PySem.W.kitOne K (.ref (He.ga K "NoRound")) (.type "ValueError") = some true) ∧ (dicB K (He.ga K "ASKED") dl_ASKED = true)
instance (K : PySem.W.Frag) : Decidable (Hex K) := inferInstance
def hex : PySem.W.Frag → Bool := fun K => decide (Hex K)
abbrev R : PySem.W.OpenRow := PySem.W.OpenLaw.row PySem.Challenge.rw_shareones_k53_rounds_too_long
abbrev hk : PySem.W.Hook := He.hookX 4 hfa hfn hts htf hex
def ob (s : PySem.W.SharedT) : He.AlX := He.obsX 4 hfa hfn hts htf hex (HandSHeadRun.getT s)
theorem ob_eq (s : PySem.W.SharedT) : ob s = hk.obs s.abs := He.obsX_eq (HandSHeadRun.getT_eq s)
def loose : List Str := "_wall" :: "common_divisor" :: "fraction" :: "ones" :: "share_of" :: "counter_round" :: "last_for_first" :: "size_of" :: "turned_round" :: "odd_ones" :: "held_round" :: "plain_round" :: "round_of" :: "innermost" :: "inner_beat" :: "values_at" :: "value_at" :: "values_of" :: "moved" :: "offs_by" :: "asks_of" :: "round_numbers" :: "numbers_of" :: "common_length" :: "held_first" :: "bits_asked" :: "bit_of" :: "held_behind" :: "run_to_settle" :: "settles" :: "settled_row" :: "long_share" :: "worst_run" :: "_law_box" :: "_law_take" :: "_law_folded" :: "_law_lowest" :: "_law_lcm" :: "_law_counter" :: "_law_rounds" :: "_law_refused" :: "_law_ahead" :: "_law_worst" :: "_law_shares_right" :: "OnesError" :: "Unlike" :: "NoSuch" :: "NoOne" :: "NoRound" :: "BadText" :: "BadSheet" :: "Machine" :: "ASKED" :: "MOST_SETTLING" :: []
theorem run (w : World) : HandSHeadRun.RunEq R (PySem.W.view R.prog [62]) hk ob 6000 loose w := PySem.W.byRow2 "special-get-raises" (P := fun w => HandSHeadRun.RunEq R (PySem.W.view R.prog [62]) hk ob 6000 loose w) (fun w => by
  intro os
  kernel_rfl) (fun w => by
  intro os
  kernel_rfl) w
theorem codeAt {K : PySem.W.Frag} {p : He.Defn} : CodeAt K (He.fAd K p) (He.cT K p).1 := fun oc od fd osl lk b e => (He.codeOf_eq lk e).symm
theorem facts {l : PySem.W.OpenLaw} {w : World} {K : PySem.W.Frag} {h : Heap} {mg : Str → Option Value} {f : Addr} (X : K.In h) (G : h.Ns mainGlobals mg) (hfa_ : mg ("law" : Str) = some (.ref f)) (cc : He.SaysX hfa hfn hts htf hex w h K) :
    LamX.LawAtS l w K CX0 18 63 "_law_script" mg f h := by
  have c : He.SaysD hfa hfn K := congrArg (fun z : He.AlT => z.1) cc.t
  obtain ⟨fd__wall, F__wall⟩ := c.def_ 0 (d := d__wall) rfl
  obtain ⟨fd_common_divisor, F_common_divisor⟩ := c.def_ 1 (d := d_common_divisor) rfl
  obtain ⟨fd_fraction, F_fraction⟩ := c.def_ 2 (d := d_fraction) rfl
  obtain ⟨fd_ones, F_ones⟩ := c.def_ 3 (d := d_ones) rfl
  obtain ⟨fd_share_of, F_share_of⟩ := c.def_ 4 (d := d_share_of) rfl
  obtain ⟨fd_counter_round, F_counter_round⟩ := c.def_ 5 (d := d_counter_round) rfl
  obtain ⟨fd_last_for_first, F_last_for_first⟩ := c.def_ 6 (d := d_last_for_first) rfl
  obtain ⟨fd_size_of, F_size_of⟩ := c.def_ 7 (d := d_size_of) rfl
  obtain ⟨fd_turned_round, F_turned_round⟩ := c.def_ 8 (d := d_turned_round) rfl
  obtain ⟨fd_odd_ones, F_odd_ones⟩ := c.def_ 9 (d := d_odd_ones) rfl
  obtain ⟨fd_held_round, F_held_round⟩ := c.def_ 10 (d := d_held_round) rfl
  obtain ⟨fd_plain_round, F_plain_round⟩ := c.def_ 11 (d := d_plain_round) rfl
  obtain ⟨fd_round_of, F_round_of⟩ := c.def_ 12 (d := d_round_of) rfl
  obtain ⟨fd_innermost, F_innermost⟩ := c.def_ 13 (d := d_innermost) rfl
  obtain ⟨fd_inner_beat, F_inner_beat⟩ := c.def_ 14 (d := d_inner_beat) rfl
  obtain ⟨fd_values_at, F_values_at⟩ := c.def_ 15 (d := d_values_at) rfl
  obtain ⟨fd_value_at, F_value_at⟩ := c.def_ 16 (d := d_value_at) rfl
  obtain ⟨fd_values_of, F_values_of⟩ := c.def_ 17 (d := d_values_of) rfl
  obtain ⟨fd_moved, F_moved⟩ := c.def_ 18 (d := d_moved) rfl
  obtain ⟨fd_offs_by, F_offs_by⟩ := c.def_ 19 (d := d_offs_by) rfl
  obtain ⟨fd_asks_of, F_asks_of⟩ := c.def_ 20 (d := d_asks_of) rfl
  obtain ⟨fd_round_numbers, F_round_numbers⟩ := c.def_ 21 (d := d_round_numbers) rfl
  obtain ⟨fd_numbers_of, F_numbers_of⟩ := c.def_ 22 (d := d_numbers_of) rfl
  obtain ⟨fd_common_length, F_common_length⟩ := c.def_ 23 (d := d_common_length) rfl
  obtain ⟨fd_held_first, F_held_first⟩ := c.def_ 24 (d := d_held_first) rfl
  obtain ⟨fd_bits_asked, F_bits_asked⟩ := c.def_ 25 (d := d_bits_asked) rfl
  obtain ⟨fd_bit_of, F_bit_of⟩ := c.def_ 26 (d := d_bit_of) rfl
  obtain ⟨fd_held_behind, F_held_behind⟩ := c.def_ 27 (d := d_held_behind) rfl
  obtain ⟨fd_Machine___init__, F_Machine___init__⟩ := c.def_ 28 (d := d_Machine___init__) rfl
  obtain ⟨fd_Machine_beat, F_Machine_beat⟩ := c.def_ 29 (d := d_Machine_beat) rfl
  obtain ⟨fd_Machine_beats_now, F_Machine_beats_now⟩ := c.def_ 30 (d := d_Machine_beats_now) rfl
  obtain ⟨fd_Machine_ones_now, F_Machine_ones_now⟩ := c.def_ 31 (d := d_Machine_ones_now) rfl
  obtain ⟨fd_Machine_held_now, F_Machine_held_now⟩ := c.def_ 32 (d := d_Machine_held_now) rfl
  obtain ⟨fd_run_to_settle, F_run_to_settle⟩ := c.def_ 33 (d := d_run_to_settle) rfl
  obtain ⟨fd_settles, F_settles⟩ := c.def_ 34 (d := d_settles) rfl
  obtain ⟨fd_settled_row, F_settled_row⟩ := c.def_ 35 (d := d_settled_row) rfl
  obtain ⟨fd_long_share, F_long_share⟩ := c.def_ 36 (d := d_long_share) rfl
  obtain ⟨fd_worst_run, F_worst_run⟩ := c.def_ 37 (d := d_worst_run) rfl
  obtain ⟨fd__law_box, F__law_box⟩ := c.def_ 38 (d := d__law_box) rfl
  obtain ⟨fd__law_take, F__law_take⟩ := c.def_ 39 (d := d__law_take) rfl
  obtain ⟨fd__law_folded, F__law_folded⟩ := c.def_ 40 (d := d__law_folded) rfl
  obtain ⟨fd__law_lowest, F__law_lowest⟩ := c.def_ 41 (d := d__law_lowest) rfl
  obtain ⟨fd__law_lcm, F__law_lcm⟩ := c.def_ 42 (d := d__law_lcm) rfl
  obtain ⟨fd__law_counter, F__law_counter⟩ := c.def_ 43 (d := d__law_counter) rfl
  obtain ⟨fd__law_rounds, F__law_rounds⟩ := c.def_ 44 (d := d__law_rounds) rfl
  obtain ⟨fd__law_refused, F__law_refused⟩ := c.def_ 45 (d := d__law_refused) rfl
  obtain ⟨fd__law_ahead, F__law_ahead⟩ := c.def_ 46 (d := d__law_ahead) rfl
  obtain ⟨fd__law_worst, F__law_worst⟩ := c.def_ 47 (d := d__law_worst) rfl
  obtain ⟨fd__law_shares_right, F__law_shares_right⟩ := c.def_ 48 (d := d__law_shares_right) rfl
  obtain ⟨fd_law, F_law⟩ := c.def_ 49 (d := d_law) rfl
  have e := hfa_.symm.trans (He.glo_ok X G (c.fact 49 (f := .glo "law") rfl))
  cases e
  have b := FunD.bindsA (ps := ["_law_script"]) F_law fun _ _ _ _ _ _ us hl => match us, hl with | [_], _ => rfl
  have hm : Hex K := of_decide_eq_true cc.more
  obtain ⟨h0, h1, h2, h3, h4, h5, h6, h7, h8, h9, h10, h11, h12, h13, h14, h15, h16⟩ := hm
  haveI : DW K w := ⟨cc.t.tab 0 rfl, h16⟩
  let T : Defs K mg := ⟨_, fd__wall, F__wall, (He.glo_ok X G (c.fact 0 (f := .glo "_wall") rfl)), (FunD.bindsN F__wall fun _ _ _ _ _ _ us hl => match us, hl with | [_], _ => rfl), _, fd_common_divisor, F_common_divisor, (He.glo_ok X G (c.fact 1 (f := .glo "common_divisor") rfl)), (FunD.bindsN F_common_divisor fun _ _ _ _ _ _ us hl => match us, hl with | [_, _], _ => rfl), _, fd_fraction, F_fraction, (He.glo_ok X G (c.fact 2 (f := .glo "fraction") rfl)), (FunD.bindsN F_fraction fun _ _ _ _ _ _ us hl => match us, hl with | [_, _], _ => rfl), _, fd_ones, F_ones, (He.glo_ok X G (c.fact 3 (f := .glo "ones") rfl)), (FunD.bindsN F_ones fun _ _ _ _ _ _ us hl => match us, hl with | [_], _ => rfl), _, fd_share_of, F_share_of, (He.glo_ok X G (c.fact 4 (f := .glo "share_of") rfl)), (FunD.bindsN F_share_of fun _ _ _ _ _ _ us hl => match us, hl with | [_], _ => rfl), _, fd_counter_round, F_counter_round, (He.glo_ok X G (c.fact 5 (f := .glo "counter_round") rfl)), (FunD.bindsN F_counter_round fun _ _ _ _ _ _ us hl => match us, hl with | [_, _, _], _ => rfl), _, fd_last_for_first, F_last_for_first, (He.glo_ok X G (c.fact 6 (f := .glo "last_for_first") rfl)), (FunD.bindsN F_last_for_first fun _ _ _ _ _ _ us hl => match us, hl with | [_, _], _ => rfl), _, fd_size_of, F_size_of, (He.glo_ok X G (c.fact 7 (f := .glo "size_of") rfl)), (FunD.bindsN F_size_of fun _ _ _ _ _ _ us hl => match us, hl with | [_], _ => rfl), _, fd_turned_round, F_turned_round, (He.glo_ok X G (c.fact 8 (f := .glo "turned_round") rfl)), (FunD.bindsN F_turned_round fun _ _ _ _ _ _ us hl => match us, hl with | [_, _], _ => rfl), _, fd_odd_ones, F_odd_ones, (He.glo_ok X G (c.fact 9 (f := .glo "odd_ones") rfl)), (FunD.bindsN F_odd_ones fun _ _ _ _ _ _ us hl => match us, hl with | [_], _ => rfl), _, fd_held_round, F_held_round, (He.glo_ok X G (c.fact 10 (f := .glo "held_round") rfl)), (FunD.bindsN F_held_round fun _ _ _ _ _ _ us hl => match us, hl with | [_, _, _], _ => rfl), _, fd_plain_round, F_plain_round, (He.glo_ok X G (c.fact 11 (f := .glo "plain_round") rfl)), (FunD.bindsN F_plain_round fun _ _ _ _ _ _ us hl => match us, hl with | [_], _ => rfl), _, fd_round_of, F_round_of, (He.glo_ok X G (c.fact 12 (f := .glo "round_of") rfl)), (FunD.bindsN F_round_of fun _ _ _ _ _ _ us hl => match us, hl with | [_], _ => rfl), _, fd_innermost, F_innermost, (He.glo_ok X G (c.fact 13 (f := .glo "innermost") rfl)), (FunD.bindsN F_innermost fun _ _ _ _ _ _ us hl => match us, hl with | [_], _ => rfl), _, fd_inner_beat, F_inner_beat, (He.glo_ok X G (c.fact 14 (f := .glo "inner_beat") rfl)), (FunD.bindsN F_inner_beat fun _ _ _ _ _ _ us hl => match us, hl with | [_, _], _ => rfl), _, fd_values_at, F_values_at, (He.glo_ok X G (c.fact 15 (f := .glo "values_at") rfl)), (FunD.bindsN F_values_at fun _ _ _ _ _ _ us hl => match us, hl with | [_, _], _ => rfl), _, fd_value_at, F_value_at, (He.glo_ok X G (c.fact 16 (f := .glo "value_at") rfl)), (FunD.bindsN F_value_at fun _ _ _ _ _ _ us hl => match us, hl with | [_, _], _ => rfl), _, fd_values_of, F_values_of, (He.glo_ok X G (c.fact 17 (f := .glo "values_of") rfl)), (FunD.bindsN F_values_of fun _ _ _ _ _ _ us hl => match us, hl with | [_, _], _ => rfl), _, fd_moved, F_moved, (He.glo_ok X G (c.fact 18 (f := .glo "moved") rfl)), (FunD.bindsN F_moved fun _ _ _ _ _ _ us hl => match us, hl with | [_, _, _, _], _ => rfl), _, fd_offs_by, F_offs_by, (He.glo_ok X G (c.fact 19 (f := .glo "offs_by") rfl)), (FunD.bindsN F_offs_by fun _ _ _ _ _ _ us hl => match us, hl with | [_, _, _], _ => rfl), _, fd_asks_of, F_asks_of, (He.glo_ok X G (c.fact 20 (f := .glo "asks_of") rfl)), (FunD.bindsN F_asks_of fun _ _ _ _ _ _ us hl => match us, hl with | [_], _ => rfl), _, fd_round_numbers, F_round_numbers, (He.glo_ok X G (c.fact 21 (f := .glo "round_numbers") rfl)), (FunD.bindsN F_round_numbers fun _ _ _ _ _ _ us hl => match us, hl with | [_], _ => rfl), _, fd_numbers_of, F_numbers_of, (He.glo_ok X G (c.fact 22 (f := .glo "numbers_of") rfl)), (FunD.bindsN F_numbers_of fun _ _ _ _ _ _ us hl => match us, hl with | [_], _ => rfl), _, fd_common_length, F_common_length, (He.glo_ok X G (c.fact 23 (f := .glo "common_length") rfl)), (FunD.bindsN F_common_length fun _ _ _ _ _ _ us hl => match us, hl with | [_], _ => rfl), _, fd_held_first, F_held_first, (He.glo_ok X G (c.fact 24 (f := .glo "held_first") rfl)), (FunD.bindsN F_held_first fun _ _ _ _ _ _ us hl => match us, hl with | [_], _ => rfl), _, fd_bits_asked, F_bits_asked, (He.glo_ok X G (c.fact 25 (f := .glo "bits_asked") rfl)), (FunD.bindsN F_bits_asked fun _ _ _ _ _ _ us hl => match us, hl with | [_, _], _ => rfl), _, fd_bit_of, F_bit_of, (He.glo_ok X G (c.fact 26 (f := .glo "bit_of") rfl)), (FunD.bindsN F_bit_of fun _ _ _ _ _ _ us hl => match us, hl with | [_, _, _, _], _ => rfl), _, fd_held_behind, F_held_behind, (He.glo_ok X G (c.fact 27 (f := .glo "held_behind") rfl)), (FunD.bindsN F_held_behind fun _ _ _ _ _ _ us hl => match us, hl with | [_, _, _, _], _ => rfl), _, fd_Machine___init__, F_Machine___init__, (FunD.bindsN F_Machine___init__ fun _ _ _ _ _ _ us hl => match us, hl with | [_, _], _ => rfl), _, fd_Machine_beat, F_Machine_beat, (FunD.bindsN F_Machine_beat fun _ _ _ _ _ _ us hl => match us, hl with | [_], _ => rfl), _, fd_Machine_beats_now, F_Machine_beats_now, (FunD.bindsN F_Machine_beats_now fun _ _ _ _ _ _ us hl => match us, hl with | [_], _ => rfl), _, fd_Machine_ones_now, F_Machine_ones_now, (FunD.bindsN F_Machine_ones_now fun _ _ _ _ _ _ us hl => match us, hl with | [_], _ => rfl), _, fd_Machine_held_now, F_Machine_held_now, (FunD.bindsN F_Machine_held_now fun _ _ _ _ _ _ us hl => match us, hl with | [_], _ => rfl), _, fd_run_to_settle, F_run_to_settle, (He.glo_ok X G (c.fact 33 (f := .glo "run_to_settle") rfl)), (FunD.bindsN F_run_to_settle fun _ _ _ _ _ _ us hl => match us, hl with | [_], _ => rfl), _, fd_settles, F_settles, (He.glo_ok X G (c.fact 34 (f := .glo "settles") rfl)), (FunD.bindsN F_settles fun _ _ _ _ _ _ us hl => match us, hl with | [_], _ => rfl), _, fd_settled_row, F_settled_row, (He.glo_ok X G (c.fact 35 (f := .glo "settled_row") rfl)), (FunD.bindsN F_settled_row fun _ _ _ _ _ _ us hl => match us, hl with | [_, _], _ => rfl), _, fd_long_share, F_long_share, (He.glo_ok X G (c.fact 36 (f := .glo "long_share") rfl)), (FunD.bindsN F_long_share fun _ _ _ _ _ _ us hl => match us, hl with | [_, _], _ => rfl), _, fd_worst_run, F_worst_run, (He.glo_ok X G (c.fact 37 (f := .glo "worst_run") rfl)), (FunD.bindsN F_worst_run fun _ _ _ _ _ _ us hl => match us, hl with | [_, _], _ => rfl), _, fd__law_box, F__law_box, (He.glo_ok X G (c.fact 38 (f := .glo "_law_box") rfl)), (FunD.bindsN F__law_box fun _ _ _ _ _ _ us hl => match us, hl with | [_, _], _ => rfl), _, fd__law_take, F__law_take, (He.glo_ok X G (c.fact 39 (f := .glo "_law_take") rfl)), (FunD.bindsN F__law_take fun _ _ _ _ _ _ us hl => match us, hl with | [_, _], _ => rfl), _, fd__law_folded, F__law_folded, (He.glo_ok X G (c.fact 40 (f := .glo "_law_folded") rfl)), (FunD.bindsN F__law_folded fun _ _ _ _ _ _ us hl => match us, hl with | [_, _], _ => rfl), _, fd__law_lowest, F__law_lowest, (He.glo_ok X G (c.fact 41 (f := .glo "_law_lowest") rfl)), (FunD.bindsN F__law_lowest fun _ _ _ _ _ _ us hl => match us, hl with | [_, _], _ => rfl), _, fd__law_lcm, F__law_lcm, (He.glo_ok X G (c.fact 42 (f := .glo "_law_lcm") rfl)), (FunD.bindsN F__law_lcm fun _ _ _ _ _ _ us hl => match us, hl with | [_, _], _ => rfl), _, fd__law_counter, F__law_counter, (He.glo_ok X G (c.fact 43 (f := .glo "_law_counter") rfl)), (FunD.bindsN F__law_counter fun _ _ _ _ _ _ us hl => match us, hl with | [_, _], _ => rfl), _, fd__law_rounds, F__law_rounds, (He.glo_ok X G (c.fact 44 (f := .glo "_law_rounds") rfl)), (FunD.bindsN F__law_rounds fun _ _ _ _ _ _ us hl => match us, hl with | [_], _ => rfl), _, fd__law_refused, F__law_refused, (He.glo_ok X G (c.fact 45 (f := .glo "_law_refused") rfl)), (FunD.bindsN F__law_refused fun _ _ _ _ _ _ us hl => match us, hl with | [_, _, _], _ => rfl), _, fd__law_ahead, F__law_ahead, (He.glo_ok X G (c.fact 46 (f := .glo "_law_ahead") rfl)), (FunD.bindsN F__law_ahead fun _ _ _ _ _ _ us hl => match us, hl with | [_, _, _], _ => rfl), _, fd__law_worst, F__law_worst, (He.glo_ok X G (c.fact 47 (f := .glo "_law_worst") rfl)), (FunD.bindsN F__law_worst fun _ _ _ _ _ _ us hl => match us, hl with | [_, _], _ => rfl), _, fd__law_shares_right, F__law_shares_right, (He.glo_ok X G (c.fact 48 (f := .glo "_law_shares_right") rfl)), (FunD.bindsN F__law_shares_right fun _ _ _ _ _ _ us hl => match us, hl with | [_, _, _], _ => rfl), _, fd_law, F_law, (He.glo_ok X G (c.fact 49 (f := .glo "law") rfl)), (FunD.bindsN F_law fun _ _ _ _ _ _ us hl => match us, hl with | [_], _ => rfl), _, (He.glo_ok X G (c.fact 72 (f := .glo "Machine") rfl)), (He.cls_ok (c.fact 73 (f := .cls "Machine") rfl)), (He.mkr_ok (c.fact 74 (f := .mkr "Machine") rfl)), (He.noat_ok (c.fact 75 (f := .noat "Machine" "asks") rfl)), (He.noat_ok (c.fact 76 (f := .noat "Machine" "beats") rfl)), (He.noat_ok (c.fact 77 (f := .noat "Machine" "common") rfl)), (He.noat_ok (c.fact 78 (f := .noat "Machine" "counts") rfl)), (He.noat_ok (c.fact 79 (f := .noat "Machine" "held") rfl)), (He.noat_ok (c.fact 80 (f := .noat "Machine" "holding") rfl)), (He.noat_ok (c.fact 81 (f := .noat "Machine" "numbers") rfl)), (He.noat_ok (c.fact 82 (f := .noat "Machine" "pieces") rfl)), (He.meth_ok (c.fact 83 (f := .meth "Machine" "beat") rfl)), (He.meth_ok (c.fact 84 (f := .meth "Machine" "beats_now") rfl)), (He.meth_ok (c.fact 85 (f := .meth "Machine" "ones_now") rfl)), (He.meth_ok (c.fact 86 (f := .meth "Machine" "held_now") rfl)), (He.cT K ("settled_row", none)).1, (He.cT K ("settled_row", none)).2, codeAt, _, (He.glo_ok X G (c.fact 62 (f := .glo "OnesError") rfl)), _, (He.glo_ok X G (c.fact 63 (f := .glo "Unlike") rfl)), _, (He.glo_ok X G (c.fact 64 (f := .glo "NoSuch") rfl)), _, (He.glo_ok X G (c.fact 65 (f := .glo "NoOne") rfl)), _, (He.glo_ok X G (c.fact 66 (f := .glo "NoRound") rfl)), _, (He.glo_ok X G (c.fact 67 (f := .glo "BadText") rfl)), _, (He.glo_ok X G (c.fact 68 (f := .glo "BadSheet") rfl)), _, (He.glo_ok X G (c.fact 69 (f := .glo "ASKED") rfl)), rfl, (He.exc_ok (c.fact 70 (f := .exc "NoRound") rfl)).1, (He.exc_ok (c.fact 70 (f := .exc "NoRound") rfl)).2.1, (He.exc_ok (c.fact 70 (f := .exc "NoRound") rfl)).2.2.1, (He.exc_ok (c.fact 70 (f := .exc "NoRound") rfl)).2.2.2, ⟨h0, h1, h2, h3, h4, h5, h6, h7⟩, (He.exm_ok (c.fact 71 (f := .exm "NoRound" "OnesError" true) rfl)), h8, h9, h10, h11, h12, h13, h14, h15, (He.free_ok X G (c.fact 50 (f := .free "ValueError") rfl)), (He.free_ok X G (c.fact 51 (f := .free "abs") rfl)), (He.free_ok X G (c.fact 52 (f := .free "divmod") rfl)), (He.free_ok X G (c.fact 53 (f := .free "enumerate") rfl)), (He.free_ok X G (c.fact 54 (f := .free "int") rfl)), (He.free_ok X G (c.fact 55 (f := .free "isinstance") rfl)), (He.free_ok X G (c.fact 56 (f := .free "len") rfl)), (He.free_ok X G (c.fact 57 (f := .free "list") rfl)), (He.free_ok X G (c.fact 58 (f := .free "max") rfl)), (He.free_ok X G (c.fact 59 (f := .free "range") rfl)), (He.free_ok X G (c.fact 60 (f := .free "sum") rfl)), (He.free_ok X G (c.fact 61 (f := .free "tuple") rfl)), (He.int_ok X G (c.fact 87 (f := .int "MOST_SETTLING" 8192) rfl))⟩
  refine ⟨fd_law, htf.map (He.cT K), sp_law T, fun p hp => ?_, fun p hp => ?_, fun p hp => ?_, fun s v => b s [v] rfl, fun H a ns hl _ hH hS => ⟨a, ns, rfl, hS, hl, ?_, fun _ => rfl⟩, fun base _ _ TB => ok_law T ?_⟩
  · obtain ⟨q, hq, rfl⟩ := List.mem_map.mp hp
    exact cc.empty q hq
  · obtain ⟨q, hq, rfl⟩ := List.mem_map.mp hp
    exact cc.out q hq
  · obtain ⟨q, hq, rfl⟩ := List.mem_map.mp hp
    exact PySem.W.codeHd_of_K X (cc.hd q hq)
  · exact ⟨⟨#[], hH _ (List.mem_map.mpr ⟨_, List.mem_cons_self, rfl⟩), trip0⟩, trivial⟩
  · exact ⟨⟨(TB _ (List.mem_map.mpr ⟨_, List.mem_cons_self, rfl⟩)).code, (TB _ (List.mem_map.mpr ⟨_, List.mem_cons_self, rfl⟩)).bm, (TB _ (List.mem_map.mpr ⟨_, List.mem_cons_self, rfl⟩)).gP⟩⟩
end Fq
open PySem PySem.W PySem.Calls PyProof.Rows
set_option maxHeartbeats 0 in
theorem PySem.Challenge.cw_shareones_k53_rounds_too_long_holds : PySem.Challenge.rw_shareones_k53_rounds_too_long.Holds := by
  w_on; o_law
  refine HandSHeadRun.head_any (r := OpenLaw.row PySem.Challenge.rw_shareones_k53_rounds_too_long) (q := view (OpenLaw.row PySem.Challenge.rw_shareones_k53_rounds_too_long).prog [62]) (H := Fq.hk) (ob := Fq.ob) (M := 6000) (loose := Fq.loose) (d := HandSHeadRun.topDef (OpenLaw.row PySem.Challenge.rw_shareones_k53_rounds_too_long).prog 62) (kwd := []) Fq.ob_eq
    (by kernel_rfl) (fun s => by kernel_rfl) Fq.run (by kernel_rfl) (by kernel_rfl) (by kernel_rfl) (by rfl) (by first | assumption | decide +kernel) (by decide +kernel) ⟨rfl, rfl, rfl, rfl, rfl, by decide +kernel⟩ ?hw ?hc
  case hw => w_witness2
  case hc =>
    refine LamX.walk_ofTsE (l := PySem.Challenge.rw_shareones_k53_rounds_too_long) (n := 63) (k := 18) (x := "_law_script") (CX := fun _ => L2.CX0) rfl (by decide) (by kernel_rfl) ⟨rfl, by decide, by decide⟩ ?F (fun _ _ _ _ _ z => z)
    intro w mg fa h Y G hmg0
    obtain ⟨K, KX, c⟩ := Y
    have hmg : mg ("law" : PySem.Str) = some (.ref fa) := by
      have e : (HandSHeadRun.topDef (OpenLaw.row PySem.Challenge.rw_shareones_k53_rounds_too_long).prog 62).name = ("law" : PySem.Str) := by kernel_rfl
      rw [← e]
      exact hmg0
    exact ⟨K, KX, Fq.facts KX G hmg c⟩
