import PyProof.Rows.All
import Wide.All
import OpenK.AllK
import Wide.FinOn
import KE.KStateDown
import Lean
import HandS.ForMost
import HandS.Wide
import HandS.WideBits
import HandS.IsInst
import HandS.Walk
import HandS.Evl
import HandS.Style
import HandS.NoneIn
import HandS.Defaults
import HandS.Head0
import HandS.Head1
import HandS.Head2
import HandS.HeadEnd
import HandS.HeadHook1
import HandS.HeadHook2
import HandS.AnyAll
import HandS.Comp
import HandS.Conv
import HandS.Deep
import HandS.Dict
import HandS.DictComp
import HandS.EndTab
import HandS.Exc
import HandS.ExcIs
import HandS.ExcOwn
import HandS.FStr
import HandS.Flow
import HandS.GenBody
import HandS.GenList
import HandS.GenOver
import HandS.HeadHook3
import HandS.HeadHook4
import HandS.HeadWalk
import HandS.Iter
import HandS.Keys
import HandS.More
import HandS.Replace
import HandS.ReplaceDef
import HandS.ReplaceList
import HandS.ReplaceLit
import HandS.Set
import HandS.SetBool
import HandS.SetFor
import HandS.Small
import HandS.SortInts
import HandS.SortKw
import HandS.SortRule
import HandS.Star
import HandS.Steps
import HandS.StrMore
import HandS.Strs
import HandS.Style
import HandS.Text
import HandS.TryOnly
import HandS.TupAny
import HandS.TupLen
import HandS.TupMul
import HandS.Walk
import HandS.WordsDict
import HandS.WordsExc
import HandS.Zip
import KE.DataMinMax
import KE.GoesEnum
import KE.GoesMore
import KE.GoesSet
import KE.GoesZip
import KE.KDictWalk
import KE.KDictZip
import KE.KNest
import KE.KStar
import PyProof.ConsumeS
import PyProof.GenArm
import PyProof.GenComp
import PyProof.GenCompT
import PyProof.GenQ
import PyProof.JoinWalk
import PyProof.ReprLen
import PyProof.ReprRoads
import PyProof.Rows.MatchSeqLen
import PyProof.RulesMatch
import PyProof.RulesMatchSeq
import PyProof.TupleOfGen
import PySem.Challenge.RW_shareones_k57_texts_spoilt_anywhere
set_option Elab.async false
set_option pp.maxSteps 250
set_option linter.all false
set_option maxRecDepth 100000
set_option maxHeartbeats 4000000
namespace Fq
open PySem PySem.Spec PyProof.Rows L2
/-! a dict of the program's top, texts to numbers -/
def entI (e : DictEntry) : Option (Str × Int) := match e.key, e.val with
  | .str x _, .int i _ => some (x, i)
  | _, _ => none
def dicB (K : PySem.W.Frag) (a : Addr) (kvs : List (Str × Int)) : Bool := match K.lookup a with
  | some ⟨_, _, .dict es _, _⟩ => decide (es.toList.map entI = kvs.map some)
  | _ => false
def dl_SIDES : List (Str × Int) := [("less", 1), ("both", 2), ("either", 2), ("oneof", 2), ("pick", 3)]
class DW (K : PySem.W.Frag) (w : World) : Prop where
  k_SIDES : ∃ es n, KDict K w (He.ga K "SIDES") es n
  v_SIDES : dicB K (He.ga K "SIDES") dl_SIDES = true
section
variable {P : Program} {w : World} {K : PySem.W.Frag} {mg : Str → Option Value} {base : Heap} [DW K w]
def topS (i : Nat) : Stmt := PySem.Challenge.pw_shareones_k57_texts_spoilt_anywhere.main.body.getD i (.Pass ⟨0, 0, 0, 0⟩)
abbrev FnP (K : PySem.W.Frag) (x : Str) (st : Stmt) (f : Addr) (fd : FuncData) : Prop := FunD K x x (defArgs st) (defBody st) (defScope st) [] [] f fd
abbrev s_is_number : Stmt := topS 9
abbrev N_is_number : List Str := ["thing"]
theorem sc_is_number : FnScope N_is_number ["thing"] (defScope s_is_number) := ⟨rfl, rfl, rfl, by decide +kernel, rfl, by decide +kernel, by decide +kernel⟩
abbrev s_is_within : Stmt := topS 10
abbrev N_is_within : List Str := ["thing", "least", "greatest"]
theorem sc_is_within : FnScope N_is_within ["thing", "least", "greatest"] (defScope s_is_within) := ⟨rfl, rfl, rfl, by decide +kernel, rfl, by decide +kernel, by decide +kernel⟩
abbrev s_common_divisor : Stmt := topS 11
abbrev N_common_divisor : List Str := ["one", "other"]
theorem sc_common_divisor : FnScope N_common_divisor ["one", "other"] (defScope s_common_divisor) := ⟨rfl, rfl, rfl, by decide +kernel, rfl, by decide +kernel, by decide +kernel⟩
abbrev s_is_bit : Stmt := topS 14
abbrev N_is_bit : List Str := ["thing"]
theorem sc_is_bit : FnScope N_is_bit ["thing"] (defScope s_is_bit) := ⟨rfl, rfl, rfl, by decide +kernel, rfl, by decide +kernel, by decide +kernel⟩
abbrev s_is_row : Stmt := topS 15
abbrev N_is_row : List Str := ["thing", "bit"]
theorem sc_is_row : FnScope N_is_row ["thing"] (defScope s_is_row) := ⟨rfl, rfl, rfl, by decide +kernel, rfl, by decide +kernel, by decide +kernel⟩
abbrev s_is_table : Stmt := topS 18
abbrev N_is_table : List Str := ["thing", "number"]
theorem sc_is_table : FnScope N_is_table ["thing"] (defScope s_is_table) := ⟨rfl, rfl, rfl, by decide +kernel, rfl, by decide +kernel, by decide +kernel⟩
abbrev s_is_plain : Stmt := topS 19
abbrev N_is_plain : List Str := ["thing", "size", "step", "start", "wide", "taps", "numbers"]
theorem sc_is_plain : FnScope N_is_plain ["thing"] (defScope s_is_plain) := ⟨rfl, rfl, rfl, by decide +kernel, rfl, by decide +kernel, by decide +kernel⟩
abbrev s_is_around : Stmt := topS 20
abbrev N_is_around : List Str := ["thing", "word", "many", "inner"]
theorem sc_is_around : FnScope N_is_around ["thing"] (defScope s_is_around) := ⟨rfl, rfl, rfl, by decide +kernel, rfl, by decide +kernel, by decide +kernel⟩
abbrev s_is_maker : Stmt := topS 21
abbrev N_is_maker : List Str := ["thing", "inner", "around"]
theorem sc_is_maker : FnScope N_is_maker ["thing"] (defScope s_is_maker) := ⟨rfl, rfl, rfl, by decide +kernel, rfl, by decide +kernel, by decide +kernel⟩
abbrev s_counter_round : Stmt := topS 22
abbrev N_counter_round : List Str := ["size", "step", "start", "t"]
theorem sc_counter_round : FnScope N_counter_round ["size", "step", "start"] (defScope s_counter_round) := ⟨rfl, rfl, rfl, by decide +kernel, rfl, by decide +kernel, by decide +kernel⟩
abbrev s_last_for_first : Stmt := topS 23
abbrev N_last_for_first : List Str := ["number", "wide", "told", "at"]
theorem sc_last_for_first : FnScope N_last_for_first ["number", "wide"] (defScope s_last_for_first) := ⟨rfl, rfl, rfl, by decide +kernel, rfl, by decide +kernel, by decide +kernel⟩
abbrev s_size_of : Stmt := topS 24
abbrev N_size_of : List Str := ["wide"]
theorem sc_size_of : FnScope N_size_of ["wide"] (defScope s_size_of) := ⟨rfl, rfl, rfl, by decide +kernel, rfl, by decide +kernel, by decide +kernel⟩
abbrev s_turned_round : Stmt := topS 25
abbrev N_turned_round : List Str := ["wide", "start", "size", "t"]
theorem sc_turned_round : FnScope N_turned_round ["wide", "start"] (defScope s_turned_round) := ⟨rfl, rfl, rfl, by decide +kernel, rfl, by decide +kernel, by decide +kernel⟩
abbrev s_odd_ones : Stmt := topS 26
abbrev N_odd_ones : List Str := ["number", "odd"]
theorem sc_odd_ones : FnScope N_odd_ones ["number"] (defScope s_odd_ones) := ⟨rfl, rfl, rfl, by decide +kernel, rfl, by decide +kernel, by decide +kernel⟩
abbrev s_held_round : Stmt := topS 27
abbrev N_held_round : List Str := ["wide", "taps", "start", "size", "told", "held"]
theorem sc_held_round : FnScope N_held_round ["wide", "taps", "start"] (defScope s_held_round) := ⟨rfl, rfl, rfl, by decide +kernel, rfl, by decide +kernel, by decide +kernel⟩
abbrev s_plain_round : Stmt := topS 28
abbrev N_plain_round : List Str := ["maker", "size", "step", "start", "wide", "taps", "numbers"]
theorem sc_plain_round : FnScope N_plain_round ["maker"] (defScope s_plain_round) := ⟨rfl, rfl, rfl, by decide +kernel, rfl, by decide +kernel, by decide +kernel⟩
abbrev s_round_of : Stmt := topS 29
abbrev N_round_of : List Str := ["maker", "many", "inner", "length", "by"]
theorem sc_round_of : FnScope N_round_of ["maker"] (defScope s_round_of) := ⟨rfl, rfl, rfl, by decide +kernel, rfl, by decide +kernel, by decide +kernel⟩
abbrev s_is_part : Stmt := topS 35
abbrev N_is_part : List Str := ["thing"]
theorem sc_is_part : FnScope N_is_part ["thing"] (defScope s_is_part) := ⟨rfl, rfl, rfl, by decide +kernel, rfl, by decide +kernel, by decide +kernel⟩
abbrev s_sides_of : Stmt := topS 36
abbrev N_sides_of : List Str := ["part"]
theorem sc_sides_of : FnScope N_sides_of ["part"] (defScope s_sides_of) := ⟨rfl, rfl, rfl, by decide +kernel, rfl, by decide +kernel, by decide +kernel⟩
abbrev s_is_formula : Stmt := topS 37
abbrev N_is_formula : List Str := ["thing", "waiting", "parts", "part", "depth", "side"]
theorem sc_is_formula : FnScope N_is_formula ["thing"] (defScope s_is_formula) := ⟨rfl, rfl, rfl, by decide +kernel, rfl, by decide +kernel, by decide +kernel⟩
abbrev s_number_from : Stmt := topS 40
abbrev N_number_from : List Str := ["text", "number"]
theorem sc_number_from : FnScope N_number_from ["text"] (defScope s_number_from) := ⟨rfl, rfl, rfl, by decide +kernel, rfl, by decide +kernel, by decide +kernel⟩
abbrev s_word_from : Stmt := topS 41
abbrev N_word_from : List Str := ["text", "number"]
theorem sc_word_from : FnScope N_word_from ["text"] (defScope s_word_from) := ⟨rfl, rfl, rfl, by decide +kernel, rfl, by decide +kernel, by decide +kernel⟩
abbrev s_shaped : Stmt := topS 42
abbrev N_shaped : List Str := ["parts"]
theorem sc_shaped : FnScope N_shaped ["parts"] (defScope s_shaped) := ⟨rfl, rfl, rfl, by decide +kernel, rfl, by decide +kernel, by decide +kernel⟩
abbrev s_nested_from : Stmt := topS 43
abbrev N_nested_from : List Str := ["text", "words", "levels", "word", "inner"]
theorem sc_nested_from : FnScope N_nested_from ["text"] (defScope s_nested_from) := ⟨rfl, rfl, rfl, by decide +kernel, rfl, by decide +kernel, by decide +kernel⟩
abbrev s_row_from : Stmt := topS 44
abbrev N_row_from : List Str := ["text", "row", "sign"]
theorem sc_row_from : FnScope N_row_from ["text"] (defScope s_row_from) := ⟨rfl, rfl, rfl, by decide +kernel, rfl, by decide +kernel, by decide +kernel⟩
abbrev s_maker_from : Stmt := topS 45
abbrev N_maker_from : List Str := ["text", "maker"]
theorem sc_maker_from : FnScope N_maker_from ["text"] (defScope s_maker_from) := ⟨rfl, rfl, rfl, by decide +kernel, rfl, by decide +kernel, by decide +kernel⟩
abbrev s_formula_from : Stmt := topS 46
abbrev N_formula_from : List Str := ["text", "formula"]
theorem sc_formula_from : FnScope N_formula_from ["text"] (defScope s_formula_from) := ⟨rfl, rfl, rfl, by decide +kernel, rfl, by decide +kernel, by decide +kernel⟩
abbrev s__law_box : Stmt := topS 48
abbrev N__law_box : List Str := ["_law_script", "_law_k", "_law_cell"]
theorem sc__law_box : FnScope N__law_box ["_law_script", "_law_k"] (defScope s__law_box) := ⟨rfl, rfl, rfl, by decide +kernel, rfl, by decide +kernel, by decide +kernel⟩
abbrev s__law_take : Stmt := topS 49
abbrev N__law_take : List Str := ["_law_box_here", "_law_many", "_law_found", "_law_once"]
theorem sc__law_take : FnScope N__law_take ["_law_box_here", "_law_many"] (defScope s__law_take) := ⟨rfl, rfl, rfl, by decide +kernel, rfl, by decide +kernel, by decide +kernel⟩
abbrev s__law_folded : Stmt := topS 50
abbrev N__law_folded : List Str := ["_law_script", "_law_many", "_law_cells", "_law_k", "_law_cell"]
theorem sc__law_folded : FnScope N__law_folded ["_law_script", "_law_many"] (defScope s__law_folded) := ⟨rfl, rfl, rfl, by decide +kernel, rfl, by decide +kernel, by decide +kernel⟩
abbrev s__law_divisor : Stmt := topS 51
abbrev N__law_divisor : List Str := ["_law_one", "_law_other"]
theorem sc__law_divisor : FnScope N__law_divisor ["_law_one", "_law_other"] (defScope s__law_divisor) := ⟨rfl, rfl, rfl, by decide +kernel, rfl, by decide +kernel, by decide +kernel⟩
abbrev s__law_powers : Stmt := topS 52
abbrev N__law_powers : List Str := []
theorem sc__law_powers : FnScope N__law_powers [] (defScope s__law_powers) := ⟨rfl, rfl, rfl, by decide +kernel, rfl, by decide +kernel, by decide +kernel⟩
abbrev s__law_plain : Stmt := topS 53
abbrev N__law_plain : List Str := ["_law_box_here", "_law_way", "_law_great", "_law_many", "_law_steps", "_law_most", "_law_wide", "_law_step", "_law_place"]
theorem sc__law_plain : FnScope N__law_plain ["_law_box_here"] (defScope s__law_plain) := ⟨rfl, rfl, rfl, by decide +kernel, rfl, by decide +kernel, by decide +kernel⟩
abbrev s__law_base : Stmt := topS 54
abbrev N__law_base : List Str := ["_law_maker_here", "_law_found", "_law_many", "_law_t", "_law_bits", "_law_held", "_law_odd", "_law_power", "_law_bit"]
theorem sc__law_base : FnScope N__law_base ["_law_maker_here"] (defScope s__law_base) := ⟨rfl, rfl, rfl, by decide +kernel, rfl, by decide +kernel, by decide +kernel⟩
abbrev s__law_round : Stmt := topS 55
abbrev N__law_round : List Str := ["_law_maker_here", "_law_inner"]
theorem sc__law_round : FnScope N__law_round ["_law_maker_here"] (defScope s__law_round) := ⟨rfl, rfl, rfl, by decide +kernel, rfl, by decide +kernel, by decide +kernel⟩
abbrev s__law_maker : Stmt := topS 56
abbrev N__law_maker : List Str := ["_law_box_here", "_law_most", "_law_maker_here", "_law_turn", "_law_word", "_law_many", "_law_thing"]
theorem sc__law_maker : FnScope N__law_maker ["_law_box_here", "_law_most"] (defScope s__law_maker) := ⟨rfl, rfl, rfl, by decide +kernel, rfl, by decide +kernel, by decide +kernel⟩
abbrev s__law_formula : Stmt := topS 57
abbrev N__law_formula : List Str := ["_law_box_here", "_law_deep", "_law_many", "_law_wide", "_law_way", "_law_left", "_law_word", "_law_turn"]
theorem sc__law_formula : FnScope N__law_formula ["_law_box_here", "_law_deep", "_law_many", "_law_wide"] (defScope s__law_formula) := ⟨rfl, rfl, rfl, by decide +kernel, rfl, by decide +kernel, by decide +kernel⟩
abbrev s__law_any : Stmt := topS 58
abbrev N__law_any : List Str := ["_law_box_here", "_law_great", "_law_wide"]
theorem sc__law_any : FnScope N__law_any ["_law_box_here"] (defScope s__law_any) := ⟨rfl, rfl, rfl, by decide +kernel, rfl, by decide +kernel, by decide +kernel⟩
abbrev s__law_signs : Stmt := topS 59
abbrev N__law_signs : List Str := ["_law_some"]
theorem sc__law_signs : FnScope N__law_signs [] (defScope s__law_signs) := ⟨rfl, rfl, rfl, by decide +kernel, rfl, by decide +kernel, by decide +kernel⟩
abbrev s__law_written : Stmt := topS 60
abbrev N__law_written : List Str := ["_law_thing", "_law_found", "_law_part", "_law_number"]
theorem sc__law_written : FnScope N__law_written ["_law_thing"] (defScope s__law_written) := ⟨rfl, rfl, rfl, by decide +kernel, rfl, by decide +kernel, by decide +kernel⟩
abbrev s__law_is_number : Stmt := topS 61
abbrev N__law_is_number : List Str := ["_law_thing", "_law_least", "_law_most"]
theorem sc__law_is_number : FnScope N__law_is_number ["_law_thing", "_law_least", "_law_most"] (defScope s__law_is_number) := ⟨rfl, rfl, rfl, by decide +kernel, rfl, by decide +kernel, by decide +kernel⟩
abbrev s__law_fits : Stmt := topS 62
abbrev N__law_fits : List Str := ["_law_thing", "_law_word", "_law_rest", "_law_right", "_law_many", "_law_number"]
theorem sc__law_fits : FnScope N__law_fits ["_law_thing"] (defScope s__law_fits) := ⟨rfl, rfl, rfl, by decide +kernel, rfl, by decide +kernel, by decide +kernel⟩
abbrev s__law_clauses : Stmt := topS 63
abbrev N__law_clauses : List Str := ["_law_thing", "_law_left"]
theorem sc__law_clauses : FnScope N__law_clauses ["_law_thing", "_law_left"] (defScope s__law_clauses) := ⟨rfl, rfl, rfl, by decide +kernel, rfl, by decide +kernel, by decide +kernel⟩
abbrev s__law_word_at : Stmt := topS 64
abbrev N__law_word_at : List Str := ["_law_text", "_law_at", "_law_end"]
theorem sc__law_word_at : FnScope N__law_word_at ["_law_text", "_law_at"] (defScope s__law_word_at) := ⟨rfl, rfl, rfl, by decide +kernel, rfl, by decide +kernel, by decide +kernel⟩
abbrev s__law_number_at : Stmt := topS 65
abbrev N__law_number_at : List Str := ["_law_text", "_law_at", "_law_end", "_law_figures"]
theorem sc__law_number_at : FnScope N__law_number_at ["_law_text", "_law_at"] (defScope s__law_number_at) := ⟨rfl, rfl, rfl, by decide +kernel, rfl, by decide +kernel, by decide +kernel⟩
abbrev s__law_thing_at : Stmt := topS 66
abbrev N__law_thing_at : List Str := ["_law_text", "_law_at", "_law_words", "_law_deep", "_law_word", "_law_found", "_law_inner", "_law_number"]
theorem sc__law_thing_at : FnScope N__law_thing_at ["_law_text", "_law_at", "_law_words", "_law_deep"] (defScope s__law_thing_at) := ⟨rfl, rfl, rfl, by decide +kernel, rfl, by decide +kernel, by decide +kernel⟩
abbrev s__law_measure : Stmt := topS 67
abbrev N__law_measure : List Str := ["_law_thing", "_law_many", "_law_some", "_law_part", "_law_one", "_law_deep"]
theorem sc__law_measure : FnScope N__law_measure ["_law_thing"] (defScope s__law_measure) := ⟨rfl, rfl, rfl, by decide +kernel, rfl, by decide +kernel, by decide +kernel⟩
abbrev s__law_due : Stmt := topS 68
abbrev N__law_due : List Str := ["_law_which", "_law_text", "_law_right", "_law_words", "_law_found", "_law_measure_here", "_law_sign"]
theorem sc__law_due : FnScope N__law_due ["_law_which", "_law_text"] (defScope s__law_due) := ⟨rfl, rfl, rfl, by decide +kernel, rfl, by decide +kernel, by decide +kernel⟩
abbrev s__law_told : Stmt := topS 69
abbrev N__law_told : List Str := ["_law_which", "_law_text", "_law_found", "_law_caught", "error", "_law_others"]
theorem sc__law_told : FnScope N__law_told ["_law_which", "_law_text"] (defScope s__law_told) := ⟨rfl, rfl, rfl, by decide +kernel, rfl, by decide +kernel, by decide +kernel⟩
abbrev s__law_spoilt : Stmt := topS 70
abbrev N__law_spoilt : List Str := ["_law_box_here", "_law_text", "_law_way", "_law_at", "_law_signs_here", "_law_sign", "_law_ahead", "_law_tail", "_law_end", "_law_some"]
theorem sc__law_spoilt : FnScope N__law_spoilt ["_law_box_here", "_law_text"] (defScope s__law_spoilt) := ⟨rfl, rfl, rfl, by decide +kernel, rfl, by decide +kernel, by decide +kernel⟩
abbrev s_law : Stmt := topS 71
abbrev N_law : List Str := ["_law_script", "_law_cells", "_law_k", "_law_box_here", "_law_row", "_law_maker_here", "_law_formula_here", "_law_texts", "_law_which", "_law_text", "_law_more", "_law_word", "_law_many", "_law_odd", "_law_turn", "_law_thing", "_law_bit"]
theorem sc_law : FnScope N_law ["_law_script"] (defScope s_law) := ⟨rfl, rfl, rfl, by decide +kernel, rfl, by decide +kernel, by decide +kernel⟩
/-- the code object of the def at f is the one at c -/
def CodeAt (K : PySem.W.Frag) (f c : Addr) : Prop := ∀ (oc : Value) (od : Option Addr) (fd : FuncData) (osl : Array (Option Value)), K.lookup f = some ⟨oc, od, .func fd, osl⟩ → ∀ b, fd.code = .ref b → b = c
theorem okC {P : Program} {w : World} {K : PySem.W.Frag} {mg : Str → Option Value} {base : Heap} {x : Str} {st : Stmt} {f c : Addr} {fd : FuncData} {N ps : List Str} {k : Nat} {sp : Sp} (F : FnP K x st f fd) (hc : CodeAt K f c) (S : FnScope N ps (defScope st)) (len : ∀ vs H Q E, sp vs H Q E → vs.length = ps.length)
    (hb : ∀ (A : Around) (outer : List Env) (s : Shared) (H : Hp) (vs : List V) (Q : VK) (E : XK), Room k (A.deeper (envOfC x (defScope st) s.heap.objs.size f (.ref c))) → sp vs H Q E →
      ∃ t, PSs (cxOf CX0 P w K mg base N x (defScope st) f (.ref c) A outer s H E) (defBody st) t ∧ t { nx := fun _ H' => Q .non H', rt := Q } (L2.start N vs) H) : FnOk P w K mg base CX0 (k + 1) f fd ps sp := by
  obtain ⟨oc, od, dV, kV, doc, pm, an, cdv, ct, osl, rfl, lk, hcd, _, _⟩ := F.ex
  obtain ⟨b, rfl⟩ := He.codeIn_ref hcd
  have e := hc oc od _ osl lk b rfl
  subst e
  exact fn_of lk hcd S len hb
theorem okX {P : Program} {w : World} {K : PySem.W.Frag} {mg : Str → Option Value} {base : Heap} {x : Str} {st : Stmt} {f : Addr} {fd : FuncData} {N ps : List Str} {k : Nat} {sp : Sp} (F : FnP K x st f fd) (S : FnScope N ps (defScope st)) (len : ∀ vs H Q E, sp vs H Q E → vs.length = ps.length)
    (hb : ∀ (cdv : Value) (A : Around) (outer : List Env) (s : Shared) (H : Hp) (vs : List V) (Q : VK) (E : XK), Room k (A.deeper (envOfC x (defScope st) s.heap.objs.size f cdv)) → sp vs H Q E →
      ∃ t, PSs (cxOf (L2.CX P w) P w K mg base N x (defScope st) f cdv A outer s H E) (defBody st) t ∧ t { nx := fun _ H' => Q .non H', rt := Q } (L2.start N vs) H) : FnOk P w K mg base (L2.CX P w) (k + 1) f fd ps sp := by
  obtain ⟨oc, od, dV, kV, doc, pm, an, cdv, ct, osl, rfl, lk, hcd, _, _⟩ := F.ex
  exact fn_of lk hcd S len fun A outer s H vs Q E hr h => hb cdv A outer s H vs Q E hr h
theorem okXC {P : Program} {w : World} {K : PySem.W.Frag} {mg : Str → Option Value} {base : Heap} {x : Str} {st : Stmt} {f c : Addr} {fd : FuncData} {N ps : List Str} {k : Nat} {sp : Sp} (F : FnP K x st f fd) (hc : CodeAt K f c) (S : FnScope N ps (defScope st)) (len : ∀ vs H Q E, sp vs H Q E → vs.length = ps.length)
    (hb : ∀ (A : Around) (outer : List Env) (s : Shared) (H : Hp) (vs : List V) (Q : VK) (E : XK), Room k (A.deeper (envOfC x (defScope st) s.heap.objs.size f (.ref c))) → sp vs H Q E →
      ∃ t, PSs (cxOf (L2.CX P w) P w K mg base N x (defScope st) f (.ref c) A outer s H E) (defBody st) t ∧ t { nx := fun _ H' => Q .non H', rt := Q } (L2.start N vs) H) : FnOk P w K mg base (L2.CX P w) (k + 1) f fd ps sp := by
  obtain ⟨oc, od, dV, kV, doc, pm, an, cdv, ct, osl, rfl, lk, hcd, _, _⟩ := F.ex
  obtain ⟨b, rfl⟩ := He.codeIn_ref hcd
  have e := hc oc od _ osl lk b rfl
  subst e
  exact fn_of lk hcd S len hb
theorem pe_globI {X : Cx} {x : Str} {i : Int} {pos : Pos} (hg : Gl X x) (hm : ∃ t, X.mg x = some (.int i t)) (hd : (x == ("__debug__" : Str)) = false := by decide) : PE X (.Name x pos) (tC (.int i)) := by
  obtain ⟨t, h⟩ := hm
  exact pe_glob hg h ⟨_, rfl⟩ hd
structure Defs (K : PySem.W.Frag) (mg : Str → Option Value) where
  f_is_number : Addr
  fd_is_number : FuncData
  F_is_number : FnP K "is_number" s_is_number f_is_number fd_is_number
  g_is_number : mg "is_number" = some (.ref f_is_number)
  b_is_number : Binds K fd_is_number ["thing"] []
  f_is_within : Addr
  fd_is_within : FuncData
  F_is_within : FnP K "is_within" s_is_within f_is_within fd_is_within
  g_is_within : mg "is_within" = some (.ref f_is_within)
  b_is_within : Binds K fd_is_within ["thing", "least", "greatest"] []
  f_common_divisor : Addr
  fd_common_divisor : FuncData
  F_common_divisor : FnP K "common_divisor" s_common_divisor f_common_divisor fd_common_divisor
  g_common_divisor : mg "common_divisor" = some (.ref f_common_divisor)
  b_common_divisor : Binds K fd_common_divisor ["one", "other"] []
  f_is_bit : Addr
  fd_is_bit : FuncData
  F_is_bit : FnP K "is_bit" s_is_bit f_is_bit fd_is_bit
  g_is_bit : mg "is_bit" = some (.ref f_is_bit)
  b_is_bit : Binds K fd_is_bit ["thing"] []
  f_is_row : Addr
  fd_is_row : FuncData
  F_is_row : FnP K "is_row" s_is_row f_is_row fd_is_row
  g_is_row : mg "is_row" = some (.ref f_is_row)
  b_is_row : Binds K fd_is_row ["thing"] []
  f_is_table : Addr
  fd_is_table : FuncData
  F_is_table : FnP K "is_table" s_is_table f_is_table fd_is_table
  g_is_table : mg "is_table" = some (.ref f_is_table)
  b_is_table : Binds K fd_is_table ["thing"] []
  f_is_plain : Addr
  fd_is_plain : FuncData
  F_is_plain : FnP K "is_plain" s_is_plain f_is_plain fd_is_plain
  g_is_plain : mg "is_plain" = some (.ref f_is_plain)
  b_is_plain : Binds K fd_is_plain ["thing"] []
  f_is_around : Addr
  fd_is_around : FuncData
  F_is_around : FnP K "is_around" s_is_around f_is_around fd_is_around
  g_is_around : mg "is_around" = some (.ref f_is_around)
  b_is_around : Binds K fd_is_around ["thing"] []
  f_is_maker : Addr
  fd_is_maker : FuncData
  F_is_maker : FnP K "is_maker" s_is_maker f_is_maker fd_is_maker
  g_is_maker : mg "is_maker" = some (.ref f_is_maker)
  b_is_maker : Binds K fd_is_maker ["thing"] []
  f_counter_round : Addr
  fd_counter_round : FuncData
  F_counter_round : FnP K "counter_round" s_counter_round f_counter_round fd_counter_round
  g_counter_round : mg "counter_round" = some (.ref f_counter_round)
  b_counter_round : Binds K fd_counter_round ["size", "step", "start"] []
  f_last_for_first : Addr
  fd_last_for_first : FuncData
  F_last_for_first : FnP K "last_for_first" s_last_for_first f_last_for_first fd_last_for_first
  g_last_for_first : mg "last_for_first" = some (.ref f_last_for_first)
  b_last_for_first : Binds K fd_last_for_first ["number", "wide"] []
  f_size_of : Addr
  fd_size_of : FuncData
  F_size_of : FnP K "size_of" s_size_of f_size_of fd_size_of
  g_size_of : mg "size_of" = some (.ref f_size_of)
  b_size_of : Binds K fd_size_of ["wide"] []
  f_turned_round : Addr
  fd_turned_round : FuncData
  F_turned_round : FnP K "turned_round" s_turned_round f_turned_round fd_turned_round
  g_turned_round : mg "turned_round" = some (.ref f_turned_round)
  b_turned_round : Binds K fd_turned_round ["wide", "start"] []
  f_odd_ones : Addr
  fd_odd_ones : FuncData
  F_odd_ones : FnP K "odd_ones" s_odd_ones f_odd_ones fd_odd_ones
  g_odd_ones : mg "odd_ones" = some (.ref f_odd_ones)
  b_odd_ones : Binds K fd_odd_ones ["number"] []
  f_held_round : Addr
  fd_held_round : FuncData
  F_held_round : FnP K "held_round" s_held_round f_held_round fd_held_round
  g_held_round : mg "held_round" = some (.ref f_held_round)
  b_held_round : Binds K fd_held_round ["wide", "taps", "start"] []
  f_plain_round : Addr
  fd_plain_round : FuncData
  F_plain_round : FnP K "plain_round" s_plain_round f_plain_round fd_plain_round
  g_plain_round : mg "plain_round" = some (.ref f_plain_round)
  b_plain_round : Binds K fd_plain_round ["maker"] []
  f_round_of : Addr
  fd_round_of : FuncData
  F_round_of : FnP K "round_of" s_round_of f_round_of fd_round_of
  g_round_of : mg "round_of" = some (.ref f_round_of)
  b_round_of : Binds K fd_round_of ["maker"] []
  f_is_part : Addr
  fd_is_part : FuncData
  F_is_part : FnP K "is_part" s_is_part f_is_part fd_is_part
  g_is_part : mg "is_part" = some (.ref f_is_part)
  b_is_part : Binds K fd_is_part ["thing"] []
  f_sides_of : Addr
  fd_sides_of : FuncData
  F_sides_of : FnP K "sides_of" s_sides_of f_sides_of fd_sides_of
  g_sides_of : mg "sides_of" = some (.ref f_sides_of)
  b_sides_of : Binds K fd_sides_of ["part"] []
  f_is_formula : Addr
  fd_is_formula : FuncData
  F_is_formula : FnP K "is_formula" s_is_formula f_is_formula fd_is_formula
  g_is_formula : mg "is_formula" = some (.ref f_is_formula)
  b_is_formula : Binds K fd_is_formula ["thing"] []
  f_number_from : Addr
  fd_number_from : FuncData
  F_number_from : FnP K "number_from" s_number_from f_number_from fd_number_from
  g_number_from : mg "number_from" = some (.ref f_number_from)
  b_number_from : Binds K fd_number_from ["text"] []
  f_word_from : Addr
  fd_word_from : FuncData
  F_word_from : FnP K "word_from" s_word_from f_word_from fd_word_from
  g_word_from : mg "word_from" = some (.ref f_word_from)
  b_word_from : Binds K fd_word_from ["text"] []
  f_shaped : Addr
  fd_shaped : FuncData
  F_shaped : FnP K "shaped" s_shaped f_shaped fd_shaped
  g_shaped : mg "shaped" = some (.ref f_shaped)
  b_shaped : Binds K fd_shaped ["parts"] []
  f_nested_from : Addr
  fd_nested_from : FuncData
  F_nested_from : FnP K "nested_from" s_nested_from f_nested_from fd_nested_from
  g_nested_from : mg "nested_from" = some (.ref f_nested_from)
  b_nested_from : Binds K fd_nested_from ["text"] []
  f_row_from : Addr
  fd_row_from : FuncData
  F_row_from : FnP K "row_from" s_row_from f_row_from fd_row_from
  g_row_from : mg "row_from" = some (.ref f_row_from)
  b_row_from : Binds K fd_row_from ["text"] []
  f_maker_from : Addr
  fd_maker_from : FuncData
  F_maker_from : FnP K "maker_from" s_maker_from f_maker_from fd_maker_from
  g_maker_from : mg "maker_from" = some (.ref f_maker_from)
  b_maker_from : Binds K fd_maker_from ["text"] []
  f_formula_from : Addr
  fd_formula_from : FuncData
  F_formula_from : FnP K "formula_from" s_formula_from f_formula_from fd_formula_from
  g_formula_from : mg "formula_from" = some (.ref f_formula_from)
  b_formula_from : Binds K fd_formula_from ["text"] []
  f__law_box : Addr
  fd__law_box : FuncData
  F__law_box : FnP K "_law_box" s__law_box f__law_box fd__law_box
  g__law_box : mg "_law_box" = some (.ref f__law_box)
  b__law_box : Binds K fd__law_box ["_law_script", "_law_k"] []
  f__law_take : Addr
  fd__law_take : FuncData
  F__law_take : FnP K "_law_take" s__law_take f__law_take fd__law_take
  g__law_take : mg "_law_take" = some (.ref f__law_take)
  b__law_take : Binds K fd__law_take ["_law_box_here", "_law_many"] []
  f__law_folded : Addr
  fd__law_folded : FuncData
  F__law_folded : FnP K "_law_folded" s__law_folded f__law_folded fd__law_folded
  g__law_folded : mg "_law_folded" = some (.ref f__law_folded)
  b__law_folded : Binds K fd__law_folded ["_law_script", "_law_many"] []
  f__law_divisor : Addr
  fd__law_divisor : FuncData
  F__law_divisor : FnP K "_law_divisor" s__law_divisor f__law_divisor fd__law_divisor
  g__law_divisor : mg "_law_divisor" = some (.ref f__law_divisor)
  b__law_divisor : Binds K fd__law_divisor ["_law_one", "_law_other"] []
  f__law_powers : Addr
  fd__law_powers : FuncData
  F__law_powers : FnP K "_law_powers" s__law_powers f__law_powers fd__law_powers
  g__law_powers : mg "_law_powers" = some (.ref f__law_powers)
  b__law_powers : Binds K fd__law_powers [] []
  f__law_plain : Addr
  fd__law_plain : FuncData
  F__law_plain : FnP K "_law_plain" s__law_plain f__law_plain fd__law_plain
  g__law_plain : mg "_law_plain" = some (.ref f__law_plain)
  b__law_plain : Binds K fd__law_plain ["_law_box_here"] []
  f__law_base : Addr
  fd__law_base : FuncData
  F__law_base : FnP K "_law_base" s__law_base f__law_base fd__law_base
  g__law_base : mg "_law_base" = some (.ref f__law_base)
  b__law_base : Binds K fd__law_base ["_law_maker_here"] []
  f__law_round : Addr
  fd__law_round : FuncData
  F__law_round : FnP K "_law_round" s__law_round f__law_round fd__law_round
  g__law_round : mg "_law_round" = some (.ref f__law_round)
  b__law_round : Binds K fd__law_round ["_law_maker_here"] []
  f__law_maker : Addr
  fd__law_maker : FuncData
  F__law_maker : FnP K "_law_maker" s__law_maker f__law_maker fd__law_maker
  g__law_maker : mg "_law_maker" = some (.ref f__law_maker)
  b__law_maker : Binds K fd__law_maker ["_law_box_here", "_law_most"] []
  f__law_formula : Addr
  fd__law_formula : FuncData
  F__law_formula : FnP K "_law_formula" s__law_formula f__law_formula fd__law_formula
  g__law_formula : mg "_law_formula" = some (.ref f__law_formula)
  b__law_formula : Binds K fd__law_formula ["_law_box_here", "_law_deep", "_law_many", "_law_wide"] []
  f__law_any : Addr
  fd__law_any : FuncData
  F__law_any : FnP K "_law_any" s__law_any f__law_any fd__law_any
  g__law_any : mg "_law_any" = some (.ref f__law_any)
  b__law_any : Binds K fd__law_any ["_law_box_here"] []
  f__law_signs : Addr
  fd__law_signs : FuncData
  F__law_signs : FnP K "_law_signs" s__law_signs f__law_signs fd__law_signs
  g__law_signs : mg "_law_signs" = some (.ref f__law_signs)
  b__law_signs : Binds K fd__law_signs [] []
  f__law_written : Addr
  fd__law_written : FuncData
  F__law_written : FnP K "_law_written" s__law_written f__law_written fd__law_written
  g__law_written : mg "_law_written" = some (.ref f__law_written)
  b__law_written : Binds K fd__law_written ["_law_thing"] []
  f__law_is_number : Addr
  fd__law_is_number : FuncData
  F__law_is_number : FnP K "_law_is_number" s__law_is_number f__law_is_number fd__law_is_number
  g__law_is_number : mg "_law_is_number" = some (.ref f__law_is_number)
  b__law_is_number : Binds K fd__law_is_number ["_law_thing", "_law_least", "_law_most"] []
  f__law_fits : Addr
  fd__law_fits : FuncData
  F__law_fits : FnP K "_law_fits" s__law_fits f__law_fits fd__law_fits
  g__law_fits : mg "_law_fits" = some (.ref f__law_fits)
  b__law_fits : Binds K fd__law_fits ["_law_thing"] []
  f__law_clauses : Addr
  fd__law_clauses : FuncData
  F__law_clauses : FnP K "_law_clauses" s__law_clauses f__law_clauses fd__law_clauses
  g__law_clauses : mg "_law_clauses" = some (.ref f__law_clauses)
  b__law_clauses : Binds K fd__law_clauses ["_law_thing", "_law_left"] []
  f__law_word_at : Addr
  fd__law_word_at : FuncData
  F__law_word_at : FnP K "_law_word_at" s__law_word_at f__law_word_at fd__law_word_at
  g__law_word_at : mg "_law_word_at" = some (.ref f__law_word_at)
  b__law_word_at : Binds K fd__law_word_at ["_law_text", "_law_at"] []
  f__law_number_at : Addr
  fd__law_number_at : FuncData
  F__law_number_at : FnP K "_law_number_at" s__law_number_at f__law_number_at fd__law_number_at
  g__law_number_at : mg "_law_number_at" = some (.ref f__law_number_at)
  b__law_number_at : Binds K fd__law_number_at ["_law_text", "_law_at"] []
  f__law_thing_at : Addr
  fd__law_thing_at : FuncData
  F__law_thing_at : FnP K "_law_thing_at" s__law_thing_at f__law_thing_at fd__law_thing_at
  g__law_thing_at : mg "_law_thing_at" = some (.ref f__law_thing_at)
  b__law_thing_at : Binds K fd__law_thing_at ["_law_text", "_law_at", "_law_words", "_law_deep"] []
  f__law_measure : Addr
  fd__law_measure : FuncData
  F__law_measure : FnP K "_law_measure" s__law_measure f__law_measure fd__law_measure
  g__law_measure : mg "_law_measure" = some (.ref f__law_measure)
  b__law_measure : Binds K fd__law_measure ["_law_thing"] []
  f__law_due : Addr
  fd__law_due : FuncData
  F__law_due : FnP K "_law_due" s__law_due f__law_due fd__law_due
  g__law_due : mg "_law_due" = some (.ref f__law_due)
  b__law_due : Binds K fd__law_due ["_law_which", "_law_text"] []
  f__law_told : Addr
  fd__law_told : FuncData
  F__law_told : FnP K "_law_told" s__law_told f__law_told fd__law_told
  g__law_told : mg "_law_told" = some (.ref f__law_told)
  b__law_told : Binds K fd__law_told ["_law_which", "_law_text"] []
  f__law_spoilt : Addr
  fd__law_spoilt : FuncData
  F__law_spoilt : FnP K "_law_spoilt" s__law_spoilt f__law_spoilt fd__law_spoilt
  g__law_spoilt : mg "_law_spoilt" = some (.ref f__law_spoilt)
  b__law_spoilt : Binds K fd__law_spoilt ["_law_box_here", "_law_text"] []
  f_law : Addr
  fd_law : FuncData
  F_law : FnP K "law" s_law f_law fd_law
  g_law : mg "law" = some (.ref f_law)
  b_law : Binds K fd_law ["_law_script"] []
  c_is_row : Addr
  P_is_row : Addr
  k_is_row : CodeAt K f_is_row c_is_row
  c_is_table : Addr
  P_is_table : Addr
  k_is_table : CodeAt K f_is_table c_is_table
  c_row_from : Addr
  P_row_from : Addr
  k_row_from : CodeAt K f_row_from c_row_from
  C_OnesError : Addr
  g_OnesError : mg "OnesError" = some (.ref C_OnesError)
  C_Unlike : Addr
  g_Unlike : mg "Unlike" = some (.ref C_Unlike)
  C_NoSuch : Addr
  g_NoSuch : mg "NoSuch" = some (.ref C_NoSuch)
  C_NoOne : Addr
  g_NoOne : mg "NoOne" = some (.ref C_NoOne)
  C_NoRound : Addr
  g_NoRound : mg "NoRound" = some (.ref C_NoRound)
  C_BadText : Addr
  g_BadText : mg "BadText" = some (.ref C_BadText)
  C_BadSheet : Addr
  g_BadSheet : mg "BadSheet" = some (.ref C_BadSheet)
  C_SIDES : Addr
  g_SIDES : mg "SIDES" = some (.ref C_SIDES)
  e_SIDES : C_SIDES = He.ga K "SIDES"
  xi_BadText : PySem.W.excIn K C_BadText He.veBase "ValueError.__new__" = true
  xk_BadText : PySem.W.keepIn K (.ref C_BadText) = true
  xs_BadText : PySem.W.subIn K (.ref C_BadText) (.type "BaseException") = some true
  xt_BadText : PySem.W.typeIn K (.ref C_BadText) = some (.type "type")
  xc_BadText : ExcC K C_BadText
  xm_BadText : PySem.W.exmOne K (.ref C_BadText) (.ref C_OnesError) = some true
  xo_BadText_OnesError : PySem.W.kitOne K (.ref C_BadText) (.ref C_OnesError) = some true
  xo_BadText_Unlike : PySem.W.kitOne K (.ref C_BadText) (.ref C_Unlike) = some false
  xo_BadText_NoSuch : PySem.W.kitOne K (.ref C_BadText) (.ref C_NoSuch) = some false
  xo_BadText_NoOne : PySem.W.kitOne K (.ref C_BadText) (.ref C_NoOne) = some false
  xo_BadText_NoRound : PySem.W.kitOne K (.ref C_BadText) (.ref C_NoRound) = some false
  xo_BadText_BadText : PySem.W.kitOne K (.ref C_BadText) (.ref C_BadText) = some true
  xo_BadText_BadSheet : PySem.W.kitOne K (.ref C_BadText) (.ref C_BadSheet) = some false
  xv_BadText : PySem.W.kitOne K (.ref C_BadText) (.type "ValueError") = some true
  xn_BadText_OnesError : PySem.W.kitOne K (.type "NoneType") (.ref C_OnesError) = some false
  xn_BadText_Unlike : PySem.W.kitOne K (.type "NoneType") (.ref C_Unlike) = some false
  xn_BadText_NoSuch : PySem.W.kitOne K (.type "NoneType") (.ref C_NoSuch) = some false
  xn_BadText_NoOne : PySem.W.kitOne K (.type "NoneType") (.ref C_NoOne) = some false
  xn_BadText_NoRound : PySem.W.kitOne K (.type "NoneType") (.ref C_NoRound) = some false
  xn_BadText_BadText : PySem.W.kitOne K (.type "NoneType") (.ref C_BadText) = some false
  xn_BadText_BadSheet : PySem.W.kitOne K (.type "NoneType") (.ref C_BadSheet) = some false
  m_ValueError : mg "ValueError" = none
  m_abs : mg "abs" = none
  m_all : mg "all" = none
  m_bool : mg "bool" = none
  m_divmod : mg "divmod" = none
  m_enumerate : mg "enumerate" = none
  m_int : mg "int" = none
  m_isinstance : mg "isinstance" = none
  m_len : mg "len" = none
  m_list : mg "list" = none
  m_max : mg "max" = none
  m_range : mg "range" = none
  m_repr : mg "repr" = none
  m_str : mg "str" = none
  m_sum : mg "sum" = none
  m_tuple : mg "tuple" = none
  m_zip : mg "zip" = none
  i_LONGEST : ∃ t, mg "LONGEST" = some (.int 4096 t)
  i_MOST_AROUND : ∃ t, mg "MOST_AROUND" = some (.int 3 t)
  i_GREATEST_INPUT : ∃ t, mg "GREATEST_INPUT" = some (.int 5 t)
  i_MOST_PARTS : ∃ t, mg "MOST_PARTS" = some (.int 24 t)
  i_DEEPEST : ∃ t, mg "DEEPEST" = some (.int 8 t)
  i_MOST_FIGURES : ∃ t, mg "MOST_FIGURES" = some (.int 3 t)
structure Tabs {K : PySem.W.Frag} {mg : Str → Option Value} (T : Defs K mg) (base : Heap) : Prop where
  t_is_row : GxR.TabB base mg T.c_is_row T.P_is_row
  t_is_table : GxR.TabB base mg T.c_is_table T.P_is_table
  t_row_from : GxR.TabB base mg T.c_row_from T.P_row_from
theorem bt_ValueError : bootBuiltins "ValueError" = some (.type "ValueError") := by decide +kernel
theorem bt_abs : bootBuiltins "abs" = some (.builtin "abs") := by decide +kernel
theorem bt_all : bootBuiltins "all" = some (.builtin "all") := by decide +kernel
theorem bt_bool : bootBuiltins "bool" = some (.type "bool") := by decide +kernel
theorem bt_divmod : bootBuiltins "divmod" = some (.builtin "divmod") := by decide +kernel
theorem bt_enumerate : bootBuiltins "enumerate" = some (.type "enumerate") := by decide +kernel
theorem bt_int : bootBuiltins "int" = some (.type "int") := by decide +kernel
theorem bt_isinstance : bootBuiltins "isinstance" = some (.builtin "isinstance") := by decide +kernel
theorem bt_len : bootBuiltins "len" = some (.builtin "len") := by decide +kernel
theorem bt_list : bootBuiltins "list" = some (.type "list") := by decide +kernel
theorem bt_max : bootBuiltins "max" = some (.builtin "max") := by decide +kernel
theorem bt_range : bootBuiltins "range" = some (.type "range") := by decide +kernel
theorem bt_repr : bootBuiltins "repr" = some (.builtin "repr") := by decide +kernel
theorem bt_str : bootBuiltins "str" = some (.type "str") := by decide +kernel
theorem bt_sum : bootBuiltins "sum" = some (.builtin "sum") := by decide +kernel
theorem bt_tuple : bootBuiltins "tuple" = some (.type "tuple") := by decide +kernel
theorem bt_zip : bootBuiltins "zip" = some (.type "zip") := by decide +kernel
end
def d_is_number : He.DefD := ⟨("is_number", none), "is_number", "is_number", defArgs s_is_number, defBody s_is_number, defScope s_is_number, [], []⟩
def d_is_within : He.DefD := ⟨("is_within", none), "is_within", "is_within", defArgs s_is_within, defBody s_is_within, defScope s_is_within, [], []⟩
def d_common_divisor : He.DefD := ⟨("common_divisor", none), "common_divisor", "common_divisor", defArgs s_common_divisor, defBody s_common_divisor, defScope s_common_divisor, [], []⟩
def d_is_bit : He.DefD := ⟨("is_bit", none), "is_bit", "is_bit", defArgs s_is_bit, defBody s_is_bit, defScope s_is_bit, [], []⟩
def d_is_row : He.DefD := ⟨("is_row", none), "is_row", "is_row", defArgs s_is_row, defBody s_is_row, defScope s_is_row, [], []⟩
def d_is_table : He.DefD := ⟨("is_table", none), "is_table", "is_table", defArgs s_is_table, defBody s_is_table, defScope s_is_table, [], []⟩
def d_is_plain : He.DefD := ⟨("is_plain", none), "is_plain", "is_plain", defArgs s_is_plain, defBody s_is_plain, defScope s_is_plain, [], []⟩
def d_is_around : He.DefD := ⟨("is_around", none), "is_around", "is_around", defArgs s_is_around, defBody s_is_around, defScope s_is_around, [], []⟩
def d_is_maker : He.DefD := ⟨("is_maker", none), "is_maker", "is_maker", defArgs s_is_maker, defBody s_is_maker, defScope s_is_maker, [], []⟩
def d_counter_round : He.DefD := ⟨("counter_round", none), "counter_round", "counter_round", defArgs s_counter_round, defBody s_counter_round, defScope s_counter_round, [], []⟩
def d_last_for_first : He.DefD := ⟨("last_for_first", none), "last_for_first", "last_for_first", defArgs s_last_for_first, defBody s_last_for_first, defScope s_last_for_first, [], []⟩
def d_size_of : He.DefD := ⟨("size_of", none), "size_of", "size_of", defArgs s_size_of, defBody s_size_of, defScope s_size_of, [], []⟩
def d_turned_round : He.DefD := ⟨("turned_round", none), "turned_round", "turned_round", defArgs s_turned_round, defBody s_turned_round, defScope s_turned_round, [], []⟩
def d_odd_ones : He.DefD := ⟨("odd_ones", none), "odd_ones", "odd_ones", defArgs s_odd_ones, defBody s_odd_ones, defScope s_odd_ones, [], []⟩
def d_held_round : He.DefD := ⟨("held_round", none), "held_round", "held_round", defArgs s_held_round, defBody s_held_round, defScope s_held_round, [], []⟩
def d_plain_round : He.DefD := ⟨("plain_round", none), "plain_round", "plain_round", defArgs s_plain_round, defBody s_plain_round, defScope s_plain_round, [], []⟩
def d_round_of : He.DefD := ⟨("round_of", none), "round_of", "round_of", defArgs s_round_of, defBody s_round_of, defScope s_round_of, [], []⟩
def d_is_part : He.DefD := ⟨("is_part", none), "is_part", "is_part", defArgs s_is_part, defBody s_is_part, defScope s_is_part, [], []⟩
def d_sides_of : He.DefD := ⟨("sides_of", none), "sides_of", "sides_of", defArgs s_sides_of, defBody s_sides_of, defScope s_sides_of, [], []⟩
def d_is_formula : He.DefD := ⟨("is_formula", none), "is_formula", "is_formula", defArgs s_is_formula, defBody s_is_formula, defScope s_is_formula, [], []⟩
def d_number_from : He.DefD := ⟨("number_from", none), "number_from", "number_from", defArgs s_number_from, defBody s_number_from, defScope s_number_from, [], []⟩
def d_word_from : He.DefD := ⟨("word_from", none), "word_from", "word_from", defArgs s_word_from, defBody s_word_from, defScope s_word_from, [], []⟩
def d_shaped : He.DefD := ⟨("shaped", none), "shaped", "shaped", defArgs s_shaped, defBody s_shaped, defScope s_shaped, [], []⟩
def d_nested_from : He.DefD := ⟨("nested_from", none), "nested_from", "nested_from", defArgs s_nested_from, defBody s_nested_from, defScope s_nested_from, [], []⟩
def d_row_from : He.DefD := ⟨("row_from", none), "row_from", "row_from", defArgs s_row_from, defBody s_row_from, defScope s_row_from, [], []⟩
def d_maker_from : He.DefD := ⟨("maker_from", none), "maker_from", "maker_from", defArgs s_maker_from, defBody s_maker_from, defScope s_maker_from, [], []⟩
def d_formula_from : He.DefD := ⟨("formula_from", none), "formula_from", "formula_from", defArgs s_formula_from, defBody s_formula_from, defScope s_formula_from, [], []⟩
def d__law_box : He.DefD := ⟨("_law_box", none), "_law_box", "_law_box", defArgs s__law_box, defBody s__law_box, defScope s__law_box, [], []⟩
def d__law_take : He.DefD := ⟨("_law_take", none), "_law_take", "_law_take", defArgs s__law_take, defBody s__law_take, defScope s__law_take, [], []⟩
def d__law_folded : He.DefD := ⟨("_law_folded", none), "_law_folded", "_law_folded", defArgs s__law_folded, defBody s__law_folded, defScope s__law_folded, [], []⟩
def d__law_divisor : He.DefD := ⟨("_law_divisor", none), "_law_divisor", "_law_divisor", defArgs s__law_divisor, defBody s__law_divisor, defScope s__law_divisor, [], []⟩
def d__law_powers : He.DefD := ⟨("_law_powers", none), "_law_powers", "_law_powers", defArgs s__law_powers, defBody s__law_powers, defScope s__law_powers, [], []⟩
def d__law_plain : He.DefD := ⟨("_law_plain", none), "_law_plain", "_law_plain", defArgs s__law_plain, defBody s__law_plain, defScope s__law_plain, [], []⟩
def d__law_base : He.DefD := ⟨("_law_base", none), "_law_base", "_law_base", defArgs s__law_base, defBody s__law_base, defScope s__law_base, [], []⟩
def d__law_round : He.DefD := ⟨("_law_round", none), "_law_round", "_law_round", defArgs s__law_round, defBody s__law_round, defScope s__law_round, [], []⟩
def d__law_maker : He.DefD := ⟨("_law_maker", none), "_law_maker", "_law_maker", defArgs s__law_maker, defBody s__law_maker, defScope s__law_maker, [], []⟩
def d__law_formula : He.DefD := ⟨("_law_formula", none), "_law_formula", "_law_formula", defArgs s__law_formula, defBody s__law_formula, defScope s__law_formula, [], []⟩
def d__law_any : He.DefD := ⟨("_law_any", none), "_law_any", "_law_any", defArgs s__law_any, defBody s__law_any, defScope s__law_any, [], []⟩
def d__law_signs : He.DefD := ⟨("_law_signs", none), "_law_signs", "_law_signs", defArgs s__law_signs, defBody s__law_signs, defScope s__law_signs, [], []⟩
def d__law_written : He.DefD := ⟨("_law_written", none), "_law_written", "_law_written", defArgs s__law_written, defBody s__law_written, defScope s__law_written, [], []⟩
def d__law_is_number : He.DefD := ⟨("_law_is_number", none), "_law_is_number", "_law_is_number", defArgs s__law_is_number, defBody s__law_is_number, defScope s__law_is_number, [], []⟩
def d__law_fits : He.DefD := ⟨("_law_fits", none), "_law_fits", "_law_fits", defArgs s__law_fits, defBody s__law_fits, defScope s__law_fits, [], []⟩
def d__law_clauses : He.DefD := ⟨("_law_clauses", none), "_law_clauses", "_law_clauses", defArgs s__law_clauses, defBody s__law_clauses, defScope s__law_clauses, [], []⟩
def d__law_word_at : He.DefD := ⟨("_law_word_at", none), "_law_word_at", "_law_word_at", defArgs s__law_word_at, defBody s__law_word_at, defScope s__law_word_at, [], []⟩
def d__law_number_at : He.DefD := ⟨("_law_number_at", none), "_law_number_at", "_law_number_at", defArgs s__law_number_at, defBody s__law_number_at, defScope s__law_number_at, [], []⟩
def d__law_thing_at : He.DefD := ⟨("_law_thing_at", none), "_law_thing_at", "_law_thing_at", defArgs s__law_thing_at, defBody s__law_thing_at, defScope s__law_thing_at, [], []⟩
def d__law_measure : He.DefD := ⟨("_law_measure", none), "_law_measure", "_law_measure", defArgs s__law_measure, defBody s__law_measure, defScope s__law_measure, [], []⟩
def d__law_due : He.DefD := ⟨("_law_due", none), "_law_due", "_law_due", defArgs s__law_due, defBody s__law_due, defScope s__law_due, [], []⟩
def d__law_told : He.DefD := ⟨("_law_told", none), "_law_told", "_law_told", defArgs s__law_told, defBody s__law_told, defScope s__law_told, [], []⟩
def d__law_spoilt : He.DefD := ⟨("_law_spoilt", none), "_law_spoilt", "_law_spoilt", defArgs s__law_spoilt, defBody s__law_spoilt, defScope s__law_spoilt, [], []⟩
def d_law : He.DefD := ⟨("law", none), "law", "law", defArgs s_law, defBody s_law, defScope s_law, [], []⟩
def hfn : List He.DefD := [d_is_number, d_is_within, d_common_divisor, d_is_bit, d_is_row, d_is_table, d_is_plain, d_is_around, d_is_maker, d_counter_round, d_last_for_first, d_size_of, d_turned_round, d_odd_ones, d_held_round, d_plain_round, d_round_of, d_is_part, d_sides_of, d_is_formula, d_number_from, d_word_from, d_shaped, d_nested_from, d_row_from, d_maker_from, d_formula_from, d__law_box, d__law_take, d__law_folded, d__law_divisor, d__law_powers, d__law_plain, d__law_base, d__law_round, d__law_maker, d__law_formula, d__law_any, d__law_signs, d__law_written, d__law_is_number, d__law_fits, d__law_clauses, d__law_word_at, d__law_number_at, d__law_thing_at, d__law_measure, d__law_due, d__law_told, d__law_spoilt, d_law]
def hfa : List He.Fa := [.glo "is_number", .glo "is_within", .glo "common_divisor", .glo "is_bit", .glo "is_row", .glo "is_table", .glo "is_plain", .glo "is_around", .glo "is_maker", .glo "counter_round", .glo "last_for_first", .glo "size_of", .glo "turned_round", .glo "odd_ones", .glo "held_round", .glo "plain_round", .glo "round_of", .glo "is_part", .glo "sides_of", .glo "is_formula", .glo "number_from", .glo "word_from", .glo "shaped", .glo "nested_from", .glo "row_from", .glo "maker_from", .glo "formula_from", .glo "_law_box", .glo "_law_take", .glo "_law_folded", .glo "_law_divisor", .glo "_law_powers", .glo "_law_plain", .glo "_law_base", .glo "_law_round", .glo "_law_maker", .glo "_law_formula", .glo "_law_any", .glo "_law_signs", .glo "_law_written", .glo "_law_is_number", .glo "_law_fits", .glo "_law_clauses", .glo "_law_word_at", .glo "_law_number_at", .glo "_law_thing_at", .glo "_law_measure", .glo "_law_due", .glo "_law_told", .glo "_law_spoilt", .glo "law", .free "ValueError", .free "abs", .free "all", .free "bool", .free "divmod", .free "enumerate", .free "int", .free "isinstance", .free "len", .free "list", .free "max", .free "range", .free "repr", .free "str", .free "sum", .free "tuple", .free "zip", .glo "OnesError", .glo "Unlike", .glo "NoSuch", .glo "NoOne", .glo "NoRound", .glo "BadText", .glo "BadSheet", .glo "SIDES", .exc "BadText", .exm "BadText" "OnesError" true, .int "LONGEST" 4096, .int "MOST_AROUND" 3, .int "GREATEST_INPUT" 5, .int "MOST_PARTS" 24, .int "DEEPEST" 8, .int "MOST_FIGURES" 3]
def hts : List He.Tab := [((fun K => He.ga K "SIDES"), ["less", "both", "either", "oneof", "pick"])]
def htf : List He.Defn := [("is_row", none), ("is_table", none), ("row_from", none)]
def Hex0 (K : PySem.W.Frag) : Prop := (PySem.W.findIn K (.ref (He.ga K "BadText")) "__getattribute__" = some (some (.builtin "BaseException.__getattribute__"))) ∧ (PySem.W.findIn K (.ref (He.ga K "BadText")) "__getattr__" = some none) ∧ (PySem.W.subIn K (.ref (He.ga K "BadText")) (.type "BaseException") = some true) ∧ (PySem.W.hasDictIn K (He.ga K "BadText") = true) ∧ (PySem.W.findIn K (.ref (He.ga K "BadText")) "__class__" = some (some (.builtin "object.__class__"))) ∧ (PySem.W.specialIn K (.builtin "object.__class__") "__get__" = some (some (.builtin "getset_descriptor.__get__"))) ∧ (PySem.W.takesIn K (.builtin "object.__class__") = some true) ∧ (PySem.W.mroIn K (He.ga K "BadText") (.type "object") = some true) ∧ (PySem.W.kitOne K (.ref (He.ga K "BadText")) (.ref (He.ga K "OnesError")) = some true) ∧ (PySem.W.kitOne K (.ref (He.ga K "BadText")) (.ref (He.ga K "Unlike")) = some false) ∧ (PySem.W.kitOne K (.ref (He.ga K "BadText")) (.ref (He.ga K "NoSuch")) = some false) ∧ (PySem.W.kitOne K (.ref (He.ga K "BadText")) (.ref (He.ga K "NoOne")) = some false)
instance (K : PySem.W.Frag) : Decidable (Hex0 K) := inferInstanceAs (Decidable ((PySem.W.findIn K (.ref (He.ga K "BadText")) "__getattribute__" = some (some (.builtin "BaseException.__getattribute__"))) ∧ (PySem.W.findIn K (.ref (He.ga K "BadText")) "__getattr__" = some none) ∧ (PySem.W.subIn K (.ref (He.ga K "BadText")) (.type "BaseException") = some true) ∧ (PySem.W.hasDictIn K (He.ga K "BadText") = true) ∧ (PySem.W.findIn K (.ref (He.ga K "BadText")) "__class__" = some (some (.builtin "object.__class__"))) ∧ (PySem.W.specialIn K (.builtin "object.__class__") "__get__" = some (some (.builtin "getset_descriptor.__get__"))) ∧ (PySem.W.takesIn K (.builtin "object.__class__") = some true) ∧ (PySem.W.mroIn K (He.ga K "BadText") (.type "object") = some true) ∧ (PySem.W.kitOne K (.ref (He.ga K "BadText")) (.ref (He.ga K "OnesError")) = some true) ∧ (PySem.W.kitOne K (.ref (He.ga K "BadText")) (.ref (He.ga K "Unlike")) = some false) ∧ (PySem.W.kitOne K (.ref (He.ga K "BadText")) (.ref (He.ga K "NoSuch")) = some false) ∧ (PySem.W.kitOne K (.ref (He.ga K "BadText")) (.ref (He.ga K "NoOne")) = some false)))
def Hex1 (K : PySem.W.Frag) : Prop := (PySem.W.kitOne K (.ref (He.ga K "BadText")) (.ref (He.ga K "NoRound")) = some false) ∧ (PySem.W.kitOne K (.ref (He.ga K "BadText")) (.ref (He.ga K "BadText")) = some true) ∧ (PySem.W.kitOne K (.ref (He.ga K "BadText")) (.ref (He.ga K "BadSheet")) = some false) ∧ (PySem.W.kitOne K (.ref (He.ga K "BadText")) (.type "ValueError") = some true) ∧ (PySem.W.kitOne K (.type "NoneType") (.ref (He.ga K "OnesError")) = some false) ∧ (PySem.W.kitOne K (.type "NoneType") (.ref (He.ga K "Unlike")) = some false) ∧ (PySem.W.kitOne K (.type "NoneType") (.ref (He.ga K "NoSuch")) = some false) ∧ (PySem.W.kitOne K (.type "NoneType") (.ref (He.ga K "NoOne")) = some false) ∧ (PySem.W.kitOne K (.type "NoneType") (.ref (He.ga K "NoRound")) = some false) ∧ (PySem.W.kitOne K (.type "NoneType") (.ref (He.ga K "BadText")) = some false) ∧ (PySem.W.kitOne K (.type "NoneType") (.ref (He.ga K "BadSheet")) = some false) ∧ (dicB K (He.ga K "SIDES") dl_SIDES = true)
instance (K : PySem.W.Frag) : Decidable (Hex1 K) := inferInstanceAs (Decidable ((PySem.W.kitOne K (.ref (He.ga K "BadText")) (.ref (He.ga K "NoRound")) = some false) ∧ (PySem.W.kitOne K (.ref (He.ga K "BadText")) (.ref (He.ga K "BadText")) = some true) ∧ (PySem.W.kitOne K (.ref (He.ga K "BadText")) (.ref (He.ga K "BadSheet")) = some false) ∧ (PySem.W.kitOne K (.ref (He.ga K "BadText")) (.type "ValueError") = some true) ∧ (PySem.W.kitOne K (.type "NoneType") (.ref (He.ga K "OnesError")) = some false) ∧ (PySem.W.kitOne K (.type "NoneType") (.ref (He.ga K "Unlike")) = some false) ∧ (PySem.W.kitOne K (.type "NoneType") (.ref (He.ga K "NoSuch")) = some false) ∧ (PySem.W.kitOne K (.type "NoneType") (.ref (He.ga K "NoOne")) = some false) ∧ (PySem.W.kitOne K (.type "NoneType") (.ref (He.ga K "NoRound")) = some false) ∧ (PySem.W.kitOne K (.type "NoneType") (.ref (He.ga K "BadText")) = some false) ∧ (PySem.W.kitOne K (.type "NoneType") (.ref (He.ga K "BadSheet")) = some false) ∧ (dicB K (He.ga K "SIDES") dl_SIDES = true)))
abbrev Hex (K : PySem.W.Frag) : Prop := Hex0 K ∧ Hex1 K
instance (K : PySem.W.Frag) : Decidable (Hex K) := inferInstance
def hex : PySem.W.Frag → Bool := fun K => decide (Hex K)
abbrev R : PySem.W.OpenRow := PySem.W.OpenLaw.row PySem.Challenge.rw_shareones_k57_texts_spoilt_anywhere
abbrev hk : PySem.W.Hook := He.hookX 4 hfa hfn hts htf hex
def ob (s : PySem.W.SharedT) : He.AlX := He.obsX 4 hfa hfn hts htf hex (HandSHeadRun.getT s)
theorem ob_eq (s : PySem.W.SharedT) : ob s = hk.obs s.abs := He.obsX_eq (HandSHeadRun.getT_eq s)
def loose : List Str := "is_number" :: "is_within" :: "common_divisor" :: "is_bit" :: "is_row" :: "is_table" :: "is_plain" :: "is_around" :: "is_maker" :: "counter_round" :: "last_for_first" :: "size_of" :: "turned_round" :: "odd_ones" :: "held_round" :: "plain_round" :: "round_of" :: "is_part" :: "sides_of" :: "is_formula" :: "number_from" :: "word_from" :: "shaped" :: "nested_from" :: "row_from" :: "maker_from" :: "formula_from" :: "_law_box" :: "_law_take" :: "_law_folded" :: "_law_divisor" :: "_law_powers" :: "_law_plain" :: "_law_base" :: "_law_round" :: "_law_maker" :: "_law_formula" :: "_law_any" :: "_law_signs" :: "_law_written" :: "_law_is_number" :: "_law_fits" :: "_law_clauses" :: "_law_word_at" :: "_law_number_at" :: "_law_thing_at" :: "_law_measure" :: "_law_due" :: "_law_told" :: "_law_spoilt" :: "OnesError" :: "Unlike" :: "NoSuch" :: "NoOne" :: "NoRound" :: "BadText" :: "BadSheet" :: "LONGEST" :: "MOST_AROUND" :: "SIDES" :: "GREATEST_INPUT" :: "MOST_PARTS" :: "DEEPEST" :: "MOST_FIGURES" :: []
theorem runF (w : World) : HandSHeadRun.RunEq R (PySem.W.view R.prog [71]) hk ob 6000 loose (w.withFollow "special-get-raises" false) := by
  intro os
  kernel_rfl
theorem runT (w : World) : HandSHeadRun.RunEq R (PySem.W.view R.prog [71]) hk ob 6000 loose (w.withFollow "special-get-raises" true) := by
  intro os
  kernel_rfl
theorem run (w : World) : HandSHeadRun.RunEq R (PySem.W.view R.prog [71]) hk ob 6000 loose w := PySem.W.byRow2 "special-get-raises" (P := fun w => HandSHeadRun.RunEq R (PySem.W.view R.prog [71]) hk ob 6000 loose w) runF runT w
section
variable {P : Program} {w : World} {K : PySem.W.Frag} {mg : Str → Option Value} {base : Heap} [DW K w]
def frT (t b : Int) : Int := (b.sign * t) / (Int.gcd t b : Int)
def frB (t b : Int) : Int := (b.natAbs : Int) / (Int.gcd t b : Int)
theorem fr_ex (t : Int) {b : Int} (hb : b ≠ 0) : ∃ (g : Nat) (x y : Int), 0 < g ∧ Int.gcd t b = g ∧ t = (g : Int) * x ∧ b = (g : Int) * y ∧ y ≠ 0 ∧ Int.gcd x y = 1 := by
  have hg : 0 < Int.gcd t b := Int.gcd_pos_of_ne_zero_right t hb
  obtain ⟨x, hx⟩ := Int.gcd_dvd_left t b
  obtain ⟨y, hy⟩ := Int.gcd_dvd_right t b
  refine ⟨Int.gcd t b, x, y, hg, rfl, hx, hy, fun e => hb (by rw [hy, e, Int.mul_zero]), ?_⟩
  generalize eg : Int.gcd t b = g at hg hx hy
  have e : g = g * Int.gcd x y := by
    rw [← eg]
    conv => lhs; rw [hx, hy, Int.gcd_mul_left]
    rw [Int.natAbs_natCast, eg]
  exact Nat.eq_of_mul_eq_mul_left hg (by rw [← e, Nat.mul_one])
theorem sgn {b : Int} {g : Nat} {y : Int} (hg : 0 < g) (hb : b = (g : Int) * y) : b.sign = y.sign := by
  rw [hb, Int.sign_mul, Int.sign_eq_one_of_pos (by omega), Int.one_mul]
theorem fr_vals {t b : Int} {g : Nat} {x y : Int} (hg : 0 < g) (eg : Int.gcd t b = g) (ht : t = (g : Int) * x) (hb : b = (g : Int) * y) : frT t b = y.sign * x ∧ frB t b = (y.natAbs : Int) := by
  have g0 : (g : Int) ≠ 0 := by omega
  constructor
  · unfold frT
    rw [eg, sgn hg hb, ht, show y.sign * ((g : Int) * x) = (g : Int) * (y.sign * x) by rw [Int.mul_left_comm]]
    exact Int.mul_ediv_cancel_left _ g0
  · unfold frB
    rw [eg, hb, Int.natAbs_mul, Int.natAbs_natCast, Int.natCast_mul]
    exact Int.mul_ediv_cancel_left _ g0
theorem sgn_abs {y : Int} (hy : y ≠ 0) : y.sign.natAbs = 1 := Int.natAbs_sign_of_ne_zero hy
theorem fr_pos (t : Int) {b : Int} (hb : b ≠ 0) : 0 < frB t b := by
  obtain ⟨g, x, y, hg, eg, ht, hy, hy0, h1⟩ := fr_ex t hb
  rw [(fr_vals hg eg ht hy).2]
  omega
theorem fr_gcd (t : Int) {b : Int} (hb : b ≠ 0) : Int.gcd (frT t b) (frB t b) = 1 := by
  obtain ⟨g, x, y, hg, eg, ht, hy, hy0, h1⟩ := fr_ex t hb
  rw [(fr_vals hg eg ht hy).1, (fr_vals hg eg ht hy).2]
  show Nat.gcd (y.sign * x).natAbs ((y.natAbs : Int)).natAbs = 1
  rw [Int.natAbs_mul, sgn_abs hy0, Nat.one_mul, Int.natAbs_natCast]
  exact h1
theorem fr_eq (t : Int) {b : Int} (hb : b ≠ 0) : frT t b * b = t * frB t b := by
  obtain ⟨g, x, y, hg, eg, ht, hy, hy0, h1⟩ := fr_ex t hb
  rw [(fr_vals hg eg ht hy).1, (fr_vals hg eg ht hy).2]
  rw [ht, hy]
  have e : y * y.sign = (y.natAbs : Int) := Int.mul_sign_self y
  rw [← e]
  simp only [Int.mul_comm, Int.mul_left_comm, Int.mul_assoc]
theorem fr_absT (t : Int) {b : Int} (hb : b ≠ 0) : (frT t b).natAbs ≤ t.natAbs := by
  obtain ⟨g, x, y, hg, eg, ht, hy, hy0, h1⟩ := fr_ex t hb
  rw [(fr_vals hg eg ht hy).1, ht, Int.natAbs_mul, sgn_abs hy0, Nat.one_mul, Int.natAbs_mul, Int.natAbs_natCast]
  exact Nat.le_mul_of_pos_left _ hg
theorem fr_absB (t : Int) {b : Int} (hb : b ≠ 0) : (frB t b).natAbs ≤ b.natAbs := by
  obtain ⟨g, x, y, hg, eg, ht, hy, hy0, h1⟩ := fr_ex t hb
  rw [(fr_vals hg eg ht hy).2, hy, Int.natAbs_mul, Int.natAbs_natCast, Int.natAbs_natCast]
  exact Nat.le_mul_of_pos_left _ hg
theorem fr_negT (t b : Int) : frT (-t) (-b) = frT t b := by
  unfold frT
  rw [Int.sign_neg, Int.neg_mul_neg, Int.gcd_neg, Int.neg_gcd]
theorem fr_negB (t b : Int) : frB (-t) (-b) = frB t b := by
  unfold frB
  rw [Int.natAbs_neg, Int.gcd_neg, Int.neg_gcd]
/-- what the program's two ways reckon -/
theorem fd_pos {g : Nat} {x : Int} (hg : 0 < g) : ((g : Int) * x).fdiv (g : Int) = x := by
  rw [Int.fdiv_eq_ediv_of_nonneg _ (by omega)]
  exact Int.mul_ediv_cancel_left _ (by omega)
theorem fd_neg {g : Nat} {x : Int} (hg : 0 < g) : ((g : Int) * x).fdiv (-(g : Int)) = -x := by
  rw [show (g : Int) * x = -(g : Int) * (-x) by rw [Int.neg_mul_neg]]
  exact Int.mul_fdiv_cancel_left _ (by omega)
theorem fr_lt (t : Int) {b : Int} (hb : b < 0) : t.fdiv (-(Int.gcd t b : Int)) = frT t b ∧ b.fdiv (-(Int.gcd t b : Int)) = frB t b := by
  obtain ⟨g, x, y, hg, eg, ht, hy, hy0, h1⟩ := fr_ex t (show b ≠ 0 by omega)
  rw [(fr_vals hg eg ht hy).1, (fr_vals hg eg ht hy).2, eg]
  have yn : y < 0 := by
    rw [hy] at hb
    exact Int.neg_of_mul_neg_right hb (by omega)
  constructor
  · conv => lhs; rw [ht]
    rw [fd_neg hg, Int.sign_eq_neg_one_of_neg yn]
    omega
  · conv => lhs; rw [hy]
    rw [fd_neg hg]
    omega
theorem fr_ge (t : Int) {b : Int} (hb : 0 < b) : t.fdiv (Int.gcd t b : Int) = frT t b ∧ b.fdiv (Int.gcd t b : Int) = frB t b := by
  obtain ⟨g, x, y, hg, eg, ht, hy, hy0, h1⟩ := fr_ex t (show b ≠ 0 by omega)
  rw [(fr_vals hg eg ht hy).1, (fr_vals hg eg ht hy).2, eg]
  have yn : 0 < y := by
    rw [hy] at hb
    exact Int.pos_of_mul_pos_right hb (by omega)
  constructor
  · conv => lhs; rw [ht]
    rw [fd_pos hg, Int.sign_eq_one_of_pos yn]
    omega
  · conv => lhs; rw [hy]
    rw [fd_pos hg]
    omega
/-! sizes -/
def S (n : Nat) (x : Int) : Prop := x.natAbs < 2 ^ n
theorem S.mono {n m : Nat} {x : Int} (h : S n x) (l : n ≤ m) : S m x := Nat.lt_of_lt_of_le h (Nat.pow_le_pow_right (by decide) l)
theorem S.mul {n m : Nat} {x y : Int} (h : S n x) (k : S m y) : S (n + m) (x * y) := by
  unfold S at *
  rw [Int.natAbs_mul, Nat.pow_add]
  exact Nat.mul_lt_mul'' h k
theorem S.add {n : Nat} {x y : Int} (h : S n x) (k : S n y) : S (n + 1) (x + y) := by
  unfold S at *
  rw [Nat.pow_succ]
  omega
theorem S.sub {n : Nat} {x y : Int} (h : S n x) (k : S n y) : S (n + 1) (x - y) := by
  unfold S at *
  rw [Nat.pow_succ]
  omega
theorem S.frT {n : Nat} {t b : Int} (h : S n t) (hb : b ≠ 0) : S n (frT t b) := Nat.lt_of_le_of_lt (fr_absT t hb) h
theorem S.frB {n : Nat} {t b : Int} (h : S n b) (hb : b ≠ 0) : S n (frB t b) := Nat.lt_of_le_of_lt (fr_absB t hb) h
theorem abs_eq (i : Int) : (if i < 0 then -i else i) = (i.natAbs : Int) := by
  split <;> omega
/-! the same rules with the written part by its name: for the inside of comprehensions -/
theorem pg_tupK {X : Cx} {K : PySem.W.Frag} {es : List Expr} {k n : Nat} {pos : Pos} {t : TGs} (h : X.K = K) (hc : X.calm = true) (hg : PGs X es t) (hn : (assignEach es X.env).length = n := by rfl) (hst : (assignEach es X.env).findIdx? (·.1) = none := by rfl) : PG X (.Tuple es k pos) (gTup K n t) := by
  subst h
  exact pg_tup hc hg hn hst
theorem isiK {X : Cx} {K : PySem.W.Frag} (h : X.K = K) : CallR X (.builtin "isinstance") (rIsi K) := by
  subst h
  exact call_isi
theorem ixlK {X : Cx} {K : PySem.W.Frag} (h : X.K = K) : IxR X (rIxL K) := by
  subst h
  exact ix_list
theorem ixtK {X : Cx} {K : PySem.W.Frag} (h : X.K = K) : IxR X (rIxT K) := by
  subst h
  exact ix_tup
theorem lenK {X : Cx} {K : PySem.W.Frag} (h : X.K = K) : CallR X (.builtin "len") (fun xs H Q => ∃ p ys, xs = [.ref p] ∧ (SqL K H p ys ∨ SqT K H p ys) ∧ Q (.int ys.length) H) := by
  subst h
  exact call_len_seq
theorem sumK {X : Cx} {K : PySem.W.Frag} (h : X.K = K) (hc : X.calm = true) : CallR X (.builtin "sum") (rSum K) := by
  subst h
  exact cr_sum hc
theorem yes_ite {σ : L2.St} {H : Hp} {A B : Hp → Prop} (h : A H) : tYes σ H (fun b H3 => if b = true then A H3 else B H3) := by
  show if true = true then A H else B H
  rw [if_pos rfl]
  exact h
/-! heaps -/
theorem same_upd {H : Hp} {p : Addr} {o : HO} (h : H p = none) : Same H (upd H p o) := fun b x e => by
  rw [upd_ne (ne_of_none e h)]
  exact e
def But (p : Addr) (H H' : Hp) : Prop := ∀ b o, b ≠ p → H b = some o → H' b = some o
theorem But.trans {p : Addr} {H H1 H2 : Hp} (a : But p H H1) (b : But p H1 H2) : But p H H2 := fun c o n e => b c o n (a c o n e)
theorem But.refl (p : Addr) (H : Hp) : But p H H := fun _ _ _ e => e
theorem But.put {p : Addr} {H H' : Hp} {o : HO} (a : But p H H') : But p H (L2.upd H' p o) := fun c x n e => by
  rw [upd_ne n]
  exact a c x n e
theorem same_but {p : Addr} {H H' : Hp} (a : Same H H') : But p H H' := fun c x _ e => a c x e
theorem But.new {p q : Addr} {H H' : Hp} {o : HO} (a : But p H H') (n : H' q = none) : But p H (upd H' q o) := fun c x hn e => by
  have e2 := a c x hn e
  rw [upd_ne (ne_of_none e2 n)]
  exact e2
/-- objects made since H may change: what H has stays -/
theorem same_newer {H H' : Hp} {q : Addr} {o : HO} (a : Same H H') (n : H q = none) : Same H (upd H' q o) := fun c x e => by
  rw [upd_ne (ne_of_none e n)]
  exact a c x e
theorem But.same {p : Addr} {H H1 H2 : Hp} (n : H p = none) (a : Same H H1) (b : But p H1 H2) : Same H H2 := fun c x e =>
  b c x (ne_of_none e n) (a c x e)
/-- the box: a rest, a begin, how often -/
def Bx (H : Hp) (p : Addr) (n : Nat) : Prop := ∃ a b c : Int, H p = some (.lst [.int a, .int b, .int c]) ∧ 0 ≤ a ∧ 0 ≤ b ∧ b < 2147483647 ∧ 0 ≤ c ∧ c ≤ n
theorem Bx.same {H H' : Hp} {p : Addr} {n : Nat} (h : Bx H p n) (s : Same H H') : Bx H' p n := by
  obtain ⟨a, b, c, hp, r⟩ := h
  exact ⟨a, b, c, s _ _ hp, r⟩
theorem Bx.mono {H : Hp} {p : Addr} {n m : Nat} (h : Bx H p n) (l : n ≤ m) : Bx H p m := by
  obtain ⟨a, b, c, hp, h1, h2, h3, h4, h5⟩ := h
  exact ⟨a, b, c, hp, h1, h2, h3, h4, by omega⟩
theorem Bx.new {H : Hp} {p q : Addr} {n : Nat} {o : HO} (h : Bx H p n) (nq : H q = none) : Bx (L2.upd H q o) p n := h.same (same_upd nq)
theorem Bx.ne_tup {H : Hp} {p q : Addr} {n : Nat} {xs : List V} (h : Bx H p n) (e : H q = some (.tup xs)) : q ≠ p := by
  obtain ⟨a, b, c, hp, _⟩ := h
  exact ne_of e hp (fun z => by cases z)
/-- an item of a menu of numbers -/
theorem at_menu {Pr : Int → Prop} {xs : List Int} {r : Int} (h0 : 0 ≤ r) (h1 : r < xs.length) (hx : ∀ x, x ∈ xs → Pr x) : ∃ v, atI (xs.map V.int) r = some (V.int v) ∧ Pr v := by
  obtain ⟨j, rfl⟩ := Int.eq_ofNat_of_zero_le h0
  have hj : j < xs.length := by omega
  refine ⟨xs[j], atI_nat (by rw [List.getElem?_map, List.getElem?_eq_getElem hj]; rfl), hx _ (List.getElem_mem hj)⟩
theorem SqL.mk {K : PySem.W.Frag} {H : Hp} {a : Addr} {xs : List V} (h : H a = some (.lst xs)) : SqL K H a xs := .inl (.inl h)
theorem SqT.mk {K : PySem.W.Frag} {H : Hp} {a : Addr} {xs : List V} (h : H a = some (.tup xs)) : SqT K H a xs := .inl (.inl h)
theorem same_tup {K : PySem.W.Frag} {H H' : Hp} {a : Addr} {xs : List V} (e : Same H H') (h : SqT K H a xs) : SqT K H' a xs := by
  rcases h with (h | ⟨o, h⟩) | h
  · exact .inl (.inl (e _ _ h))
  · exact .inl (.inr ⟨o, e _ _ h⟩)
  · exact .inr h
theorem ixn {n j : Nat} (hj : j < n) : ixN n (j : Int) = some j := by
  unfold ixN
  rw [if_pos (by omega), if_pos (by omega)]
  simp
theorem cdivP {a m : Int} (h0 : 0 < m) (h1 : m < 2 ^ 60) : CDivP a m := ⟨h0, PyProof.noPylong_of_log2 (wide_div (i := a) (b := 60) h0 (by omega) (by decide) (by decide)).2⟩
theorem i01 {c : Prop} [Decidable c] : -(2 ^ 64) < (if c then (1 : Int) else 0) ∧ (if c then (1 : Int) else 0) < 2 ^ 64 := by
  split <;> decide
theorem i01n {c : Prop} [Decidable c] : 0 ≤ (if c then (1 : Int) else 0) := by
  split <;> decide
theorem absn (i : Int) : 0 ≤ (if i < 0 then -i else i) := by
  split <;> omega
/-! the box of a cell -/
def sp__law_box (K : PySem.W.Frag) : Sp := fun vs H Q _ => ∃ (a : Addr) (ns : List Int) (k : Nat), vs = [.ref a, .int (k : Nat)] ∧ SqL K H a (ns.map V.int) ∧ k < 1000 ∧
  ∀ H' p, Same H H' → H p = none → Bx H' p 0 → Q (.ref p) H'
theorem ok__law_box (T : Defs K mg) (TT : Tabs T base) : FnOk P w K mg base CX0 1 T.f__law_box T.fd__law_box ["_law_script", "_law_k"] (sp__law_box K) := by
  refine T.F__law_box.ok sc__law_box (fun vs H Q E h => ?_) (fun cdv A outer s H vs Q E hr h => ?_)
  · obtain ⟨a, ns, k, rfl, hS, hk, q⟩ := h
    rfl
  · obtain ⟨a, ns, k, rfl, hS, hk, q⟩ := h
    refine ⟨_, PSs.nox (pss_cons (ps_set (i := 2) sc__law_box.nd rfl (.inl rfl) pe_int)
    (pss_cons (ps_if (pt_cmpR op_lt (pv 1) (pe_callB call_len_seq (by rfl) T.m_len bt_len (pa_cons (pv 0) pa_nil)) (nomark _)) (pss_one (ps_set (i := 2) sc__law_box.nd rfl (.inl rfl) (pe_ix ix_list (pv 0) (pv 1) (fun _ _ => rfl)))) pss_nil)
    (pss_one (ps_ret (pe_lst (pa_cons (pe_op op_mul (pe_callB call_abs (by rfl) T.m_abs bt_abs (pa_cons (pv 2) pa_nil)) (pe_callTy call_int1 (by rfl) T.m_int bt_int (pa_cons (pe_cmpR op_ge (pe_callB call_abs (by rfl) T.m_abs bt_abs (pa_cons (pv 2) pa_nil)) (pe_op op_pow pe_int pe_int) (nomark _)) pa_nil))) (pa_cons (pe_op op_mod (pe_op op_add (pv 2) (pe_op op_mul (pe_op op_mul pe_int (pv 1)) (pv 1))) pe_int) (pa_cons pe_int pa_nil)))))))), ?_⟩
    refine ⟨.int k, rfl, .ref a, rfl, a, _, rfl, .inl hS, _, _, rfl, rfl, _, rfl, ite2 (fun e => ?_) (fun e => ?_)⟩
    · have hl : (k : Int) < ((ns.map V.int).length : Nat) := of_decide_eq_true e
      rw [List.length_map] at hl
      have hj : k < ns.length := by omega
      refine ⟨.ref a, rfl, .int k, rfl, a, _, _, .int ns[k], rfl, rfl, hS, atI_nat (by rw [List.getElem?_map, List.getElem?_eq_getElem hj]; rfl), ?_⟩
      refine ⟨_, rfl, _, rfl, _, rfl, _, rfl, _, _, rfl, rfl, ⟨by decide, by decide, by decide⟩, _, _, rfl, rfl, .inr ⟨_, rfl, _, _, rfl, rfl, .inr i01, _, rfl, .int k, rfl, _, _, rfl, rfl, .inl ⟨by decide, by decide⟩, .int k, rfl, _, _, rfl, rfl, .inr ⟨by omega, by omega⟩, _, _, rfl, rfl, _, _, rfl, rfl, (show (0 : Int) < 2147483647 by decide), (show 3 ≤ sizeLine by decide), fun p np => ?_⟩⟩
      refine q _ p (same_upd np) np ⟨_, _, _, upd_same, ?_, Int.emod_nonneg _ (by decide), Int.emod_lt_of_pos _ (by decide), Int.le_refl 0, Int.le_refl 0⟩
      exact Int.mul_nonneg (absn _) i01n
    · refine ⟨_, rfl, _, rfl, _, rfl, _, rfl, _, _, rfl, rfl, ⟨by decide, by decide, by decide⟩, _, _, rfl, rfl, .inr ⟨_, rfl, _, _, rfl, rfl, .inr i01, _, rfl, .int k, rfl, _, _, rfl, rfl, .inl ⟨by decide, by decide⟩, .int k, rfl, _, _, rfl, rfl, .inr ⟨by omega, by omega⟩, _, _, rfl, rfl, _, _, rfl, rfl, (show (0 : Int) < 2147483647 by decide), (show 3 ≤ sizeLine by decide), fun p np => ?_⟩⟩
      refine q _ p (same_upd np) np ⟨_, _, _, upd_same, ?_, Int.emod_nonneg _ (by decide), Int.emod_lt_of_pos _ (by decide), Int.le_refl 0, Int.le_refl 0⟩
      exact Int.mul_nonneg (absn _) i01n
/-! one number taken -/
def sp__law_take (K : PySem.W.Frag) : Sp := fun vs H Q _ => ∃ (p : Addr) (m : Int) (n : Nat), vs = [.ref p, .int m] ∧ Bx H p n ∧ 0 < m ∧ m < 2 ^ 60 ∧ n < 1000000000000 ∧
  ∀ H' r, But p H H' → Bx H' p (n + 1) → 0 ≤ r → r < m → Q (.int r) H'
theorem ok__law_take (T : Defs K mg) (TT : Tabs T base) : FnOk P w K mg base CX0 1 T.f__law_take T.fd__law_take ["_law_box_here", "_law_many"] (sp__law_take K) := by
  refine T.F__law_take.ok sc__law_take (fun vs H Q E h => ?_) (fun cdv A outer s H vs Q E hr h => ?_)
  · obtain ⟨p, m, n, rfl, ⟨a, b, c, hp, ha, hb, hb2, hc, hc2⟩, h0, h1, hn, q⟩ := h
    rfl
  · obtain ⟨p, m, n, rfl, ⟨a, b, c, hp, ha, hb, hb2, hc, hc2⟩, h0, h1, hn, q⟩ := h
    refine ⟨_, PSs.nox (pss_cons (ps_if (pt_cmpR op_gt (pe_ix ix_list (pv 0) pe_int (fun _ _ => rfl)) pe_int (nomark _)) (pss_cons (ps_asg (pe_callB call_divmodW (by rfl) T.m_divmod bt_divmod (pa_cons (pe_ix ix_list (pv 0) pe_int (fun _ _ => rfl)) (pa_cons (pv 1) pa_nil))) (pg_tup rfl (pgs_cons (pg_sub (pv 0) pe_int set_list) (pgs_cons (pg_name (i := 2) sc__law_take.nd rfl (.inl rfl)) pgs_nil))))
    (pss_one (ps_ret (pv 2)))) pss_nil)
    (pss_cons (ps_asg (pe_op op_add (pe_ix ix_list (pv 0) pe_int (fun _ _ => rfl)) pe_int) (pg_sub (pv 0) pe_int set_list))
    (pss_cons (ps_set (i := 3) sc__law_take.nd rfl (.inl rfl) (pe_op op_mod (pe_op op_pow (pe_op op_add (pe_ix ix_list (pv 0) pe_int (fun _ _ => rfl)) (pe_op op_mul pe_int (pe_ix ix_list (pv 0) pe_int (fun _ _ => rfl)))) pe_int) pe_int))
    (pss_one (ps_ret (pe_op op_mod (pe_op op_fdiv (pe_op op_mod (pe_op op_add (pe_op op_mul (pv 3) pe_int) (pe_op op_mul (pe_op op_mul (pe_ix ix_list (pv 0) pe_int (fun _ _ => rfl)) (pe_ix ix_list (pv 0) pe_int (fun _ _ => rfl))) pe_int)) pe_int) pe_int) (pv 1))))))), ?_⟩
    have SQ : SqL K H p [.int a, .int b, .int c] := SqL.mk hp
    refine ⟨.ref p, rfl, p, _, 0, _, rfl, rfl, SQ, atI_nat (j := 0) rfl, _, _, rfl, rfl, _, rfl, ite2 (fun e => ?_) (fun e => ?_)⟩
    · refine ⟨.ref p, rfl, p, _, 0, _, rfl, rfl, SQ, atI_nat (j := 0) rfl, .int m, rfl, a, m, rfl, cdivP h0 h1, fun t nt => ?_⟩
      have hp1 : (upd H t (.tup [.int (a / m), .int (a % m)])) p = some (.lst [.int a, .int b, .int c]) := by
        rw [upd_ne (ne_of_none hp nt)]
        exact hp
      refine ⟨t, _, rfl, SqT.mk upd_same, rfl, _, _, rfl, .ref p, rfl, p, _, 0, 0, rfl, rfl, hp1, rfl, _, _, rfl, rfl, _, rfl, ?_⟩
      refine q _ _ ((But.refl p H).new nt).put ⟨_, _, _, upd_same, Int.ediv_nonneg ha (by omega), hb, hb2, hc, by omega⟩ (Int.emod_nonneg _ (by omega)) (Int.emod_lt_of_pos _ h0)
    · refine ⟨.ref p, rfl, p, _, 2, _, rfl, rfl, SQ, atI_nat (j := 2) rfl, _, _, rfl, rfl, .ref p, rfl, p, _, 2, 2, rfl, rfl, hp, rfl, ?_⟩
      have SQ1 : SqL K (upd H p (.lst [.int a, .int b, .int (c + 1)])) p [.int a, .int b, .int (c + 1)] := SqL.mk upd_same
      refine ⟨.ref p, rfl, p, _, 1, _, rfl, rfl, SQ1, atI_nat (j := 1) rfl, .ref p, rfl, p, _, 2, _, rfl, rfl, SQ1, atI_nat (j := 2) rfl, _, _, rfl, rfl, .inl ⟨by decide, by decide⟩, _, _, rfl, rfl, _, _, rfl, rfl, ⟨by decide, by decide, by omega⟩, _, _, rfl, rfl, (show (0 : Int) < 2147483647 by decide), ?_⟩
      refine ⟨_, rfl, _, _, rfl, rfl, .inr ⟨by decide, by decide⟩, .ref p, rfl, p, _, 2, _, rfl, rfl, SQ1, atI_nat (j := 2) rfl, .ref p, rfl, p, _, 2, _, rfl, rfl, SQ1, atI_nat (j := 2) rfl, _, _, rfl, rfl, .inl ⟨by omega, by omega⟩, _, _, rfl, rfl, .inr ⟨by decide, by decide⟩, _, _, rfl, rfl, _, _, rfl, rfl, (show (0 : Int) < 2147483629 by decide), _, _, rfl, rfl, ⟨by decide, by decide⟩, .int m, rfl, _, _, rfl, rfl, h0, ?_⟩
      refine q _ _ (But.refl p H).put ⟨_, _, _, upd_same, ha, hb, hb2, by omega, by omega⟩ (Int.emod_nonneg _ (by omega)) (Int.emod_lt_of_pos _ h0)
/-! the folded cells -/
theorem cut_take (ns : List Int) (m : Nat) : cutV (ns.map V.int) none (some (m : Int)) = (ns.take m).map V.int := by
  unfold cutV
  rw [HT.sIx_none, HT.sIx_nat, List.drop_zero, List.length_map, Nat.sub_zero, ← List.map_take]
  congr 1
  by_cases h : m ≤ ns.length
  · rw [Nat.min_eq_left h]
  · rw [Nat.min_eq_right (by omega), List.take_length, List.take_of_length_le (by omega)]
theorem cut_rest (ns : List Int) (m k : Nat) : ∃ ms : List Int, cutV (ns.map V.int) (some (m : Int)) (some (k : Int)) = ms.map V.int ∧ (0 < ms.length → m < ns.length) ∧ ms.length ≤ ns.length := by
  unfold cutV
  rw [HT.sIx_nat, HT.sIx_nat, List.length_map]
  refine ⟨(ns.drop (min m ns.length)).take (min k ns.length - min m ns.length), ?_, fun h => ?_, ?_⟩
  · rw [List.map_take, List.map_drop]
  · rw [List.length_take, List.length_drop] at h
    omega
  · rw [List.length_take, List.length_drop]
    omega
def sp__law_folded (K : PySem.W.Frag) : Sp := fun vs H Q _ => ∃ (a : Addr) (ns : List Int) (m : Nat), vs = [.ref a, .int (m : Nat)] ∧ SqL K H a (ns.map V.int) ∧ ns.length ≤ 63 ∧ 0 < m ∧ m < 64 ∧
  ∀ H' p (cs : List Int), Same H H' → H p = none → H' p = some (.lst (cs.map V.int)) → cs.length ≤ m → Q (.ref p) H'
theorem ok__law_folded (T : Defs K mg) (TT : Tabs T base) : FnOk P w K mg base CX0 1 T.f__law_folded T.fd__law_folded ["_law_script", "_law_many"] (sp__law_folded K) := by
  refine T.F__law_folded.ok sc__law_folded (fun vs H Q E h => ?_) (fun cdv A outer s H vs Q E hr h => ?_)
  · obtain ⟨a, ns, m, rfl, hS, hlen, hm, hm2, q⟩ := h
    rfl
  · obtain ⟨a, ns, m, rfl, hS, hlen, hm, hm2, q⟩ := h
    refine ⟨_, PSs.nox (pss_cons (ps_set (i := 2) sc__law_folded.nd rfl (.inl rfl) (pe_callTy call_list_of (by rfl) T.m_list bt_list (pa_cons (pe_slice sl_list (pv 0) po_none (po_some (pv 1))) pa_nil)))
    (pss_cons ((ps_for PassesOwn.never rfl (pi_enum (by rfl) T.m_enumerate (pa_cons (pe_slice sl_list (pv 0) (po_some (pv 1)) (po_some pe_int)) pa_nil)) (pg_tup rfl (pgs_cons (pg_name (i := 3) sc__law_folded.nd rfl (.inl rfl)) (pgs_cons (pg_name (i := 4) sc__law_folded.nd rfl (.inl rfl)) pgs_nil))) (pss_one (ps_asg (pe_op op_add (pe_ix ix_list (pv 2) (pe_op op_mod (pv 3) (pv 1)) (fun _ _ => rfl)) (pe_op op_mul (pv 4) (pe_op op_add (pv 3) pe_int))) (pg_sub (pv 2) (pe_op op_mod (pv 3) (pv 1)) set_list)))))
    (pss_one (ps_ret (pv 2))))), ?_⟩
    refine ⟨.ref a, rfl, .int m, rfl, m, rfl, a, _, rfl, hS, fun c nc => ?_⟩
    rw [cut_take]
    have s1 : Same H (upd H c (.lst ((ns.take m).map V.int))) := same_upd nc
    refine ⟨c, _, rfl, .inl (SqL.mk upd_same), fun l nl => ?_⟩
    have s2 := s1.trans (same_upd nl (o := .lst ((ns.take m).map V.int)))
    refine ⟨.ref a, rfl, .int m, rfl, m, rfl, 63, rfl, a, _, rfl, s2.seq hS, fun d nd => ?_⟩
    obtain ⟨ms, em, hms, hms2⟩ := cut_rest ns m 63
    rw [show (63 : Int) = ((63 : Nat) : Int) from rfl, em]
    have nl0 : H l = none := s1.free nl
    have nd0 : H d = none := s2.free nd
    have ndl : l ≠ d := fun e => by
      rw [← e, upd_same] at nd
      cases nd
    refine ⟨d, _, rfl, SqL.mk upd_same, for_it (walk_enum (xs := ms.map V.int)) (fun i σ H3 => ∃ y3 y4, ∃ cs : List Int, σ = [some (.ref a), some (.int m), some (.ref l), y3, y4] ∧ Same H H3 ∧ H3 l = some (.lst (cs.map V.int)) ∧ cs.length = (ns.take m).length ∧ H3 d = some (.lst (ms.map V.int))) ⟨none, none, ns.take m, rfl, s2.trans (same_upd nd), ?_, rfl, upd_same⟩ ?_ ?_ ?_⟩
    · rw [upd_ne ndl, upd_same]
    · rintro i σ H3 hi ⟨y3, y4, cs, rfl, s3, hl, hc, hd⟩
      exact SqL.mk hd
    · rintro i x σ H3 H4 hi ⟨y3, y4, cs, rfl, s3, hl, hc, hd⟩ ⟨t, x1, x2, rfl, nt, rfl, e1, e2⟩
      rw [List.length_map] at hi
      have lm : m < ns.length := hms (by omega)
      have lc : cs.length = m := by
        rw [hc, List.length_take]
        omega
      have ex1 : x1 = .int (i : Nat) := (Option.some.inj e1).symm
      have ex2 : x2 = .int ms[i] := by
        have e2 : (ms.map V.int)[i]? = some x2 := e2
        rw [List.getElem?_map, List.getElem?_eq_getElem hi] at e2
        exact (Option.some.inj e2).symm
      subst ex1 ex2
      have hl1 : (upd H3 t (.tup [.int (i : Nat), .int ms[i]])) l = some (.lst (cs.map V.int)) := by
        rw [upd_ne (ne_of_none hl nt)]
        exact hl
      have him : i % m < cs.length := by
        rw [lc]
        exact Nat.mod_lt _ hm
      have eim : ((i : Int) % (m : Int)) = ((i % m : Nat) : Int) := by omega
      refine ⟨t, _, rfl, SqT.mk upd_same, rfl, _, _, rfl, _, _, rfl, rfl, ?_⟩
      refine ⟨.ref l, rfl, .int (i : Nat), rfl, .int m, rfl, _, _, rfl, rfl, (show (0 : Int) < (m : Int) by omega), l, _, _, .int cs[i % m], rfl, rfl, SqL.mk hl1, ?_, .int ms[i], rfl, .int (i : Nat), rfl, _, _, rfl, rfl, _, _, rfl, rfl, .inr ⟨by omega, by omega⟩, _, _, rfl, rfl, .ref l, rfl, .int (i : Nat), rfl, .int m, rfl, _, _, rfl, rfl, (show (0 : Int) < (m : Int) by omega), l, _, _, i % m, rfl, rfl, hl1, ?_, ?_⟩
      · rw [eim]
        exact atI_nat (by rw [List.getElem?_map, List.getElem?_eq_getElem him]; rfl)
      · rw [eim]
        exact ixn (by rw [List.length_map]; exact him)
      · refine ⟨_, _, cs.set (i % m) (cs[i % m] + ms[i] * ((i : Int) + 2)), rfl, same_newer (s3.trans (same_upd nt)) nl0, ?_, by rw [List.length_set, hc], ?_⟩
        · rw [upd_same, List.map_set]
        · rw [upd_ne ndl.symm, upd_ne (ne_of_none hd nt)]
          exact hd
    · rintro σ H3 ⟨y3, y4, cs, rfl, s3, hl, hc, hd⟩
      exact ⟨.ref l, rfl, q H3 l cs s3 nl0 hl (by rw [hc, List.length_take]; omega)⟩
/-! the program's own -/
theorem op_fdivNW {X : Cx} : OpR X (binaryOp .FloorDiv) (rI (fun _ j => j ≠ 0 ∧ j.natAbs.log2 < 9000) fun i j => .int (i.fdiv j)) := opI fun _ _ _ _ _ _ _ hc q => floordiv_int hc.1 q (.inl (PyProof.noPylong_of_log2 hc.2))
theorem gcd_step (x y : Nat) : Nat.gcd y (x % y) = Nat.gcd x y := by
  rw [Nat.gcd_comm y, ← Nat.gcd_rec, Nat.gcd_comm]
theorem gcd_small {t b : Int} (hb : b ≠ 0) (h : S 4000 b) : (Int.gcd t b : Int).natAbs.log2 < 9000 := by
  have h1 : Int.gcd t b ≤ b.natAbs := Nat.le_of_dvd (by omega) (Nat.gcd_dvd_right _ _)
  have h2 : 0 < Int.gcd t b := Int.gcd_pos_of_ne_zero_right t hb
  exact (wide_div (i := 0) (j := (Int.gcd t b : Int)) (b := 4000) (by omega) (by rw [Int.natAbs_natCast]; exact Nat.lt_of_le_of_lt h1 h) (by decide) (by decide)).2
def sp_common_divisor (_ : PySem.W.Frag) : Sp := fun vs H Q _ => ∃ a b : Int, vs = [.int a, .int b] ∧ Q (.int (if (1 : Int) > (Int.gcd a b : Int) then 1 else (Int.gcd a b : Int))) H
theorem ok_common_divisor (T : Defs K mg) (TT : Tabs T base) : FnOk P w K mg base CX0 1 T.f_common_divisor T.fd_common_divisor ["one", "other"] (sp_common_divisor K) := by
  refine T.F_common_divisor.ok sc_common_divisor (fun vs H Q E h => ?_) (fun cdv A outer s H vs Q E hr h => ?_)
  · obtain ⟨a, b, rfl, q⟩ := h
    rfl
  · obtain ⟨a, b, rfl, q⟩ := h
    refine ⟨_, PSs.nox (pss_cons (ps_set (i := 0) sc_common_divisor.nd rfl (.inl rfl) (pe_callB call_abs (by rfl) T.m_abs bt_abs (pa_cons (pv 0) pa_nil)))
    (pss_cons (ps_set (i := 1) sc_common_divisor.nd rfl (.inl rfl) (pe_callB call_abs (by rfl) T.m_abs bt_abs (pa_cons (pv 1) pa_nil)))
    (pss_cons (ps_while PassesOwn.never (pt_cmpR op_gt (pv 1) pe_int (nomark _)) (pss_one (ps_par (i := 0) (j := 1) (by rfl) sc_common_divisor.nd rfl rfl (by decide) rfl rfl (pa_cons (pv 1) (pa_cons (pe_op op_mod (pv 0) (pv 1)) pa_nil)) (by rfl))))
    (pss_one (ps_ret (pe_callB (call_max2 rfl) (by rfl) T.m_max bt_max (pa_cons (pv 0) (pa_cons pe_int pa_nil)))))))), ?_⟩
    refine ⟨.int a, rfl, a, rfl, .int b, rfl, b, rfl, ?_⟩
    refine while_by (fun σ H1 => H1 = H ∧ ∃ x y : Nat, σ = [some (.int (x : Nat)), some (.int (y : Nat))] ∧ Nat.gcd x y = Int.gcd a b) (fun σ _ => match σ with | [_, some (.int y)] => y.toNat | _ => 0) ⟨rfl, a.natAbs, b.natAbs, ?_, rfl⟩ ?_ ?_
    · rw [abs_eq, abs_eq]
      rfl
    · rintro σ H1 ⟨rfl, x, y, rfl, hg⟩
      refine ⟨.int (y : Nat), rfl, _, _, rfl, rfl, _, rfl, ite2 (fun e => ?_) (fun e => ?_)⟩
      · have hy : (0 : Int) < (y : Int) := of_decide_eq_true e
        refine ⟨.int (y : Nat), rfl, .int (x : Nat), rfl, .int (y : Nat), rfl, _, _, rfl, rfl, hy, _, _, rfl, ⟨rfl, y, x % y, ?_, ?_⟩, ?_⟩
        · rfl
        · rw [gcd_step, hg]
        · show ((x : Int) % (y : Int)).toNat < ((y : Int)).toNat
          have := Int.emod_lt_of_pos (x : Int) hy
          have := Int.emod_nonneg (x : Int) (show (y : Int) ≠ 0 by omega)
          omega
      · have hy : ¬ (0 : Int) < (y : Int) := fun z => e (decide_eq_true z)
        have y0 : y = 0 := by omega
        subst y0
        rw [Nat.gcd_zero_right] at hg
        refine ⟨.int (x : Nat), rfl, _, _, rfl, ?_⟩
        rw [hg]
        exact q
    · rintro σ H1 Q1 Q2 hQ ⟨v, hv, i, j, e1, e2, k, e3, h3⟩
      exact ⟨v, hv, i, j, e1, e2, k, e3, hQ _ _ h3⟩
def sp_fraction (_ : PySem.W.Frag) : Sp := fun vs H Q _ => ∃ t b : Int, vs = [.int t, .int b] ∧ b ≠ 0 ∧ S 4000 b ∧ ∀ H' p, Same H H' → H p = none → H' p = some (.tup [.int (frT t b), .int (frB t b)]) → Q (.ref p) H'
/-! match x: case (word, names ..) -/
abbrev TCs := Addr → List V → TS
structure PCs (X : Cx) (cs : List MatchCase) (t : TCs) : Prop where
  run : ∀ (pins : List (Addr × Obj)) (s : Shared) (σ : L2.St) (H : Hp) (D : L2.Ends) (a : Addr) (xs : List V) (first : Bool), Inv X pins σ H s → SqT X.K H a xs → t a xs D σ H →
    wpAny (model X.prog X.w) X.A (matchCases cs X.env (.ref a) first) (SP X pins D) X.xe s
def tMatch (K : PySem.W.Frag) (te : TE) (tc : TCs) : TS := fun D σ H => te σ H fun v H1 => ∃ a xs, v = .ref a ∧ SqT K H1 a xs ∧ tc a xs D σ H1
theorem ps_match {X : Cx} {e : Expr} {cs : List MatchCase} {pos : Pos} {te : TE} {tc : TCs} (he : PE X e te) (hc : PCs X cs tc) : PS X (.Match e cs pos) (tMatch X.K te tc) := by
  refine ⟨fun pins s σ H D I h => ?_⟩
  refine wpAny_Match (thn (he.run pins s σ H _ I h) fun v s1 ⟨x, H1, I1, r1, a, xs, e1, hq, q⟩ => ?_)
  subst e1
  cases r1
  exact hc.run pins s1 σ H1 D a xs true I1 hq q
theorem pcs_nil {X : Cx} : PCs X [] (fun _ _ D σ H => D.nx σ H) := ⟨fun _ _ σ H _ _ _ _ I _ h => wpAny_matchCases_nil ⟨σ, H, I, h⟩⟩
theorem pcs_any {X : Cx} {body : List Stmt} {rest : List MatchCase} {pos : Pos} {tb : TS} (hb : PSs X body tb) : PCs X (⟨.MatchAs none none pos, none, body⟩ :: rest) (fun _ _ => tb) := by
  refine ⟨fun pins s σ H D a xs first I hq h => wpAny_matchCases_cons (wpAny_matchPattern_Capture ?_)⟩
  exact wpAny_assignInOrder_none (hb.run pins s σ H D I h)
/-- the slots i .. get the values .. in turn -/
def sets (σ : L2.St) : List Nat → List V → L2.St
  | i :: is, v :: vs => sets (σ.set i (some v)) is vs
  | _, _ => σ
structure PCap (X : Cx) (ps : List Pattern) (ns : List (Nat × Str)) : Prop where
  each : ∀ (s : Shared) (us : List Value) (Q : Option (List (Str × Value)) → Shared → Prop), us.length = ns.length → Q (some (List.zipWith (fun n u => (n.2, u)) ns us)) s → wpAny (model X.prog X.w) X.A (matchEach ps X.env us) Q X.xe s
  slot : ∀ n, n ∈ ns → X.N[n.1]? = some n.2 ∧ Loc X.env.scope n.2 ∧ (X.fn n.2 = true ∨ X.env.scope.names.lookup n.2 = some .local)
  len : ps.length = ns.length
theorem pcap_nil {X : Cx} : PCap X [] [] := ⟨fun s us Q hl h => wpAny_matchEach_nil (by
  rw [show us = [] from List.eq_nil_of_length_eq_zero hl] at h
  exact h), fun n hn => (by cases hn), rfl⟩
theorem pcap_cons {X : Cx} {i : Nat} {x : Str} {pos : Pos} {ps : List Pattern} {ns : List (Nat × Str)} (hi : X.N[i]? = some x) (hx : Loc X.env.scope x) (h : PCap X ps ns) (hf : X.fn x = true ∨ X.env.scope.names.lookup x = some .local := by first | exact .inl rfl | exact .inr rfl | assumption) :
    PCap X (.MatchAs none (some x) pos :: ps) ((i, x) :: ns) := by
  refine ⟨fun s us Q hl hQ => ?_, fun n hn => ?_, ?_⟩
  · match us, hl with
    | u :: us, hl =>
      refine wpAny_matchEach_cons (wpAny_matchPattern_Capture ?_)
      refine h.each s us _ (Nat.succ.inj hl) ?_
      exact hQ
  · rcases List.mem_cons.mp hn with rfl | hn
    · exact ⟨hi, hx, hf⟩
    · exact h.slot n hn
  · rw [List.length_cons, List.length_cons, h.len]
theorem bind_all {X : Cx} {pins : List (Addr × Obj)} {H : Hp} (hN : X.N.Nodup) : ∀ (ns : List (Nat × Str)) (us : List Value) (vs : List V) (σ : L2.St) (s : Shared) (Q : Unit → Shared → Prop),
    (∀ n, n ∈ ns → X.N[n.1]? = some n.2 ∧ Loc X.env.scope n.2 ∧ (X.fn n.2 = true ∨ X.env.scope.names.lookup n.2 = some .local)) → us.length = ns.length → Vals vs us → Inv X pins σ H s → (∀ s', Inv X pins (sets σ (ns.map Prod.fst) vs) H s' → Q () s') →
    wpAny (model X.prog X.w) X.A (assignInOrder ((List.zipWith (fun (n : Nat × Str) u => (n.2, u)) ns us).map fun (n, _) => bindName X.env n) ((List.zipWith (fun (n : Nat × Str) u => (n.2, u)) ns us).map (·.2))) Q X.xe s
  | [], us, vs, σ, s, Q, _, hl, r, I, q => by
    have e : us = [] := List.eq_nil_of_length_eq_zero hl
    subst e
    cases r
    exact wpAny_assignInOrder_none (q s I)
  | n :: ns, us, vs, σ, s, Q, hs, hl, r, I, q => by
    match us, vs, hl, r with
    | u :: us, v :: vs, hl, .cons r1 r2 =>
      obtain ⟨h1, h2, h3⟩ := hs n List.mem_cons_self
      refine wpAny_assignInOrder_more (wpAny_bindName (store_ok I hN h1 h2 r1 (fun s1 I1 => ?_) h3))
      exact bind_all hN ns us vs _ s1 Q (fun m hm => hs m (List.mem_cons_of_mem _ hm)) (Nat.succ.inj hl) r2 I1 q
def tCase (word : Str) (is : List Nat) (tb : TS) (rest : TCs) : TCs := fun a xs D σ H =>
  (xs.length ≠ is.length + 1 ∧ rest a xs D σ H) ∨ ∃ z ys, xs = .str z :: ys ∧ ys.length = is.length ∧ ((z = word ∧ tb D (sets σ is ys) H) ∨ (z ≠ word ∧ rest a xs D σ H))
theorem pcs_seq {X : Cx} {e : Expr} {word : Str} {vp sp : Pos} {ps : List Pattern} {ns : List (Nat × Str)} {body : List Stmt} {rest : List MatchCase} {tb : TS} {tr : TCs} (hc : X.calm = true) (hN : X.N.Nodup) (hw : PE X e (tC (.str word))) (hcap : PCap X ps ns) (hb : PSs X body tb) (hr : PCs X rest tr)
    (hstar : (.MatchValue e vp :: ps).findIdx? (·.isStar) = none := by rfl) (hwild : ((.MatchValue e vp :: ps).all fun p => p.isWildcard || (p.isStar && p.names.isEmpty)) = false := by rfl) :
    PCs X (⟨.MatchSequence (.MatchValue e vp :: ps) sp, none, body⟩ :: rest) (tCase word (ns.map Prod.fst) tb tr) := by
  refine ⟨fun pins s σ H D a xs first I hq h => ?_⟩
  obtain ⟨its, rv, ht, hz⟩ := I.tuple hq
  have hl := rv.length
  have hsl : sizeLine = 16777216 := by decide
  have hfit : ((its.toArray.size : Nat) : Int) < 2 ^ 63 := by
    rw [List.size_toArray]
    omega
  have lp := hcap.len
  have miss : ∀ s', Inv X pins σ H s' → tr a xs D σ H → wpAny (model X.prog X.w) X.A (matchCases rest X.env (.ref a) false) (SP X pins D) X.xe s' := fun s' I' q => hr.run pins s' σ H D a xs false I' hq q
  refine wpAny_matchCases_cons ?_
  rcases h with ⟨hn, h⟩ | ⟨z, ys, rfl, hn, h⟩
  · rw [List.length_map] at hn
    refine matchSeq_tuple_miss ht hfit (by rw [List.size_toArray, List.length_cons]; omega) ?_ hstar hwild
    exact miss _ (I.kept (t' := s.toks + 1 + 1) fun b o q => q) h
  · rw [List.length_map] at hn
    rw [List.length_cons] at hl
    refine matchSeq_tuple_hit ht hfit (by rw [List.size_toArray, List.length_cons]; omega) ?_ hstar hwild
    have e1 : (Pattern.MatchValue e vp :: ps).length = its.toArray.size := by
      rw [List.size_toArray, List.length_cons]
      omega
    have key : ∀ s2 : Shared, Inv X pins σ H s2 → wpAny (model X.prog X.w) X.A (matchEach (.MatchValue e vp :: ps) X.env its) (fun r s₁ => match r with
        | none => wpAny (model X.prog X.w) X.A (matchCases rest X.env (.ref a) false) (SP X pins D) X.xe s₁
        | some bs => wpAny (model X.prog X.w) X.A (assignInOrder (bs.map fun (n, _) => bindName X.env n) (bs.map (·.2))) (fun _ s₂ => wpAny (model X.prog X.w) X.A (execs body X.env) (SP X pins D) X.xe s₂) X.xe s₁) X.xe s2 := fun s2 I1 => by
      clear e1 hfit hz ht
      match its, rv, hl with
      | u :: us, .cons r1 r2, hl =>
        refine wpAny_matchEach_cons (wpAny_matchPattern_Value ?_)
        refine thn (hw.run pins s2 σ H (fun v H' => v = .str word ∧ H' = H) I1 ⟨rfl, rfl⟩) fun c s3 ⟨x, H3, I3, r3, e3, e4⟩ => ?_
        subst e3 e4
        refine thn (op_eq pins s3 σ H3 (.str z) (.str word) u c (fun v H' => v = .bl (decide (V.str z = V.str word)) ∧ H' = H3) I3 r1 r3 ⟨rfl, rfl, rfl⟩) fun d s4 ⟨y, H4, I4, r4, e5, e6⟩ => ?_
        subst e5 e6
        obtain rfl : d = Value.bool (decide (V.str z = V.str word)) := r4
        refine wpAny_truthy_bool ?_
        rcases h with ⟨rfl, h⟩ | ⟨ne, h⟩
        · rw [if_pos (decide_eq_true rfl)]
          have ul : us.length = ns.length := by
            have := r2.length
            omega
          refine hcap.each s4 us _ ul ?_
          show wpAny _ _ (assignInOrder _ _) _ _ s4
          exact bind_all hN ns us ys σ s4 _ hcap.slot ul r2 I4 fun s5 I5 => hb.run pins s5 _ H4 D I5 h
        · rw [if_neg (fun y => ne (V.str.inj (of_decide_eq_true y)))]
          exact miss s4 I4 h
    rw [e1]
    refine unpackItems_tuple (I.ok.hd hc) ht fun h' hx => ?_
    have I1 : Inv X pins σ H { s with heap := h', toks := s.toks + 1 + 1 } := I.kept (t' := s.toks + 1 + 1) fun b o q => hx b o (Nat.ne_of_lt (Heap.lt_size q)) q
    refine key _ ?_
    exact I1
/-! match x: case (word, names ..): the first item may be anything -/
def tCaseX (K : PySem.W.Frag) (word : Str) (is : List Nat) (tb : TS) (rest : TCs) : TCs := fun a xs D σ H =>
  (xs.length ≠ is.length + 1 ∧ rest a xs D σ H) ∨ ∃ x ys d, xs = x :: ys ∧ ys.length = is.length ∧ Dp K H x d ∧ SeqAt.shaped d = true ∧ ((d = .str word ∧ tb D (sets σ is ys) H) ∨ (d ≠ .str word ∧ rest a xs D σ H))
theorem eqv_strD {d : PyData} {z : Str} : PyData.eqv d (.str z) = true ↔ d = .str z := by
  cases d with
  | str x =>
    show (x == z) = true ↔ _
    constructor
    · intro h
      rw [eq_of_beq h]
    · intro h
      cases h
      exact beq_self_eq_true z
  | _ => exact ⟨fun h => (by cases h), fun h => (by cases h)⟩
theorem pcs_seqX {X : Cx} {e : Expr} {word : Str} {vp sp : Pos} {ps : List Pattern} {ns : List (Nat × Str)} {body : List Stmt} {rest : List MatchCase} {tb : TS} {tr : TCs} (hu : X.A.units + 64 < cLine) (hc : X.calm = true) (hN : X.N.Nodup) (hw : PE X e (tC (.str word))) (hcap : PCap X ps ns) (hb : PSs X body tb) (hr : PCs X rest tr)
    (hstar : (.MatchValue e vp :: ps).findIdx? (·.isStar) = none := by rfl) (hwild : ((.MatchValue e vp :: ps).all fun p => p.isWildcard || (p.isStar && p.names.isEmpty)) = false := by rfl) (hws : SeqAt.shaped (.str word) = true := by decide +kernel) :
    PCs X (⟨.MatchSequence (.MatchValue e vp :: ps) sp, none, body⟩ :: rest) (tCaseX X.K word (ns.map Prod.fst) tb tr) := by
  refine ⟨fun pins s σ H D a xs first I hq h => ?_⟩
  obtain ⟨its, rv, ht, hz⟩ := I.tuple hq
  have hl := rv.length
  have hsl : sizeLine = 16777216 := by decide
  have hfit : ((its.toArray.size : Nat) : Int) < 2 ^ 63 := by
    rw [List.size_toArray]
    omega
  have lp := hcap.len
  have miss : ∀ s', Inv X pins σ H s' → tr a xs D σ H → wpAny (model X.prog X.w) X.A (matchCases rest X.env (.ref a) false) (SP X pins D) X.xe s' := fun s' I' q => hr.run pins s' σ H D a xs false I' hq q
  refine wpAny_matchCases_cons ?_
  rcases h with ⟨hn, h⟩ | ⟨z, ys, dz, rfl, hn, hdz, sz, h⟩
  · rw [List.length_map] at hn
    refine matchSeq_tuple_miss ht hfit (by rw [List.size_toArray, List.length_cons]; omega) ?_ hstar hwild
    exact miss _ (I.kept (t' := s.toks + 1 + 1) fun b o q => q) h
  · rw [List.length_map] at hn
    rw [List.length_cons] at hl
    refine matchSeq_tuple_hit ht hfit (by rw [List.size_toArray, List.length_cons]; omega) ?_ hstar hwild
    have e1 : (Pattern.MatchValue e vp :: ps).length = its.toArray.size := by
      rw [List.size_toArray, List.length_cons]
      omega
    have key : ∀ s2 : Shared, Inv X pins σ H s2 → wpAny (model X.prog X.w) X.A (matchEach (.MatchValue e vp :: ps) X.env its) (fun r s₁ => match r with
        | none => wpAny (model X.prog X.w) X.A (matchCases rest X.env (.ref a) false) (SP X pins D) X.xe s₁
        | some bs => wpAny (model X.prog X.w) X.A (assignInOrder (bs.map fun (n, _) => bindName X.env n) (bs.map (·.2))) (fun _ s₂ => wpAny (model X.prog X.w) X.A (execs body X.env) (SP X pins D) X.xe s₂) X.xe s₁) X.xe s2 := fun s2 I1 => by
      clear e1 hfit hz ht
      match its, rv, hl with
      | u :: us, .cons r1 r2, hl =>
        refine wpAny_matchEach_cons (wpAny_matchPattern_Value ?_)
        refine thn (hw.run pins s2 σ H (fun v H' => v = .str word ∧ H' = H) I1 ⟨rfl, rfl⟩) fun c s3 ⟨x, H3, I3, r3, e3, e4⟩ => ?_
        subst e3 e4
        refine thn (op_eqD hu pins s3 σ H3 z (.str word) u c (fun v H' => v = .bl (PyData.eqv dz (.str word)) ∧ H' = H3) I3 r1 r3 ⟨dz, .str word, hdz, .str _, sz, hws, rfl, rfl⟩) fun d s4 ⟨y, H4, I4, r4, e5, e6⟩ => ?_
        subst e5 e6
        obtain rfl : d = Value.bool (PyData.eqv dz (.str word)) := r4
        refine wpAny_truthy_bool ?_
        rcases h with ⟨ez, h⟩ | ⟨ne, h⟩
        · rw [if_pos (eqv_strD.mpr ez)]
          have ul : us.length = ns.length := by
            have := r2.length
            omega
          refine hcap.each s4 us _ ul ?_
          show wpAny _ _ (assignInOrder _ _) _ _ s4
          exact bind_all hN ns us ys σ s4 _ hcap.slot ul r2 I4 fun s5 I5 => hb.run pins s5 _ H4 D I5 h
        · rw [if_neg (fun y => ne (eqv_strD.mp y))]
          exact miss s4 I4 h
    rw [e1]
    refine unpackItems_tuple (I.ok.hd hc) ht fun h' hx => ?_
    have I1 : Inv X pins σ H { s with heap := h', toks := s.toks + 1 + 1 } := I.kept (t' := s.toks + 1 + 1) fun b o q => hx b o (Nat.ne_of_lt (Heap.lt_size q)) q
    refine key _ ?_
    exact I1
/-! max(tuple), max(tuple, default=d) -/
def rMaxT (K : PySem.W.Frag) : List V → Hp → VK → Prop := fun vs H Q => ∃ (a : Addr) (ns : List Int), vs = [V.ref a] ∧ SqT K H a (ns.map V.int) ∧ 0 < ns.length ∧ ∀ m, m ∈ ns → (∀ y, y ∈ ns → y ≤ m) → Q (.int m) H
theorem best_in {ns : List Int} (h : 0 < ns.length) : ns.getD (argBest (fun i j => decide (ns.getD i 0 > ns.getD j 0)) (ns.length - 1)) 0 ∈ ns ∧ ∀ y, y ∈ ns → y ≤ ns.getD (argBest (fun i j => decide (ns.getD i 0 > ns.getD j 0)) (ns.length - 1)) 0 := by
  obtain ⟨h1, h2⟩ := argBest_gt (fun i => ns.getD i 0) (ns.length - 1)
  refine ⟨?_, fun y hy => ?_⟩
  · generalize argBest (fun i j => decide (ns.getD i 0 > ns.getD j 0)) (ns.length - 1) = k at h1
    have hk : k < ns.length := by omega
    rw [List.getD_eq_getElem?_getD, List.getElem?_eq_getElem hk]
    exact List.getElem_mem hk
  · obtain ⟨j, hj, rfl⟩ := List.getElem_of_mem hy
    have := h2 j (by omega)
    have e : ns.getD j 0 = ns[j] := by
      rw [List.getD_eq_getElem?_getD, List.getElem?_eq_getElem hj]
      rfl
    rw [← e]
    exact this
theorem ints_at {its : List Value} {ns : List Int} (rv : Vals (ns.map V.int) its) : ∀ (i : Nat) (v : Value), its.toArray[i]? = some v → ∃ t, v = Value.int (ns.getD i 0) t := fun i v hv => by
  have hv2 : its[i]? = some v := by simpa using hv
  have hl := rv.length
  rw [List.length_map] at hl
  have hi : i < ns.length := by
    have := (List.getElem?_eq_some_iff.mp hv2).1
    omega
  obtain ⟨u, hu, ru⟩ := rv.get (show (ns.map V.int)[i]? = some (V.int ns[i]) by rw [List.getElem?_map, List.getElem?_eq_getElem hi]; rfl)
  rw [hv2] at hu
  cases hu
  obtain ⟨t, rfl⟩ := (show ∃ t, v = Value.int ns[i] t from ru)
  exact ⟨t, by
    show Value.int ns[i] t = Value.int (ns.getD i 0) t
    rw [List.getD_eq_getElem?_getD, List.getElem?_eq_getElem hi]
    rfl⟩
theorem cr_maxT {X : Cx} (hc : X.calm = true) : CallR X (.builtin "max") (rMaxT X.K) := by
  intro pins s σ H vs us Q I r h
  obtain ⟨a, ns, rfl, hs, hne, q⟩ := h
  obtain ⟨its, rv, ht, _⟩ := I.tuple hs
  rw [Vals.ref1 r]
  have hh := I.ok.hd hc
  have lta : a < s.heap.objs.size := by
    obtain ⟨o, ho, _⟩ := id ht
    exact Heap.lt_size ho
  have hl := rv.length
  rw [List.length_map] at hl
  have hz : its.toArray.size = ns.length := by rw [List.size_toArray, hl]
  refine call_max_walk (wpAny_pyIter_tuple (show s.heap.IsTuple a its.toArray from ht) ⟨s.heap.objs.size, _, _, _, _, _, fun i j => decide (ns.getD i 0 > ns.getD j 0), rfl, Walks.tuple (A := X.A.in1) hh s.heap.objs.size a (Nat.ne_of_lt lta) its.toArray, ⟨⟨_, Heap.get?_push_size _ rfl, rfl, rfl⟩, (show s.heap.IsTuple a its.toArray from ht).at fun o e => Heap.get?_push_of_some _ e⟩, fun b hb => ?_, by rw [hz]; exact hne, CmpOf.ints_gt (fun i => ns.getD i 0) (ints_at rv), fun v h' tk hP hk => ?_⟩)
  · show b < (s.heap.push _).objs.size
    rw [Heap.size_push]
    rcases List.mem_cons.mp hb with z | z
    · rw [z]
      exact Nat.lt_succ_self _
    · rw [List.mem_singleton.mp z]
      exact Nat.lt_succ_of_lt lta
  · obtain ⟨t, rfl⟩ := ints_at rv _ _ hP
    rw [hz]
    obtain ⟨b1, b2⟩ := best_in hne
    refine ⟨.int _, H, I.kept fun b o e => hk b o (fun z => ?_) (Heap.get?_push_of_some _ e), ⟨_, rfl⟩, q _ b1 b2⟩
    rw [List.mem_singleton] at z
    rw [z] at e
    exact Nat.lt_irrefl _ (Heap.lt_size e)
theorem cr_maxTD {X : Cx} (hc : X.calm = true) : CallRK X (.builtin "max") [Str.ofString "default"] (fun vs zs H Q => (∃ z, zs = [z]) ∧ rMaxT X.K vs H Q) := by
  intro pins s σ H vs zs us ws Q I r rz h
  obtain ⟨⟨z, rfl⟩, a, ns, rfl, hs, hne, q⟩ := h
  obtain ⟨its, rv, ht, _⟩ := I.tuple hs
  rw [Vals.ref1 r]
  match ws, rz with
  | [d], .cons rd .nil =>
    have hh := I.ok.hd hc
    have lta : a < s.heap.objs.size := by
      obtain ⟨o, ho, _⟩ := id ht
      exact Heap.lt_size ho
    have hl := rv.length
    rw [List.length_map] at hl
    have hz : its.toArray.size = ns.length := by rw [List.size_toArray, hl]
    have none : ∀ (b : Addr) (o : Obj), ({ s.heap with objs := #[] } : Heap).get? b = some o → False := fun b o e => by
      have := Heap.lt_size e
      exact Nat.not_lt_zero _ this
    refine call_max_walkD (wpAny_pyIter_tuple (show s.heap.IsTuple a its.toArray from ht) ⟨s.heap.objs.size, _, _, _, _, _, _, { s.heap with objs := #[] }, fun i j => decide (ns.getD i 0 > ns.getD j 0), rfl, (Walks.tuple (A := X.A.in1) hh s.heap.objs.size a (Nat.ne_of_lt lta) its.toArray).toS, ⟨⟨_, Heap.get?_push_size _ rfl, rfl, rfl⟩, (show s.heap.IsTuple a its.toArray from ht).at fun o e => Heap.get?_push_of_some _ e⟩, fun b hb => ?_, fun b o e => (none b o e).elim, fun b o e => (none b o e).elim, fun e => by rw [hz] at e; omega, fun _ => ⟨fun i j vi vj s' Q' E' _ hi hj hq => CmpOf.ints_gt (fun i => ns.getD i 0) (ints_at rv) i j vi vj s' Q' E' hi hj hq, fun v s' hP hm => ?_⟩⟩)
    · show b < (s.heap.push _).objs.size
      rw [Heap.size_push]
      rcases List.mem_cons.mp hb with z | z
      · rw [z]
        exact Nat.lt_succ_self _
      · rw [List.mem_singleton.mp z]
        exact Nat.lt_succ_of_lt lta
    · obtain ⟨t, rfl⟩ := ints_at rv _ _ hP
      rw [hz]
      obtain ⟨b1, b2⟩ := best_in hne
      obtain ⟨h', g', d', t', o'⟩ := s'
      have eg : g' = s.gens := hm.gens
      have ed : d' = s.drawn := hm.drawn
      have eo : o' = s.os := hm.os
      subst eg ed eo
      refine ⟨.int _, H, I.kept (h' := h') (t' := t') fun b o e => hm.heap b o (fun z => ?_) (Heap.get?_push_of_some _ e), ⟨_, rfl⟩, q _ b1 b2⟩
      rw [List.mem_singleton] at z
      rw [z] at e
      exact Nat.lt_irrefl _ (Heap.lt_size e)
/-! sum(tuple) -/
theorem preSum_take (ns : List Int) : ∀ k, preSum (fun i => ns.getD i 0) k = (ns.take k).sum
  | 0 => rfl
  | k + 1 => by
    show preSum (fun i => ns.getD i 0) k + ns.getD k 0 = _
    rw [preSum_take ns k, List.take_add_one, List.getD_eq_getElem?_getD]
    cases ns[k]? with
    | none => simp
    | some x => simp
def rSumT (K : PySem.W.Frag) : List V → Hp → VK → Prop := fun vs H Q => ∃ (a : Addr) (ns : List Int), vs = [V.ref a] ∧ SqT K H a (ns.map V.int) ∧ Q (.int ns.sum) H
theorem cr_sumT {X : Cx} (hc : X.calm = true) : CallR X (.builtin "sum") (rSumT X.K) := by
  intro pins s σ H vs us Q I r h
  obtain ⟨a, ns, rfl, hs, q⟩ := h
  obtain ⟨its, rv, ht, _⟩ := I.tuple hs
  rw [Vals.ref1 r]
  have hh := I.ok.hd hc
  have lta : a < s.heap.objs.size := by
    obtain ⟨o, ho, _⟩ := ht
    exact Heap.lt_size ho
  have hl := rv.length
  rw [List.length_map] at hl
  refine call_sum_walkG (wpAny_pyIter_tuple (show s.heap.IsTuple a its.toArray from ht) ⟨s.heap.objs.size, _, _, _, _, _, fun i => ns.getD i 0, rfl, Walks.tuple (A := X.A.in1) hh s.heap.objs.size a (Nat.ne_of_lt lta) its.toArray, ⟨⟨_, Heap.get?_push_size _ rfl, rfl, rfl⟩, (show s.heap.IsTuple a its.toArray from ht).at fun o e => Heap.get?_push_of_some _ e⟩, fun b hb => ?_, fun i v hv => ?_, fun h' tk t' hk => ?_⟩)
  · show b < (s.heap.push _).objs.size
    rw [Heap.size_push]
    rcases List.mem_cons.mp hb with z | z
    · rw [z]
      exact Nat.lt_succ_self _
    · rw [List.mem_singleton.mp z]
      exact Nat.lt_succ_of_lt lta
  · have hv2 : its[i]? = some v := by simpa using hv
    have hi : i < ns.length := by
      have := (List.getElem?_eq_some_iff.mp hv2).1
      omega
    obtain ⟨u, hu, ru⟩ := rv.get (show (ns.map V.int)[i]? = some (V.int ns[i]) by rw [List.getElem?_map, List.getElem?_eq_getElem hi]; rfl)
    rw [hv2] at hu
    cases hu
    obtain ⟨t, rfl⟩ := (show ∃ t, v = Value.int ns[i] t from ru)
    exact ⟨t, by
      show Value.int ns[i] t = Value.int (ns.getD i 0) t
      rw [List.getD_eq_getElem?_getD, List.getElem?_eq_getElem hi]
      rfl⟩
  · rw [preSum_take, List.take_of_length_le (by rw [List.size_toArray]; omega)]
    refine ⟨.int _, H, I.kept fun b o e => hk b o (fun z => ?_) (Heap.get?_push_of_some _ e), ⟨_, rfl⟩, q⟩
    rw [List.mem_singleton] at z
    rw [z] at e
    exact Nat.lt_irrefl _ (Heap.lt_size e)
theorem sumTK {X : Cx} {K : PySem.W.Frag} (h : X.K = K) (hc : X.calm = true) : CallR X (.builtin "sum") (rSumT K) := by
  subst h
  exact cr_sumT hc
/-! what a register holds -/
def parF : Nat → Nat → Nat
  | 0, _ => 0
  | f + 1, n => (n % 2 + parF f (n / 2)) % 2
def par (n : Nat) : Nat := parF 7 n
def regS (w p x : Nat) : Nat := 2 * x % 2 ^ w + par (x &&& p)
def regA (w p s : Nat) : Nat → Nat
  | 0 => s
  | k + 1 => regS w p (regA w p s k)
def regI (w p z : Nat) : Nat := z / 2 + 2 ^ (w - 1) * ((z % 2 + par ((z / 2) &&& p)) % 2)
theorem par_lt (n : Nat) : par n < 2 := Nat.mod_lt _ (by decide)
theorem regS_lt {w p x : Nat} (hw : 1 ≤ w) : regS w p x < 2 ^ w := by
  unfold regS
  have h1 := par_lt (x &&& p)
  have h2 := Nat.mod_lt (2 * x) (Nat.two_pow_pos w)
  obtain ⟨v, rfl⟩ : ∃ v, w = v + 1 := ⟨w - 1, by omega⟩
  rw [Nat.pow_succ] at *
  have : 2 * x % (2 ^ v * 2) % 2 = 0 := by
    rw [Nat.mod_mul_left_mod]
    omega
  omega
theorem reg_back2 : ∀ p, p < 4 → 2 ≤ p → ∀ x, x < 4 → regI 2 p (regS 2 p x) = x := by decide +kernel
theorem reg_back3 : ∀ p, p < 8 → 4 ≤ p → ∀ x, x < 8 → regI 3 p (regS 3 p x) = x := by decide +kernel
theorem reg_back4 : ∀ p, p < 16 → 8 ≤ p → ∀ x, x < 16 → regI 4 p (regS 4 p x) = x := by decide +kernel
theorem reg_back5 : ∀ p, p < 32 → 16 ≤ p → ∀ x, x < 32 → regI 5 p (regS 5 p x) = x := by decide +kernel
theorem reg_back6 : ∀ p, p < 64 → 32 ≤ p → ∀ x, x < 64 → regI 6 p (regS 6 p x) = x := by decide +kernel
structure RgW (w p : Nat) : Prop where
  lo : 2 ≤ w
  hi : w ≤ 6
  pl : 2 ^ (w - 1) ≤ p
  ph : p < 2 ^ w
theorem reg_back {w p x : Nat} (h : RgW w p) (hx : x < 2 ^ w) : regI w p (regS w p x) = x := by
  obtain ⟨h1, h2, h3, h4⟩ := h
  match w, h1, h2 with
  | 2, _, _ => exact reg_back2 p h4 h3 x hx
  | 3, _, _ => exact reg_back3 p h4 h3 x hx
  | 4, _, _ => exact reg_back4 p h4 h3 x hx
  | 5, _, _ => exact reg_back5 p h4 h3 x hx
  | 6, _, _ => exact reg_back6 p h4 h3 x hx
theorem regA_lt {w p s : Nat} (h : RgW w p) (hs : s < 2 ^ w) : ∀ k, regA w p s k < 2 ^ w
  | 0 => hs
  | _ + 1 => regS_lt (by have := h.lo; omega)
theorem reg_inj {w p x y : Nat} (h : RgW w p) (hx : x < 2 ^ w) (hy : y < 2 ^ w) (e : regS w p x = regS w p y) : x = y := by
  rw [← reg_back h hx, e, reg_back h hy]
theorem regA_back {w p s : Nat} (h : RgW w p) (hs : s < 2 ^ w) : ∀ i d, regA w p s (i + d) = regA w p s i → regA w p s d = s
  | 0, d, e => by rw [Nat.zero_add] at e; exact e
  | i + 1, d, e => by
    rw [show i + 1 + d = (i + d) + 1 by omega] at e
    exact regA_back h hs i d (reg_inj h (regA_lt h hs _) (regA_lt h hs _) e)
theorem regA_zero {w p s : Nat} (h : RgW w p) (hs : s < 2 ^ w) (s0 : 0 < s) : ∀ k, 0 < regA w p s k
  | 0 => s0
  | k + 1 => by
    rcases Nat.eq_zero_or_pos (regA w p s (k + 1)) with z | z
    · exfalso
      have ih := regA_zero h hs s0 k
      have e0 : regS w p 0 = 0 := by
        unfold regS
        rw [Nat.mul_zero, Nat.zero_mod, Nat.zero_and]
        rfl
      have : regA w p s k = 0 := reg_inj h (regA_lt h hs k) (Nat.two_pow_pos w) (by rw [e0]; exact z)
      omega
    · exact z
theorem pigeon : ∀ (n : Nat) (l : List Nat), l.Nodup → (∀ x, x ∈ l → x < n) → l.length ≤ n
  | 0, l, _, h => by
    cases l with
    | nil => exact Nat.le_refl 0
    | cons x r => exact absurd (h x List.mem_cons_self) (Nat.not_lt_zero _)
  | n + 1, l, hd, h => by
    by_cases hm : n ∈ l
    · have h1 := pigeon n (l.erase n) (hd.erase n) fun x hx => by
        have h2 := (hd.mem_erase_iff).mp hx
        have := h x h2.2
        omega
      rw [List.length_erase_of_mem hm] at h1
      omega
    · have h1 := pigeon n l hd fun x hx => by
        have := h x hx
        have : x ≠ n := fun e => hm (e ▸ hx)
        omega
      omega
/-- the first k that comes back -/
structure IsPer (w p s k : Nat) : Prop where
  pos : 1 ≤ k
  le : k ≤ 2 ^ w
  back : regA w p s k = s
  first : ∀ j, 0 < j → j < k → regA w p s j ≠ s
theorem reg_nodup {w p s k : Nat} (h : RgW w p) (hs : s < 2 ^ w) (hf : ∀ j, 0 < j → j < k → regA w p s j ≠ s) : ((List.range k).map (regA w p s)).Nodup := by
  rw [List.nodup_iff_pairwise_ne, List.pairwise_map]
  refine List.pairwise_lt_range.imp_of_mem ?_
  intro a b ha hb hab e
  have hb := List.mem_range.mp hb
  refine hf (b - a) (by omega) (by omega) (regA_back h hs a (b - a) ?_)
  rw [show a + (b - a) = b by omega]
  exact e.symm
theorem per_ex {w p s : Nat} (h : RgW w p) (hs : s < 2 ^ w) : ∃ k, IsPer w p s k := by
  have ex : ∃ k, 1 ≤ k ∧ k ≤ 2 ^ w ∧ regA w p s k = s := by
    apply Classical.byContradiction
    intro hn
    have hf : ∀ j, 0 < j → j < 2 ^ w + 1 → regA w p s j ≠ s := fun j h0 h1 e => hn ⟨j, by omega, by omega, e⟩
    have := pigeon (2 ^ w) _ (reg_nodup h hs hf) fun x hx => by
      obtain ⟨j, _, rfl⟩ := List.mem_map.mp hx
      exact regA_lt h hs j
    rw [List.length_map, List.length_range] at this
    omega
  -- the least such
  have least : ∀ n, ∀ k, k ≤ n → 1 ≤ k → k ≤ 2 ^ w → regA w p s k = s → ∃ k, IsPer w p s k := by
    intro n
    induction n with
    | zero => intro k h1 h2; omega
    | succ n ih =>
      intro k h1 h2 h3 h4
      by_cases hj : ∃ j, 0 < j ∧ j < k ∧ regA w p s j = s
      · obtain ⟨j, j0, jk, je⟩ := hj
        exact ih j (by omega) j0 (by omega) je
      · exact ⟨k, h2, h3, h4, fun j j0 jk je => hj ⟨j, j0, jk, je⟩⟩
  obtain ⟨k, h1, h2, h3⟩ := ex
  exact least k k (Nat.le_refl k) h1 h2 h3
theorem IsPer.uniq {w p s k l : Nat} (h : IsPer w p s k) (g : IsPer w p s l) : k = l := by
  rcases Nat.lt_trichotomy k l with z | z | z
  · exact absurd h.back (g.first k h.pos z)
  · exact z
  · exact absurd g.back (h.first l g.pos z)
noncomputable def per (w p s : Nat) : Nat := @dite Nat (∃ k, IsPer w p s k) (Classical.propDecidable _) (fun h => h.choose) (fun _ => 0)
theorem per_is {w p s : Nat} (h : RgW w p) (hs : s < 2 ^ w) : IsPer w p s (per w p s) := by
  unfold per
  rw [dif_pos (per_ex h hs)]
  exact (per_ex h hs).choose_spec
theorem per_eq {w p s k : Nat} (h : RgW w p) (hs : s < 2 ^ w) (g : IsPer w p s k) : per w p s = k := (per_is h hs).uniq g
/-- the law's odd count -/
def oddL (w x p : Nat) : Int := ((List.range w).map fun j => (((x / 2 ^ j % 2 : Nat) : Int) * ((p / 2 ^ j % 2 : Nat) : Int))).sum % 2
theorem odd2 : ∀ p, p < 4 → ∀ x, x < 4 → oddL 2 x p = ((par (x &&& p) : Nat) : Int) := by decide +kernel
theorem odd3 : ∀ p, p < 8 → ∀ x, x < 8 → oddL 3 x p = ((par (x &&& p) : Nat) : Int) := by decide +kernel
theorem odd4 : ∀ p, p < 16 → ∀ x, x < 16 → oddL 4 x p = ((par (x &&& p) : Nat) : Int) := by decide +kernel
theorem odd5 : ∀ p, p < 32 → ∀ x, x < 32 → oddL 5 x p = ((par (x &&& p) : Nat) : Int) := by decide +kernel
theorem odd6 : ∀ p, p < 64 → ∀ x, x < 64 → oddL 6 x p = ((par (x &&& p) : Nat) : Int) := by decide +kernel
theorem odd_eq {w p x : Nat} (h : RgW w p) (hx : x < 2 ^ w) : oddL w x p = ((par (x &&& p) : Nat) : Int) := by
  obtain ⟨h1, h2, h3, h4⟩ := h
  match w, h1, h2 with
  | 2, _, _ => exact odd2 p h4 x hx
  | 3, _, _ => exact odd3 p h4 x hx
  | 4, _, _ => exact odd4 p h4 x hx
  | 5, _, _ => exact odd5 p h4 x hx
  | 6, _, _ => exact odd6 p h4 x hx
/-! makers -/
inductive Mk where
  | counter (r s t : Nat)
  | table (ns : List Int)
  | turned (w s : Nat)
  | register (w p s : Nat)
  | slow (n : Nat) (m : Mk)
  | slip (n : Nat) (m : Mk)
  | late (n : Nat) (m : Mk)
def Mk.inn : Mk → Mk
  | .slow _ m => m.inn
  | .slip _ m => m.inn
  | .late _ m => m.inn
  | m => m
def Mk.dep : Mk → Nat
  | .slow _ m => m.dep + 1
  | .slip _ m => m.dep + 1
  | .late _ m => m.dep + 1
  | _ => 0
def Mk.bt : Mk → Int → Int
  | .slow n m, t => m.bt (t / n)
  | .slip n m, t => m.bt (t + t / n)
  | .late n m, t => m.bt (t - n)
  | _, t => t
def lff (n : Nat) : Nat → Nat
  | 0 => 0
  | w + 1 => 2 * lff n w + n / 2 ^ w % 2
noncomputable def Mk.pl : Mk → List Int
  | .counter r s t => (List.range r).map fun i => (((t + s * i) % r : Nat) : Int)
  | .table ns => ns
  | .turned w s => (List.range (2 ^ w)).map fun i => ((lff ((s + i) % 2 ^ w) w : Nat) : Int)
  | .register w p s => (List.range (per w p s)).map fun k => ((regA w p s k : Nat) : Int)
  | _ => []
noncomputable def Mk.rnd : Mk → Nat
  | .slow n m => n * m.rnd
  | .slip n m => n * m.rnd / Nat.gcd m.rnd (n + 1)
  | .late _ m => m.rnd
  | m => m.pl.length
def Mk.Pl : Mk → Prop
  | .counter r s t => 1 ≤ r ∧ r ≤ 64 ∧ s ≤ 64 ∧ t < r
  | .table ns => 1 ≤ ns.length ∧ ns.length ≤ 64 ∧ ∀ x, x ∈ ns → 0 ≤ x ∧ x ≤ 63
  | .turned w s => 1 ≤ w ∧ w ≤ 6 ∧ s < 2 ^ w
  | .register w p s => RgW w p ∧ 1 ≤ s ∧ s < 2 ^ w
  | _ => False
def Mk.Ok : Mk → Prop
  | .slow n m => 1 ≤ n ∧ n ≤ 64 ∧ m.Ok
  | .slip n m => 1 ≤ n ∧ n ≤ 64 ∧ m.Ok
  | .late n m => n ≤ 64 ∧ m.Ok
  | m => m.Pl
def Mk.Top : Mk → Int → Prop
  | .counter r _ _, v => v = r
  | .table ns, v => ∃ M, M ∈ ns ∧ (∀ y, y ∈ ns → y ≤ M) ∧ v = M + 1
  | .turned w _, v => v = ((2 ^ w : Nat) : Int)
  | .register w _ _, v => v = ((2 ^ w : Nat) : Int)
  | _, _ => False
theorem Mk.Top.uniq {m : Mk} {v u : Int} (h : m.Top v) (k : m.Top u) : v = u := by
  cases m with
  | counter r s t => exact h.trans k.symm
  | table ns =>
    obtain ⟨M, h1, h2, rfl⟩ := h
    obtain ⟨N, k1, k2, rfl⟩ := k
    have := h2 N k1
    have := k2 M h1
    omega
  | turned w s => exact h.trans k.symm
  | register w p s => exact h.trans k.symm
  | _ => exact h.elim
noncomputable def Mk.val (m : Mk) (t : Int) : Int := m.inn.pl.getD ((m.bt t) % (m.inn.pl.length : Int)).toNat 0
theorem Mk.Ok.inn : ∀ {m : Mk}, m.Ok → m.inn.Pl
  | .slow _ m, h => Mk.Ok.inn (m := m) h.2.2
  | .slip _ m, h => Mk.Ok.inn (m := m) h.2.2
  | .late _ m, h => Mk.Ok.inn (m := m) h.2
  | .counter _ _ _, h => h
  | .table _, h => h
  | .turned _ _, h => h
  | .register _ _ _, h => h
theorem Mk.Pl.len {m : Mk} (h : m.Pl) : 1 ≤ m.pl.length ∧ m.pl.length ≤ 64 := by
  cases m with
  | counter r s t =>
    obtain ⟨h1, h2, _⟩ := h
    simp only [Mk.pl, List.length_map, List.length_range]
    omega
  | table ns => exact ⟨h.1, h.2.1⟩
  | turned w s =>
    obtain ⟨h1, h2, _⟩ := h
    simp only [Mk.pl, List.length_map, List.length_range]
    exact ⟨Nat.one_le_two_pow, Nat.le_trans (Nat.pow_le_pow_right (by decide) h2) (by decide)⟩
  | register w p s =>
    obtain ⟨h1, h2, h3⟩ := h
    have ip := per_is h1 h3
    simp only [Mk.pl, List.length_map, List.length_range]
    exact ⟨ip.pos, Nat.le_trans ip.le (Nat.le_trans (Nat.pow_le_pow_right (by decide) h1.hi) (by decide))⟩
  | _ => exact h.elim
theorem Mk.inn_dep : ∀ m : Mk, m.inn.dep = 0
  | .slow _ m => Mk.inn_dep m
  | .slip _ m => Mk.inn_dep m
  | .late _ m => Mk.inn_dep m
  | .counter _ _ _ => rfl
  | .table _ => rfl
  | .turned _ _ => rfl
  | .register _ _ _ => rfl
theorem Mk.inn_self : ∀ {m : Mk}, m.dep = 0 → m.inn = m
  | .counter _ _ _, _ => rfl
  | .table _, _ => rfl
  | .turned _ _, _ => rfl
  | .register _ _ _, _ => rfl
/-! makers as they stand -/
def MkAt (H : Hp) : Mk → V → Prop
  | .counter r s t, v => ∃ a, v = .ref a ∧ H a = some (.tup [.str "counter", .int (r : Nat), .int (s : Nat), .int (t : Nat)])
  | .table ns, v => ∃ a b, v = .ref a ∧ H a = some (.tup [.str "table", .ref b]) ∧ H b = some (.tup (ns.map V.int))
  | .turned w s, v => ∃ a, v = .ref a ∧ H a = some (.tup [.str "turned", .int (w : Nat), .int (s : Nat)])
  | .register w p s, v => ∃ a, v = .ref a ∧ H a = some (.tup [.str "register", .int (w : Nat), .int (p : Nat), .int (s : Nat)])
  | .slow n m, v => ∃ a x, v = .ref a ∧ H a = some (.tup [.str "slow", .int (n : Nat), x]) ∧ MkAt H m x
  | .slip n m, v => ∃ a x, v = .ref a ∧ H a = some (.tup [.str "slip", .int (n : Nat), x]) ∧ MkAt H m x
  | .late n m, v => ∃ a x, v = .ref a ∧ H a = some (.tup [.str "late", .int (n : Nat), x]) ∧ MkAt H m x
theorem MkAt.keep {H H' : Hp} (s : ∀ a xs, H a = some (.tup xs) → H' a = some (.tup xs)) : ∀ {m : Mk} {v : V}, MkAt H m v → MkAt H' m v
  | .counter _ _ _, _, ⟨a, e, h⟩ => ⟨a, e, s _ _ h⟩
  | .table _, _, ⟨a, b, e, h, k⟩ => ⟨a, b, e, s _ _ h, s _ _ k⟩
  | .turned _ _, _, ⟨a, e, h⟩ => ⟨a, e, s _ _ h⟩
  | .register _ _ _, _, ⟨a, e, h⟩ => ⟨a, e, s _ _ h⟩
  | .slow _ m, _, ⟨a, x, e, h, k⟩ => ⟨a, x, e, s _ _ h, MkAt.keep s (m := m) k⟩
  | .slip _ m, _, ⟨a, x, e, h, k⟩ => ⟨a, x, e, s _ _ h, MkAt.keep s (m := m) k⟩
  | .late _ m, _, ⟨a, x, e, h, k⟩ => ⟨a, x, e, s _ _ h, MkAt.keep s (m := m) k⟩
theorem MkAt.same {H H' : Hp} {m : Mk} {v : V} (h : MkAt H m v) (s : Same H H') : MkAt H' m v := h.keep fun _ _ e => s _ _ e
theorem MkAt.but {H H' : Hp} {m : Mk} {v : V} {p : Addr} {n : Nat} (h : MkAt H m v) (B : Bx H p n) (s : But p H H') : MkAt H' m v := h.keep fun _ _ e => s _ _ (B.ne_tup e) e
def inW (z : Str) : Bool := inV (.str z) [.str "slow", .str "slip", .str "late"]
theorem inW_slow : inW "slow" = true := by decide +kernel
theorem inW_slip : inW "slip" = true := by decide +kernel
theorem inW_late : inW "late" = true := by decide +kernel
theorem inW_counter : inW "counter" = false := by decide +kernel
theorem inW_table : inW "table" = false := by decide +kernel
theorem inW_turned : inW "turned" = false := by decide +kernel
theorem inW_register : inW "register" = false := by decide +kernel
/-- what stands around a maker -/
structure Around1 (m : Mk) (z : Str) (n : Nat) (m' : Mk) : Prop where
  word : (z = "slow" ∧ m = .slow n m') ∨ (z = "slip" ∧ m = .slip n m') ∨ (z = "late" ∧ m = .late n m')
theorem MkAt.shape {H : Hp} {m : Mk} {v : V} (h : MkAt H m v) : (∃ z n m' a x, v = .ref a ∧ H a = some (.tup [.str z, .int (n : Nat), x]) ∧ MkAt H m' x ∧ Around1 m z n m' ∧ inW z = true) ∨ (m.dep = 0 ∧ ∃ a z xs, v = .ref a ∧ H a = some (.tup (.str z :: xs)) ∧ inW z = false) := by
  cases m with
  | counter r s t => obtain ⟨a, e, h⟩ := h; exact .inr ⟨rfl, a, _, _, e, h, inW_counter⟩
  | table ns => obtain ⟨a, b, e, h, _⟩ := h; exact .inr ⟨rfl, a, _, _, e, h, inW_table⟩
  | turned w s => obtain ⟨a, e, h⟩ := h; exact .inr ⟨rfl, a, _, _, e, h, inW_turned⟩
  | register w p s => obtain ⟨a, e, h⟩ := h; exact .inr ⟨rfl, a, _, _, e, h, inW_register⟩
  | slow n m => obtain ⟨a, x, e, h, k⟩ := h; exact .inl ⟨_, n, m, a, x, e, h, k, ⟨.inl ⟨rfl, rfl⟩⟩, inW_slow⟩
  | slip n m => obtain ⟨a, x, e, h, k⟩ := h; exact .inl ⟨_, n, m, a, x, e, h, k, ⟨.inr (.inl ⟨rfl, rfl⟩)⟩, inW_slip⟩
  | late n m => obtain ⟨a, x, e, h, k⟩ := h; exact .inl ⟨_, n, m, a, x, e, h, k, ⟨.inr (.inr ⟨rfl, rfl⟩)⟩, inW_late⟩
theorem Around1.dep {m m' : Mk} {z : Str} {n : Nat} (h : Around1 m z n m') : m.dep = m'.dep + 1 ∧ m.inn = m'.inn := by
  rcases h.word with ⟨_, rfl⟩ | ⟨_, rfl⟩ | ⟨_, rfl⟩ <;> exact ⟨rfl, rfl⟩
def sp_innermost (_ : PySem.W.Frag) : Sp := fun vs H Q _ => ∃ m v, vs = [v] ∧ MkAt H m v ∧ ∀ H' u, Same H H' → MkAt H' m.inn u → Q u H'
def sp_inner_beat (_ : PySem.W.Frag) : Sp := fun vs H Q _ => ∃ m v t, vs = [v, .int t] ∧ MkAt H m v ∧ m.Ok ∧ ∀ H', Same H H' → Q (.int (m.bt t)) H'
/-! the program: numbers of plain makers -/
theorem is_pos {n : Nat} (h : 1 ≤ n) : (0 : Int) < (n : Int) := by omega
def sp_counter_round (_ : PySem.W.Frag) : Sp := fun vs H Q _ => ∃ r s t : Nat, vs = [.int (r : Nat), .int (s : Nat), .int (t : Nat)] ∧ 1 ≤ r ∧ r ≤ 64 ∧ s ≤ 64 ∧ t < r ∧
  ∀ H' p, Same H H' → H p = none → H' p = some (.lst ((Mk.counter r s t).pl.map V.int)) → Q (.ref p) H'
theorem ok_counter_round (T : Defs K mg) (TT : Tabs T base) : FnOk P w K mg base CX0 1 T.f_counter_round T.fd_counter_round ["size", "step", "start"] (sp_counter_round K) := by
  refine T.F_counter_round.ok sc_counter_round (fun vs H Q E h => ?_) (fun cdv A outer s H vs Q E hr h => ?_)
  · obtain ⟨r, s', t, rfl, r1, r2, s2, t2, q⟩ := h
    rfl
  · obtain ⟨r, s', t, rfl, r1, r2, s2, t2, q⟩ := h
    refine ⟨_, PSs.nox (pss_one (ps_ret (pe_lc (own := [("t", 3)]) (g := gName 3) (tt := tYes) rfl sc_counter_round.nd (pi_range1 (by rfl) T.m_range (pa_cons (pv 0) pa_nil)) (blkOk_by (N := N_counter_round) (sc := defScope s_counter_round) (by decide +kernel)) (fun _ _ _ _ _ => (pg_name (i := 3) sc_counter_round.nd rfl (.inl rfl))) (fun _ _ _ _ _ => pts_nil) (fun _ _ _ _ _ => (pe_op op_mod (pe_op op_add (pv 2) (pe_op op_mul (pv 1) (pv 3))) (pv 0)))))), ?_⟩
    have hsl : sizeLine = 16777216 := by decide
    refine ⟨.int (r : Nat), rfl, (r : Nat), rfl, by omega, by omega, fun D nD => ?_⟩
    refine lc_range (fun i H1 => Same H H1 ∧ H1 D = some (.lst (((List.range i).map fun i => (((t + s' * i) % r : Nat) : Int)).map V.int))) ⟨same_upd nD, upd_same⟩ (fun i H1 hi h => ?_) (fun H1 h => ?_)
    · obtain ⟨s1, hD⟩ := h
      have hi : i < r := by omega
      refine ⟨rfl, yes_ite ?_⟩
      refine ⟨.int (t : Nat), rfl, .int (s' : Nat), rfl, _, rfl, _, _, rfl, rfl, .inl ⟨by omega, by omega⟩, _, _, rfl, rfl, .int (r : Nat), rfl, _, _, rfl, rfl, is_pos r1, ?_⟩
      refine ⟨_, hD, by rw [List.length_map, List.length_map, List.length_range]; omega, same_newer s1 nD, ?_⟩
      rw [upd_same, List.range_succ, List.map_append, List.map_append]
      have e : ((t : Int) + (s' : Int) * (0 + (i : Int))) % (r : Int) = (((t + s' * i) % r : Nat) : Int) := by
        rw [Int.zero_add, Int.natCast_emod, Int.natCast_add, Int.natCast_mul]
      dsimp only
      rw [e]
      rfl
    · obtain ⟨s1, hD⟩ := h
      rw [Int.toNat_natCast] at hD
      exact q H1 D s1 nD hD
def sp_last_for_first (_ : PySem.W.Frag) : Sp := fun vs H Q _ => ∃ n w : Nat, vs = [.int (n : Nat), .int (w : Nat)] ∧ w ≤ 64 ∧ Q (.int (lff n w : Nat)) H
theorem bit_and (n i : Nat) : Builtin.bitAnd ((n : Int) / 2 ^ ((0 : Int) + (i : Int)).toNat) 1 = ((n / 2 ^ i % 2 : Nat) : Int) := by
  rw [Int.zero_add, Int.toNat_natCast]
  have h := _root_.Bits.bit_at (x := (n : Int)) i
  rw [Int.fdiv_eq_ediv_of_nonneg _ (by exact Int.le_of_lt (Int.pow_pos (by decide)))] at h
  rw [h]
  have e : ((2 : Int) ^ i) = ((2 ^ i : Nat) : Int) := by rw [Int.natCast_pow]; rfl
  rw [e]
  omega
theorem ok_last_for_first (T : Defs K mg) (TT : Tabs T base) : FnOk P w K mg base CX0 1 T.f_last_for_first T.fd_last_for_first ["number", "wide"] (sp_last_for_first K) := by
  refine T.F_last_for_first.ok sc_last_for_first (fun vs H Q E h => ?_) (fun cdv A outer s H vs Q E hr h => ?_)
  · obtain ⟨n, w', rfl, hw, q⟩ := h
    rfl
  · obtain ⟨n, w', rfl, hw, q⟩ := h
    refine ⟨_, PSs.nox (pss_cons (ps_set (i := 2) sc_last_for_first.nd rfl (.inl rfl) pe_int)
    (pss_cons ((ps_for PassesOwn.never rfl (pi_range1 (by rfl) T.m_range (pa_cons (pv 1) pa_nil)) (pg_name (i := 3) sc_last_for_first.nd rfl (.inl rfl)) (pss_one (ps_set (i := 2) sc_last_for_first.nd rfl (.inl rfl) (pe_op op_add (pe_op op_mul pe_int (pv 2)) (pe_op op_and (pe_op op_shr (pv 0) (pv 3)) pe_int))))))
    (pss_one (ps_ret (pv 2))))), ?_⟩
    refine ⟨.int (w' : Nat), rfl, (w' : Nat), rfl, by omega, by omega, for_range (fun i σ G => ∃ y3, σ = [some (.int (n : Nat)), some (.int (w' : Nat)), some (.int (lff n i : Nat)), y3] ∧ G = H) ⟨none, rfl, rfl⟩ ?_ ?_⟩
    · rintro i σ G hi ⟨y3, rfl, rfl⟩
      refine ⟨_, rfl, _, _, rfl, rfl, .inl ⟨by decide, by decide⟩, .int (n : Nat), rfl, .int (0 + (i : Int)), rfl, _, _, rfl, rfl, (show (0 : Int) ≤ 0 + (i : Int) by omega), _, _, rfl, rfl, _, _, rfl, rfl, some (.int (0 + (i : Int))), ?_, rfl⟩
      try dsimp only
      rw [bit_and]
      rfl
    · rintro σ G ⟨y3, rfl, rfl⟩
      rw [Int.toNat_natCast]
      exact ⟨_, rfl, q⟩
theorem two_pow6 {w : Nat} (h : w ≤ 6) : 1 ≤ 2 ^ w ∧ 2 ^ w ≤ 64 := ⟨Nat.one_le_two_pow, Nat.le_trans (Nat.pow_le_pow_right (by decide) h) (by decide)⟩
theorem shl_one (w : Nat) : (1 : Int) * 2 ^ ((w : Nat) : Int).toNat = ((2 ^ w : Nat) : Int) := by
  rw [Int.toNat_natCast, Int.one_mul, Int.natCast_pow]
  rfl
def sp_size_of (_ : PySem.W.Frag) : Sp := fun vs H Q _ => ∃ w : Nat, vs = [.int (w : Nat)] ∧ w ≤ 6 ∧ Q (.int ((2 ^ w : Nat) : Int)) H
theorem ok_size_of (T : Defs K mg) (TT : Tabs T base) : FnOk P w K mg base CX0 1 T.f_size_of T.fd_size_of ["wide"] (sp_size_of K) := by
  refine T.F_size_of.ok sc_size_of (fun vs H Q E h => ?_) (fun cdv A outer s H vs Q E hr h => ?_)
  · obtain ⟨w', rfl, hw, q⟩ := h
    rfl
  · obtain ⟨w', rfl, hw, q⟩ := h
    refine ⟨_, PSs.nox (pss_one (ps_ret (pe_op op_shl pe_int (pe_callB (call_max2 rfl) (by rfl) T.m_max bt_max (pa_cons (pv 0) (pa_cons pe_int pa_nil)))))), ?_⟩
    have e0 : (if (0 : Int) > (w' : Int) then (0 : Int) else (w' : Int)) = (w' : Int) := if_neg (by omega)
    refine ⟨.int (w' : Nat), rfl, _, _, rfl, ?_⟩
    try dsimp only
    rw [e0]
    refine ⟨_, _, rfl, rfl, ⟨(show (0 : Int) ≤ (w' : Int) by omega), (show (w' : Int) ≤ 1000000 by omega), by decide⟩, ?_⟩
    try dsimp only
    rw [shl_one]
    exact q
def sp_turned_round (_ : PySem.W.Frag) : Sp := fun vs H Q _ => ∃ w s : Nat, vs = [.int (w : Nat), .int (s : Nat)] ∧ 1 ≤ w ∧ w ≤ 6 ∧ s < 2 ^ w ∧
  ∀ H' p, Same H H' → H p = none → H' p = some (.lst ((Mk.turned w s).pl.map V.int)) → Q (.ref p) H'
theorem ok_turned_round (T : Defs K mg) (TT : Tabs T base) : FnOk P w K mg base CX0 2 T.f_turned_round T.fd_turned_round ["wide", "start"] (sp_turned_round K) := by
  have G_size_of : FnOk P w K mg base CX0 1 T.f_size_of T.fd_size_of ["wide"] (sp_size_of K) := ok_size_of T TT
  have G_last_for_first : FnOk P w K mg base CX0 1 T.f_last_for_first T.fd_last_for_first ["number", "wide"] (sp_last_for_first K) := ok_last_for_first T TT
  refine T.F_turned_round.ok sc_turned_round (fun vs H Q E h => ?_) (fun cdv A outer s H vs Q E hr h => ?_)
  · obtain ⟨w', s', rfl, w1, w2, hs, q⟩ := h
    rfl
  · obtain ⟨w', s', rfl, w1, w2, hs, q⟩ := h
    refine ⟨_, PSs.nox (pss_cons (ps_set (i := 2) sc_turned_round.nd rfl (.inr rfl) (pe_call G_size_of (hr.mono (by decide)) (by rfl) T.g_size_of T.F_size_of.kp T.b_size_of .nil pass0 (pa_cons (pv 0) pa_nil)))
    (pss_one (ps_ret (pe_lc (own := [("t", 3)]) (g := gName 3) (tt := tYes) rfl sc_turned_round.nd (pi_range1 (by rfl) T.m_range (pa_cons (pv 2) pa_nil)) (blkOk_by (N := N_turned_round) (sc := defScope s_turned_round) (by decide +kernel)) (fun _ _ _ _ _ => (pg_name (i := 3) sc_turned_round.nd rfl (.inl rfl))) (fun _ _ _ _ _ => pts_nil) (fun _ _ _ _ _ => (pe_call G_last_for_first (hr.mono (by decide)) (by rfl) T.g_last_for_first T.F_last_for_first.kp T.b_last_for_first .nil pass0 (pa_cons (pe_op op_mod (pe_op op_add (pv 1) (pv 3)) (pv 2)) (pa_cons (pv 0) pa_nil)))))))), ?_⟩
    have hsl : sizeLine = 16777216 := by decide
    have tp := two_pow6 w2
    refine ⟨.int (w' : Nat), rfl, w', rfl, w2, ?_⟩
    refine ⟨.int ((2 ^ w' : Nat) : Int), rfl, _, rfl, by omega, by omega, fun D nD => ?_⟩
    refine lc_range (fun i H1 => Same H H1 ∧ H1 D = some (.lst (((List.range i).map fun i => ((lff ((s' + i) % 2 ^ w') w' : Nat) : Int)).map V.int))) ⟨same_upd nD, upd_same⟩ (fun i H1 hi h => ?_) (fun H1 h => ?_)
    · obtain ⟨s1, hD⟩ := h
      have hi : i < 2 ^ w' := by omega
      refine ⟨rfl, yes_ite ?_⟩
      have e : ((s' : Int) + (0 + (i : Int))) % ((2 ^ w' : Nat) : Int) = (((s' + i) % 2 ^ w' : Nat) : Int) := by
        rw [Int.zero_add, Int.natCast_emod, Int.natCast_add]
      refine ⟨.int (s' : Nat), rfl, _, rfl, _, _, rfl, rfl, .int ((2 ^ w' : Nat) : Int), rfl, _, _, rfl, rfl, is_pos tp.1, .int (w' : Nat), rfl, (s' + i) % 2 ^ w', w', congrArg (fun z => [V.int z, V.int ((w' : Nat) : Int)]) e, by omega, ?_⟩
      refine ⟨_, hD, by rw [List.length_map, List.length_map, List.length_range]; omega, same_newer s1 nD, ?_⟩
      rw [upd_same, List.range_succ, List.map_append, List.map_append]
      rfl
    · obtain ⟨s1, hD⟩ := h
      rw [Int.toNat_natCast] at hD
      exact q H1 D s1 nD hD
theorem xor01 {o b : Nat} (ho : o < 2) (hb : b < 2) : Builtin.bitXor (o : Int) (b : Int) = (((o + b) % 2 : Nat) : Int) := by
  match o, b, ho, hb with
  | 0, 0, _, _ => decide
  | 0, 1, _, _ => decide
  | 1, 0, _, _ => decide
  | 1, 1, _, _ => decide
theorem and_one (x : Nat) : Builtin.bitAnd (x : Int) 1 = ((x % 2 : Nat) : Int) := by
  have h := _root_.Bits.bit_at (x := (x : Int)) 0
  rw [Int.pow_zero, Int.fdiv_one] at h
  rw [h, Int.ediv_one]
  omega
theorem parF_zero : ∀ f, parF f 0 = 0
  | 0 => rfl
  | f + 1 => by
    show (0 % 2 + parF f (0 / 2)) % 2 = 0
    rw [Nat.zero_div, parF_zero f]
def sp_odd_ones (_ : PySem.W.Frag) : Sp := fun vs H Q _ => ∃ n : Nat, vs = [.int (n : Nat)] ∧ n < 2 ^ 7 ∧ Q (.int (par n : Nat)) H
theorem ok_odd_ones (T : Defs K mg) (TT : Tabs T base) : FnOk P w K mg base CX0 1 T.f_odd_ones T.fd_odd_ones ["number"] (sp_odd_ones K) := by
  refine T.F_odd_ones.ok sc_odd_ones (fun vs H Q E h => ?_) (fun cdv A outer s H vs Q E hr h => ?_)
  · obtain ⟨n, rfl, hn, q⟩ := h
    rfl
  · obtain ⟨n, rfl, hn, q⟩ := h
    refine ⟨_, PSs.nox (pss_cons (ps_set (i := 1) sc_odd_ones.nd rfl (.inl rfl) pe_int)
    (pss_cons (ps_while PassesOwn.never (pt_cmpR op_gt (pv 0) pe_int (nomark _)) (pss_cons (ps_set (i := 1) sc_odd_ones.nd rfl (.inl rfl) (pe_op op_xor (pv 1) (pe_op op_and (pv 0) pe_int)))
    (pss_one (ps_set (i := 0) sc_odd_ones.nd rfl (.inl rfl) (pe_op op_shr (pv 0) pe_int)))))
    (pss_one (ps_ret (pv 1))))), ?_⟩
    refine ⟨fun k σ H1 => ∃ x o f : Nat, x = k ∧ σ = [some (.int (x : Nat)), some (.int (o : Nat))] ∧ H1 = H ∧ x < 2 ^ f ∧ o < 2 ∧ (o + parF f x) % 2 = par n, ⟨n, n, 0, 7, rfl, rfl, rfl, hn, by decide, by rw [Nat.zero_add]; exact Nat.mod_eq_of_lt (par_lt n)⟩, ?_⟩
    rintro k σ H1 ⟨x, o, f, rfl, rfl, rfl, hx, ho, he⟩
    refine ⟨.int (x : Nat), rfl, _, _, rfl, rfl, _, rfl, ite2 (fun e => ⟨_, fun σ' H' h => h, ?_⟩) (fun e => ?_)⟩
    · have x0 : (0 : Int) < (x : Int) := of_decide_eq_true e
      match f, hx, he with
      | 0, hx, _ =>
        exfalso
        have : x < 1 := hx
        omega
      | f + 1, hx, he =>
        refine ⟨.int (o : Nat), rfl, .int (x : Nat), rfl, _, _, rfl, rfl, _, _, rfl, rfl, ?_⟩
        refine ⟨.int (x : Nat), rfl, _, _, rfl, rfl, (show (0 : Int) ≤ 1 by decide), ?_⟩
        refine ⟨x / 2, by omega, x / 2, (o + x % 2) % 2, f, rfl, ?_, rfl, by rw [Nat.pow_succ] at hx; omega, Nat.mod_lt _ (by decide), ?_⟩
        · have e1 : (x : Int) / 2 ^ (1 : Int).toNat = ((x / 2 : Nat) : Int) := by
            show (x : Int) / 2 ^ 1 = _
            omega
          try dsimp only
          rw [and_one, xor01 ho (Nat.mod_lt _ (by decide)), e1]
          rfl
        · have : (o + (x % 2 + parF f (x / 2)) % 2) % 2 = par n := he
          omega
    · have x0 : x = 0 := by
        have : ¬ (0 : Int) < (x : Int) := fun z => e (decide_eq_true z)
        omega
      subst x0
      rw [parF_zero, Nat.add_zero, Nat.mod_eq_of_lt ho] at he
      subst he
      exact ⟨_, rfl, q⟩
theorem and_nat (x p : Nat) : Builtin.bitAnd (x : Int) (p : Int) = ((x &&& p : Nat) : Int) := by
  rw [PyProof.Rows.bitAnd_pp (by omega) (by omega), Int.toNat_natCast, Int.toNat_natCast]
def sp_held_round (_ : PySem.W.Frag) : Sp := fun vs H Q _ => ∃ w p s : Nat, vs = [.int (w : Nat), .int (p : Nat), .int (s : Nat)] ∧ (Mk.register w p s).Pl ∧
  ∀ H' a, Same H H' → H a = none → H' a = some (.lst ((Mk.register w p s).pl.map V.int)) → Q (.ref a) H'
theorem step_eq {w x p : Nat} : (2 : Int) * (x : Int) % ((2 ^ w : Nat) : Int) + ((par (x &&& p) : Nat) : Int) = ((regS w p x : Nat) : Int) := by
  unfold regS
  rw [Int.natCast_add, Int.natCast_emod, Int.natCast_mul]
  rfl
theorem ok_held_round (T : Defs K mg) (TT : Tabs T base) : FnOk P w K mg base CX0 2 T.f_held_round T.fd_held_round ["wide", "taps", "start"] (sp_held_round K) := by
  have G_size_of : FnOk P w K mg base CX0 1 T.f_size_of T.fd_size_of ["wide"] (sp_size_of K) := ok_size_of T TT
  have G_odd_ones : FnOk P w K mg base CX0 1 T.f_odd_ones T.fd_odd_ones ["number"] (sp_odd_ones K) := ok_odd_ones T TT
  refine T.F_held_round.ok sc_held_round (fun vs H Q E h => ?_) (fun cdv A outer s H vs Q E hr h => ?_)
  · obtain ⟨w', p', s', rfl, ⟨hw, s1, s2⟩, q⟩ := h
    rfl
  · obtain ⟨w', p', s', rfl, ⟨hw, s1, s2⟩, q⟩ := h
    refine ⟨_, PSs.nox (pss_cons (ps_set (i := 3) sc_held_round.nd rfl (.inl rfl) (pe_call G_size_of (hr.mono (by decide)) (by rfl) T.g_size_of T.F_size_of.kp T.b_size_of .nil pass0 (pa_cons (pv 0) pa_nil)))
    (pss_cons (ps_set (i := 4) sc_held_round.nd rfl (.inl rfl) (pe_lst pa_nil))
    (pss_cons (ps_set (i := 5) sc_held_round.nd rfl (.inl rfl) (pv 2))
    (pss_cons (ps_while PassesOwn.never (PW.pt (pw_and (pt_cmpR op_lt (pe_callB call_len_seq (by rfl) T.m_len bt_len (pa_cons (pv 4) pa_nil)) (pv 3) (nomark _)) (pw_and1 (PW.pt (pw_or (pt_cmpR op_ne (pv 5) (pv 2) (nomark _)) (pw_or1 (pt_not (pt_truth (pv 4) (by intro _; rfl))))))))) (pss_cons (ps_expr (pe_bm PySem.F.plainAttrs_list PySem.F.slot_list_append PySem.F.type_list_append mt_append (pv 4) (pa_cons (pv 5) pa_nil)))
    (pss_one (ps_set (i := 5) sc_held_round.nd rfl (.inl rfl) (pe_op op_add (pe_op op_mod (pe_op op_mul pe_int (pv 5)) (pv 3)) (pe_call G_odd_ones (hr.mono (by decide)) (by rfl) T.g_odd_ones T.F_odd_ones.kp T.b_odd_ones .nil pass0 (pa_cons (pe_op op_and (pv 5) (pv 1)) pa_nil)))))))
    (pss_one (ps_ret (pv 4))))))), ?_⟩
    have hsl : sizeLine = 16777216 := by decide
    have tp := two_pow6 hw.hi
    have ip := per_is hw s2
    refine ⟨.int (w' : Nat), rfl, w', rfl, hw.hi, ?_⟩
    obtain ⟨n, hn⟩ : ∃ n, 2 ^ w' = n := ⟨_, rfl⟩
    rw [hn] at tp ⊢
    refine ⟨Nat.zero_le _, fun l nl => ?_⟩
    refine ⟨.int (s' : Nat), rfl, ?_⟩
    refine ⟨fun m σ H1 => ∃ k : Nat, m = n - k ∧ k ≤ n ∧ σ = [some (.int (w' : Nat)), some (.int (p' : Nat)), some (.int (s' : Nat)), some (.int (n : Nat)), some (.ref l), some (.int (regA w' p' s' k : Nat))] ∧ Same H H1 ∧ H1 l = some (.lst (((List.range k).map fun k => ((regA w' p' s' k : Nat) : Int)).map V.int)) ∧ ∀ j, 0 < j → j < k → regA w' p' s' j ≠ s', ⟨n, 0, by omega, by omega, rfl, same_upd nl, upd_same, fun j h0 h1 => by omega⟩, ?_⟩
    rintro m σ H1 ⟨k, rfl, hk, rfl, sH, hl, hf⟩
    have ll : (((List.range k).map fun k => ((regA w' p' s' k : Nat) : Int)).map V.int).length = k := by rw [List.length_map, List.length_map, List.length_range]
    have done : IsPer w' p' s' k → Q (.ref l) H1 := fun h => q H1 l sH nl (by
      rw [hl]
      show _ = some (HO.lst (((List.range (per w' p' s')).map fun k => ((regA w' p' s' k : Nat) : Int)).map V.int))
      rw [per_eq hw s2 h])
    have alt : regA w' p' s' k < 2 ^ w' := regA_lt hw s2 k
    have go : k < n → ∃ v, some (V.ref l) = some v ∧ True := fun _ => ⟨_, rfl, trivial⟩
    clear go
    refine ⟨.ref l, rfl, l, _, rfl, .inl (SqL.mk hl), .int (n : Nat), rfl, _, _, rfl, rfl, _, rfl, ?_⟩
    rw [ll]
    have body : ∀ (b : Prop), k < n → b → k < n := fun _ h _ => h
    clear body
    by_cases kn : k < n
    · rw [decide_eq_true (show (k : Int) < (n : Int) by omega)]
      refine iteT ?_
      refine ⟨_, rfl, .int (s' : Nat), rfl, rfl, _, rfl, ?_⟩
      by_cases es : regA w' p' s' k = s'
      · rw [show (!decide (V.int ((regA w' p' s' k : Nat) : Int) = V.int ((s' : Nat) : Int))) = false by rw [es, decide_eq_true rfl]; rfl]
        refine iteF ?_
        refine ⟨.ref l, rfl, _, .inl ⟨_, SqL.mk hl, rfl⟩, ?_⟩
        match k, kn, hk, hl, hf, done, alt, es with
        | 0, kn, hk, hl, hf, done, alt, es =>
          refine iteT ⟨_, fun σ' H' h => h, ?_⟩
          refine ⟨.ref l, rfl, .inl ⟨rfl, _, SqL.mk hl⟩, _, rfl, l, _, _, rfl, rfl, hl, (show 0 < sizeLine by decide), ?_⟩
          refine ⟨_, rfl, _, _, rfl, rfl, .inl ⟨by decide, by decide⟩, .int (n : Nat), rfl, _, _, rfl, rfl, is_pos tp.1, _, rfl, .int (p' : Nat), rfl, _, _, rfl, rfl, (regA w' p' s' 0 &&& p'), congrArg (fun z => [V.int z]) (and_nat _ _), Nat.lt_of_le_of_lt Nat.and_le_left (Nat.lt_of_lt_of_le alt (Nat.pow_le_pow_right (by decide) (by have := hw.hi; omega))), _, _, rfl, rfl, ?_⟩
          refine ⟨n - 1, by omega, 1, rfl, by omega, ?_, same_newer sH nl, by rw [upd_same]; rfl, fun j h0 h1 => by omega⟩
          try dsimp only
          rw [← hn, step_eq]
          rfl
        | k + 1, kn, hk, hl, hf, done, alt, es =>
          have nz : (!(((List.range (k + 1)).map fun k => ((regA w' p' s' k : Nat) : Int)).map V.int).isEmpty) = true := by
            rw [List.range_succ_eq_map]
            rfl
          rw [nz]
          refine iteF ?_
          exact ⟨.ref l, rfl, done ⟨by omega, by omega, es, hf⟩⟩
      · rw [show (!decide (V.int ((regA w' p' s' k : Nat) : Int) = V.int ((s' : Nat) : Int))) = true by
          rw [decide_eq_false (fun z => es (by have := V.int.inj z; omega))]
          rfl]
        refine iteT (iteT ⟨_, fun σ' H' h => h, ?_⟩)
        refine ⟨.ref l, rfl, .inl ⟨rfl, _, SqL.mk hl⟩, _, rfl, l, _, _, rfl, rfl, hl, by rw [ll]; omega, ?_⟩
        refine ⟨_, rfl, _, _, rfl, rfl, .inl ⟨by decide, by decide⟩, .int (n : Nat), rfl, _, _, rfl, rfl, is_pos tp.1, _, rfl, .int (p' : Nat), rfl, _, _, rfl, rfl, (regA w' p' s' k &&& p'), congrArg (fun z => [V.int z]) (and_nat _ _), Nat.lt_of_le_of_lt Nat.and_le_left (Nat.lt_of_lt_of_le alt (Nat.pow_le_pow_right (by decide) (by have := hw.hi; omega))), _, _, rfl, rfl, ?_⟩
        refine ⟨n - (k + 1), by omega, k + 1, rfl, by omega, ?_, same_newer sH nl, ?_, fun j h0 h1 => ?_⟩
        · try dsimp only
          rw [← hn, step_eq]
          rfl
        · rw [upd_same, List.range_succ, List.map_append, List.map_append]
          rfl
        · by_cases z : j = k
          · rw [z]
            exact es
          · exact hf j h0 (by omega)
    · rw [decide_eq_false (show ¬ (k : Int) < (n : Int) by omega)]
      refine iteF (iteF ?_)
      have kp : per w' p' s' = k := by
        have h1 := ip.le
        have h2 : ¬ per w' p' s' < k := fun z => hf _ ip.pos z ip.back
        omega
      refine ⟨.ref l, rfl, done ?_⟩
      rw [← kp]
      exact ip
def sp_plain_round (_ : PySem.W.Frag) : Sp := fun vs H Q _ => ∃ m v, vs = [v] ∧ MkAt H m v ∧ m.Pl ∧
  ∀ H' p, Same H H' → H p = none → H' p = some (.lst (m.pl.map V.int)) → Q (.ref p) H'
theorem ok_plain_round (T : Defs K mg) (TT : Tabs T base) : FnOk P w K mg base CX0 3 T.f_plain_round T.fd_plain_round ["maker"] (sp_plain_round K) := by
  have G_counter_round : FnOk P w K mg base CX0 1 T.f_counter_round T.fd_counter_round ["size", "step", "start"] (sp_counter_round K) := ok_counter_round T TT
  have G_turned_round : FnOk P w K mg base CX0 2 T.f_turned_round T.fd_turned_round ["wide", "start"] (sp_turned_round K) := ok_turned_round T TT
  have G_held_round : FnOk P w K mg base CX0 2 T.f_held_round T.fd_held_round ["wide", "taps", "start"] (sp_held_round K) := ok_held_round T TT
  refine T.F_plain_round.ok sc_plain_round (fun vs H Q E h => ?_) (fun cdv A outer s H vs Q E hr h => ?_)
  · obtain ⟨m, v, rfl, hm, pl, q⟩ := h
    rfl
  · obtain ⟨m, v, rfl, hm, pl, q⟩ := h
    refine ⟨_, PSs.nox (pss_one (ps_match (pv 0) (pcs_seq rfl sc_plain_round.nd pe_str (pcap_cons (i := 1) rfl (.inl rfl) (pcap_cons (i := 2) rfl (.inl rfl) (pcap_cons (i := 3) rfl (.inl rfl) pcap_nil))) (pss_one (ps_ret (pe_call G_counter_round (hr.mono (by decide)) (by rfl) T.g_counter_round T.F_counter_round.kp T.b_counter_round .nil pass0 (pa_cons (pv 1) (pa_cons (pv 2) (pa_cons (pv 3) pa_nil))))))
    (pcs_seq rfl sc_plain_round.nd pe_str (pcap_cons (i := 4) rfl (.inl rfl) (pcap_cons (i := 3) rfl (.inl rfl) pcap_nil)) (pss_one (ps_ret (pe_call G_turned_round (hr.mono (by decide)) (by rfl) T.g_turned_round T.F_turned_round.kp T.b_turned_round .nil pass0 (pa_cons (pv 4) (pa_cons (pv 3) pa_nil)))))
    (pcs_seq rfl sc_plain_round.nd pe_str (pcap_cons (i := 4) rfl (.inl rfl) (pcap_cons (i := 5) rfl (.inl rfl) (pcap_cons (i := 3) rfl (.inl rfl) pcap_nil))) (pss_one (ps_ret (pe_call G_held_round (hr.mono (by decide)) (by rfl) T.g_held_round T.F_held_round.kp T.b_held_round .nil pass0 (pa_cons (pv 4) (pa_cons (pv 5) (pa_cons (pv 3) pa_nil))))))
    (pcs_seq rfl sc_plain_round.nd pe_str (pcap_cons (i := 6) rfl (.inl rfl) pcap_nil) (pss_one (ps_ret (pe_callTy call_list_of (by rfl) T.m_list bt_list (pa_cons (pv 6) pa_nil))))
    pcs_nil)))))), ?_⟩
    cases m with
    | counter r s' t =>
      obtain ⟨a, rfl, ha⟩ := hm
      refine ⟨.ref a, rfl, a, _, rfl, SqT.mk ha, .inr ⟨_, _, rfl, rfl, .inl ⟨rfl, ?_⟩⟩⟩
      exact ⟨.int (r : Nat), rfl, .int (s' : Nat), rfl, .int (t : Nat), rfl, r, s', t, rfl, pl.1, pl.2.1, pl.2.2.1, pl.2.2.2, q⟩
    | turned w' s' =>
      obtain ⟨a, rfl, ha⟩ := hm
      refine ⟨.ref a, rfl, a, _, rfl, SqT.mk ha, .inl ⟨by simp, .inr ⟨_, _, rfl, rfl, .inl ⟨rfl, ?_⟩⟩⟩⟩
      exact ⟨.int (w' : Nat), rfl, .int (s' : Nat), rfl, w', s', rfl, pl.1, pl.2.1, pl.2.2, q⟩
    | table ns =>
      obtain ⟨a, b, rfl, ha, hb⟩ := hm
      refine ⟨.ref a, rfl, a, _, rfl, SqT.mk ha, .inl ⟨by simp, .inl ⟨by simp, .inl ⟨by simp, .inr ⟨_, _, rfl, rfl, .inl ⟨rfl, ?_⟩⟩⟩⟩⟩⟩
      exact ⟨.ref b, rfl, b, _, rfl, .inr (SqT.mk hb), fun l nl => q _ l (same_upd nl) nl upd_same⟩
    | register w' p' s' =>
      obtain ⟨a, rfl, ha⟩ := hm
      refine ⟨.ref a, rfl, a, _, rfl, SqT.mk ha, .inr ⟨_, _, rfl, rfl, .inr ⟨by decide +kernel, .inl ⟨by simp, .inr ⟨_, _, rfl, rfl, .inl ⟨rfl, ?_⟩⟩⟩⟩⟩⟩
      exact ⟨.int (w' : Nat), rfl, .int (p' : Nat), rfl, .int (s' : Nat), rfl, w', p', s', rfl, pl, q⟩
    | _ => exact pl.elim
/-! the program: rounds, tops, numbers at beats -/
def spr_round_of (d : Nat) (_ : PySem.W.Frag) : Sp := fun vs H Q _ => ∃ m v, vs = [v] ∧ MkAt H m v ∧ m.Ok ∧ m.dep < d ∧ ∀ H', Same H H' → Q (.int (m.rnd : Nat)) H'
theorem no_round_of {K : PySem.W.Frag} {vs : List V} {H : Hp} {Q : VK} {E : XK} (h : spr_round_of 0 K vs H Q E) : False := by
  obtain ⟨m, v, _, _, _, z, _⟩ := h
  exact Nat.not_lt_zero _ z
theorem gcd_le {a n : Nat} : 1 ≤ Nat.gcd a (n + 1) ∧ Nat.gcd a (n + 1) ≤ n + 1 := ⟨Nat.gcd_pos_of_pos_right _ (by omega), Nat.le_of_dvd (by omega) (Nat.gcd_dvd_right _ _)⟩
theorem okr_round_of (T : Defs K mg) (TT : Tabs T base) : ∀ d : Nat, FnOk P w K mg base CX0 (4 + d) T.f_round_of T.fd_round_of ["maker"] (spr_round_of d K)
  | 0 => ⟨fun _ _ _ _ z => (no_round_of z).elim, fun _ _ _ _ _ _ _ _ _ _ _ _ _ z => (no_round_of z).elim⟩
  | d + 1 => by
    have G_round_of : FnOk P w K mg base CX0 (4 + d) T.f_round_of T.fd_round_of ["maker"] (spr_round_of d K) := okr_round_of T TT d
    have G_common_divisor : FnOk P w K mg base CX0 1 T.f_common_divisor T.fd_common_divisor ["one", "other"] (sp_common_divisor K) := ok_common_divisor T TT
    have G_plain_round : FnOk P w K mg base CX0 3 T.f_plain_round T.fd_plain_round ["maker"] (sp_plain_round K) := ok_plain_round T TT
    show FnOk P w K mg base CX0 ((4 + d) + 1) T.f_round_of T.fd_round_of ["maker"] (spr_round_of (d + 1) K)
    refine T.F_round_of.ok sc_round_of (fun vs H Q E h => ?_) (fun cdv A outer s H vs Q E hr h => ?_)
    · obtain ⟨m, v, rfl, hm, ok, dp, q⟩ := h
      rfl
    · obtain ⟨m, v, rfl, hm, ok, dp, q⟩ := h
      refine ⟨_, PSs.nox (pss_one (ps_match (pv 0) (pcs_seq rfl sc_round_of.nd pe_str (pcap_cons (i := 1) rfl (.inl rfl) (pcap_cons (i := 2) rfl (.inl rfl) pcap_nil)) (pss_one (ps_ret (pe_op op_mul (pv 1) (pe_call G_round_of (hr.mono (by omega)) (by rfl) T.g_round_of T.F_round_of.kp T.b_round_of .nil pass0 (pa_cons (pv 2) pa_nil)))))
    (pcs_seq rfl sc_round_of.nd pe_str (pcap_cons (i := 1) rfl (.inl rfl) (pcap_cons (i := 2) rfl (.inl rfl) pcap_nil)) (pss_cons (ps_set (i := 3) sc_round_of.nd rfl (.inl rfl) (pe_call G_round_of (hr.mono (by omega)) (by rfl) T.g_round_of T.F_round_of.kp T.b_round_of .nil pass0 (pa_cons (pv 2) pa_nil)))
    (pss_one (ps_ret (pe_op op_fdiv (pe_op op_mul (pv 1) (pv 3)) (pe_call G_common_divisor (hr.mono (by omega)) (by rfl) T.g_common_divisor T.F_common_divisor.kp T.b_common_divisor .nil pass0 (pa_cons (pv 3) (pa_cons (pe_op op_add (pv 1) pe_int) pa_nil)))))))
    (pcs_seq rfl sc_round_of.nd pe_str (pcap_cons (i := 4) rfl (.inl rfl) (pcap_cons (i := 2) rfl (.inl rfl) pcap_nil)) (pss_one (ps_ret (pe_call G_round_of (hr.mono (by omega)) (by rfl) T.g_round_of T.F_round_of.kp T.b_round_of .nil pass0 (pa_cons (pv 2) pa_nil))))
    (pcs_any (pss_one (ps_ret (pe_callB call_len_seq (by rfl) T.m_len bt_len (pa_cons (pe_call G_plain_round (hr.mono (by omega)) (by rfl) T.g_plain_round T.F_plain_round.kp T.b_plain_round .nil pass0 (pa_cons (pv 0) pa_nil)) pa_nil)))))))))), ?_⟩
      cases m with
      | slow n m =>
        obtain ⟨a, x, rfl, ha, hx⟩ := hm
        have dp : m.dep + 1 < d + 1 := dp
        refine ⟨.ref a, rfl, a, _, rfl, SqT.mk ha, .inr ⟨_, _, rfl, rfl, .inl ⟨rfl, ?_⟩⟩⟩
        refine ⟨.int (n : Nat), rfl, x, rfl, m, x, rfl, hx, ok.2.2, by omega, fun H1 s1 => ?_⟩
        refine ⟨_, _, rfl, rfl, .inl ⟨(show -(2 ^ 64) < (n : Int) by omega), (show (n : Int) < 2 ^ 64 by have := ok.2.1; omega)⟩, ?_⟩
        have e : (n : Int) * (m.rnd : Int) = (((Mk.slow n m).rnd : Nat) : Int) := (Int.natCast_mul n m.rnd).symm
        try dsimp only
        rw [e]
        exact q H1 s1
      | slip n m =>
        obtain ⟨a, x, rfl, ha, hx⟩ := hm
        have dp : m.dep + 1 < d + 1 := dp
        refine ⟨.ref a, rfl, a, _, rfl, SqT.mk ha, .inr ⟨_, _, rfl, rfl, .inr ⟨by decide +kernel, .inr ⟨_, _, rfl, rfl, .inl ⟨rfl, ?_⟩⟩⟩⟩⟩
        refine ⟨x, rfl, m, x, rfl, hx, ok.2.2, by omega, fun H1 s1 => ?_⟩
        refine ⟨.int (n : Nat), rfl, .int (m.rnd : Nat), rfl, _, _, rfl, rfl, .inl ⟨(show -(2 ^ 64) < (n : Int) by omega), (show (n : Int) < 2 ^ 64 by have := ok.2.1; omega)⟩, .int (m.rnd : Nat), rfl, .int (n : Nat), rfl, _, _, rfl, rfl, _, _, rfl, ?_⟩
        have g := gcd_le (a := m.rnd) (n := n)
        have eg : Int.gcd (m.rnd : Int) ((n : Int) + 1) = Nat.gcd m.rnd (n + 1) := rfl
        have ef : (if (1 : Int) > (Int.gcd (m.rnd : Int) ((n : Int) + 1) : Int) then 1 else (Int.gcd (m.rnd : Int) ((n : Int) + 1) : Int)) = ((Nat.gcd m.rnd (n + 1) : Nat) : Int) := by
          rw [eg]
          split <;> omega
        rw [ef]
        have n2 := ok.2.1
        refine ⟨_, _, rfl, rfl, ⟨(show (0 : Int) < ((Nat.gcd m.rnd (n + 1) : Nat) : Int) by omega), (show ((Nat.gcd m.rnd (n + 1) : Nat) : Int) < 1073741824 by omega)⟩, ?_⟩
        have e : (n : Int) * (m.rnd : Int) / ((Nat.gcd m.rnd (n + 1) : Nat) : Int) = (((Mk.slip n m).rnd : Nat) : Int) := by
          rw [← Int.natCast_mul, ← Int.natCast_ediv]
          rfl
        try dsimp only
        rw [e]
        exact q H1 s1
      | late n m =>
        obtain ⟨a, x, rfl, ha, hx⟩ := hm
        have dp : m.dep + 1 < d + 1 := dp
        refine ⟨.ref a, rfl, a, _, rfl, SqT.mk ha, .inr ⟨_, _, rfl, rfl, .inr ⟨by decide +kernel, .inr ⟨_, _, rfl, rfl, .inr ⟨by decide +kernel, .inr ⟨_, _, rfl, rfl, .inl ⟨rfl, ?_⟩⟩⟩⟩⟩⟩⟩
        exact ⟨x, rfl, m, x, rfl, hx, ok.2, by omega, fun H1 s1 => q H1 s1⟩
      | counter r s' t =>
        obtain ⟨a, rfl, ha⟩ := id hm
        refine ⟨.ref a, rfl, a, _, rfl, SqT.mk ha, .inl ⟨by simp, .inl ⟨by simp, .inl ⟨by simp, ?_⟩⟩⟩⟩
        refine ⟨.ref a, rfl, .counter r s' t, _, rfl, hm, ok, fun H1 p s1 np hp => ⟨p, _, rfl, .inl (SqL.mk hp), ?_⟩⟩
        rw [List.length_map]
        exact q H1 s1
      | turned w' s' =>
        obtain ⟨a, rfl, ha⟩ := id hm
        refine ⟨.ref a, rfl, a, _, rfl, SqT.mk ha, .inr ⟨_, _, rfl, rfl, .inr ⟨by decide +kernel, .inr ⟨_, _, rfl, rfl, .inr ⟨by decide +kernel, .inr ⟨_, _, rfl, rfl, .inr ⟨by decide +kernel, ?_⟩⟩⟩⟩⟩⟩⟩
        refine ⟨.ref a, rfl, .turned w' s', _, rfl, hm, ok, fun H1 p s1 np hp => ⟨p, _, rfl, .inl (SqL.mk hp), ?_⟩⟩
        rw [List.length_map]
        exact q H1 s1
      | table ns =>
        obtain ⟨a, b, rfl, ha, hb⟩ := id hm
        refine ⟨.ref a, rfl, a, _, rfl, SqT.mk ha, .inl ⟨by simp, .inl ⟨by simp, .inl ⟨by simp, ?_⟩⟩⟩⟩
        refine ⟨.ref a, rfl, .table ns, _, rfl, hm, ok, fun H1 p s1 np hp => ⟨p, _, rfl, .inl (SqL.mk hp), ?_⟩⟩
        rw [List.length_map]
        exact q H1 s1
      | register w' p s' =>
        obtain ⟨a, rfl, ha⟩ := id hm
        refine ⟨.ref a, rfl, a, _, rfl, SqT.mk ha, .inl ⟨by simp, .inl ⟨by simp, .inl ⟨by simp, ?_⟩⟩⟩⟩
        refine ⟨.ref a, rfl, .register w' p s', _, rfl, hm, ok, fun H1 p s1 np hp => ⟨p, _, rfl, .inl (SqL.mk hp), ?_⟩⟩
        rw [List.length_map]
        exact q H1 s1
def sp_round_of (K : PySem.W.Frag) : Sp := spr_round_of 5 K
theorem ok_round_of (T : Defs K mg) (TT : Tabs T base) : FnOk P w K mg base CX0 9 T.f_round_of T.fd_round_of ["maker"] (sp_round_of K) := okr_round_of T TT 5
def sp_top_of (_ : PySem.W.Frag) : Sp := fun vs H Q _ => ∃ m v, vs = [v] ∧ MkAt H m v ∧ m.Ok ∧ ∀ H' z, Same H H' → m.inn.Top z → Q (.int z) H'
theorem pl_at {m : Mk} (h : m.Pl) (t : Int) : atI (m.pl.map V.int) (t % (m.pl.length : Int)) = some (.int (m.pl.getD (t % (m.pl.length : Int)).toNat 0)) := by
  have hl := h.len
  have h1 := Int.emod_nonneg t (show (m.pl.length : Int) ≠ 0 by omega)
  have h2 := Int.emod_lt_of_pos t (show (0 : Int) < (m.pl.length : Int) by omega)
  obtain ⟨j, hj⟩ := Int.eq_ofNat_of_zero_le h1
  rw [hj] at h2 ⊢
  have hj2 : j < m.pl.length := by omega
  refine atI_nat ?_
  rw [List.getElem?_map, List.getElem?_eq_getElem hj2, Int.toNat_natCast, List.getD_eq_getElem?_getD, List.getElem?_eq_getElem hj2]
  rfl
def sp_values_at (_ : PySem.W.Frag) : Sp := fun vs H Q _ => ∃ m v b ts, vs = [v, .ref b] ∧ MkAt H m v ∧ m.Ok ∧ H b = some (.lst ((ts : List Int).map V.int)) ∧ ts.length ≤ 100000 ∧
  ∀ H' p, Same H H' → H p = none → H' p = some (.lst ((ts.map m.val).map V.int)) → Q (.ref p) H'
def sp_value_at (_ : PySem.W.Frag) : Sp := fun vs H Q _ => ∃ m v t, vs = [v, .int t] ∧ MkAt H m v ∧ m.Ok ∧ ∀ H', Same H H' → Q (.int (m.val t)) H'
def sp_values_of (_ : PySem.W.Frag) : Sp := fun vs H Q _ => ∃ m v, ∃ n : Nat, vs = [v, .int (n : Nat)] ∧ MkAt H m v ∧ m.Ok ∧ n ≤ 100000 ∧
  ∀ H' p, Same H H' → H p = none → H' p = some (.lst (((List.range n).map fun (i : Nat) => m.val i).map V.int)) → Q (.ref p) H'
/-! the law's own divisor -/
def sp__law_divisor (_ : PySem.W.Frag) : Sp := fun vs H Q _ => ∃ a b : Int, vs = [.int a, .int b] ∧ Q (.int (Int.gcd a b : Int)) H
theorem ok__law_divisor (T : Defs K mg) (TT : Tabs T base) : FnOk P w K mg base CX0 1 T.f__law_divisor T.fd__law_divisor ["_law_one", "_law_other"] (sp__law_divisor K) := by
  refine T.F__law_divisor.ok sc__law_divisor (fun vs H Q E h => ?_) (fun cdv A outer s H vs Q E hr h => ?_)
  · obtain ⟨a, b, rfl, q⟩ := h
    rfl
  · obtain ⟨a, b, rfl, q⟩ := h
    refine ⟨_, PSs.nox (pss_cons (ps_par (i := 0) (j := 1) (by rfl) sc__law_divisor.nd rfl rfl (by decide) rfl rfl (pa_cons (pe_callB call_abs (by rfl) T.m_abs bt_abs (pa_cons (pv 0) pa_nil)) (pa_cons (pe_callB call_abs (by rfl) T.m_abs bt_abs (pa_cons (pv 1) pa_nil)) pa_nil)) (by rfl))
    (pss_cons (ps_while PassesOwn.never (PW.pt (pw_and (pt_cmpR op_gt (pv 0) pe_int (nomark _)) (pw_and1 (pt_cmpR op_gt (pv 1) pe_int (nomark _))))) (pss_cons (ps_if (pt_cmpR op_lt (pv 0) (pv 1) (nomark _)) (pss_one (ps_par (i := 0) (j := 1) (by rfl) sc__law_divisor.nd rfl rfl (by decide) rfl rfl (pa_cons (pv 1) (pa_cons (pv 0) pa_nil)) (by rfl))) pss_nil)
    (pss_one (ps_set (i := 0) sc__law_divisor.nd rfl (.inl rfl) (pe_op op_mod (pv 0) (pv 1))))))
    (pss_one (ps_ret (pe_op op_add (pv 0) (pv 1)))))), ?_⟩
    refine ⟨.int a, rfl, a, rfl, .int b, rfl, b, rfl, _, _, rfl, ?_⟩
    refine while_by (fun σ H1 => H1 = H ∧ ∃ x y : Nat, σ = [some (.int (x : Nat)), some (.int (y : Nat))] ∧ Nat.gcd x y = Int.gcd a b) (fun σ _ => match σ with | [some (.int x), some (.int y)] => x.toNat + y.toNat | _ => 0) ⟨rfl, a.natAbs, b.natAbs, ?_, rfl⟩ ?_ ?_
    · rw [abs_eq, abs_eq]
      rfl
    · rintro σ H1 ⟨rfl, x, y, rfl, hg⟩
      have fin : (x = 0 ∨ y = 0) → ((x : Int) + (y : Int)) = (Int.gcd a b : Int) := fun z => by
        rcases z with rfl | rfl
        · rw [Nat.gcd_zero_left] at hg
          omega
        · rw [Nat.gcd_zero_right] at hg
          omega
      refine ⟨.int (x : Nat), rfl, _, _, rfl, rfl, _, rfl, ite2 (fun e1 => ?_) (fun e1 => ?_)⟩
      · have hx : (0 : Int) < (x : Int) := of_decide_eq_true e1
        refine ⟨.int (y : Nat), rfl, _, _, rfl, rfl, _, rfl, ite2 (fun e2 => ?_) (fun e2 => ?_)⟩
        · have hy : (0 : Int) < (y : Int) := of_decide_eq_true e2
          refine ⟨.int (x : Nat), rfl, .int (y : Nat), rfl, _, _, rfl, rfl, _, rfl, ite2 (fun e3 => ?_) (fun e3 => ?_)⟩
          · have hl : (x : Int) < (y : Int) := of_decide_eq_true e3
            refine ⟨.int (y : Nat), rfl, .int (x : Nat), rfl, _, _, rfl, .int (y : Nat), rfl, .int (x : Nat), rfl, _, _, rfl, rfl, hx, ⟨rfl, y % x, x, rfl, ?_⟩, ?_⟩
            · rw [← Nat.gcd_rec]
              exact hg
            · show ((y : Int) % (x : Int)).toNat + ((x : Int)).toNat < ((x : Int)).toNat + ((y : Int)).toNat
              have := Int.emod_lt_of_pos (y : Int) hx
              have := Int.emod_nonneg (y : Int) (show (x : Int) ≠ 0 by omega)
              omega
          · have hl : ¬ (x : Int) < (y : Int) := fun z => e3 (decide_eq_true z)
            refine ⟨.int (x : Nat), rfl, .int (y : Nat), rfl, _, _, rfl, rfl, hy, ⟨rfl, x % y, y, rfl, ?_⟩, ?_⟩
            · rw [← Nat.gcd_rec, Nat.gcd_comm]
              exact hg
            · show ((x : Int) % (y : Int)).toNat + ((y : Int)).toNat < ((x : Int)).toNat + ((y : Int)).toNat
              have := Int.emod_lt_of_pos (x : Int) hy
              have := Int.emod_nonneg (x : Int) (show (y : Int) ≠ 0 by omega)
              omega
        · have hy : ¬ (0 : Int) < (y : Int) := fun z => e2 (decide_eq_true z)
          refine ⟨.int (x : Nat), rfl, .int (y : Nat), rfl, _, _, rfl, rfl, ?_⟩
          show Q (.int ((x : Int) + (y : Int))) H1
          rw [fin (.inr (by omega))]
          exact q
      · have hx : ¬ (0 : Int) < (x : Int) := fun z => e1 (decide_eq_true z)
        refine ⟨.int (x : Nat), rfl, .int (y : Nat), rfl, _, _, rfl, rfl, ?_⟩
        show Q (.int ((x : Int) + (y : Int))) H1
        rw [fin (.inl (by omega))]
        exact q
    · rintro σ H1 Q1 Q2 hQ ⟨v, hv, i, j, e1, e2, k, e3, h3⟩
      refine ⟨v, hv, i, j, e1, e2, k, e3, ?_⟩
      cases k with
      | true =>
        rw [if_pos rfl] at h3 ⊢
        obtain ⟨v, hv, i, j, e1, e2, k, e3, h3⟩ := h3
        exact ⟨v, hv, i, j, e1, e2, k, e3, hQ _ _ h3⟩
      | false =>
        rw [if_neg Bool.false_ne_true] at h3 ⊢
        exact hQ _ _ h3
/-! where a number stands first -/
theorem flat_ints (xs : List Int) : (xs.map V.int).all flatV = true := by
  rw [List.all_eq_true]
  intro x hx
  obtain ⟨i, _, rfl⟩ := List.mem_map.mp hx
  rfl
theorem in_ints (xs : List Int) (k : Int) : inV (.int k) (xs.map V.int) = decide (k ∈ xs) := by
  unfold inV
  rw [Bool.eq_iff_iff, List.any_eq_true, decide_eq_true_iff]
  constructor
  · rintro ⟨y, hy, e⟩
    obtain ⟨i, hi, rfl⟩ := List.mem_map.mp hy
    have : i = k := by
      have e : (i == k) = true := e
      exact eq_of_beq e
    rw [← this]
    exact hi
  · intro h
    exact ⟨_, List.mem_map.mpr ⟨k, h, rfl⟩, show (k == k) = true from beq_self_eq_true k⟩
theorem first_of {xs : List Int} {k : Int} : k ∈ xs → ∃ j : Nat, xs[j]? = some k ∧ ∀ m, m < j → xs[m]? ≠ some k := by
  induction xs with
  | nil => intro h; cases h
  | cons x r ih =>
    intro h
    by_cases e : x = k
    · exact ⟨0, by rw [e]; rfl, fun m hm => by omega⟩
    · rcases List.mem_cons.mp h with h | h
      · exact absurd h.symm e
      · obtain ⟨j, h1, h2⟩ := ih h
        refine ⟨j + 1, h1, fun m hm => ?_⟩
        cases m with
        | zero => exact fun z => e (Option.some.inj z)
        | succ m => exact h2 m (by omega)
/-! counters, tables, turned ones -/
def Mk.Bs : Mk → Prop
  | .counter _ _ _ => True
  | .table _ => True
  | .turned _ _ => True
  | .register _ _ _ => True
  | _ => False
theorem bnd64 {z : Nat} (h : z ≤ 64) : -(2 ^ 64) < (z : Int) ∧ (z : Int) < 2 ^ 64 := by omega
def pows : List Int := [1, 2, 4, 8, 16, 32, 64]
def powP (w : Nat) : List Int := (List.range w).map fun j => ((2 ^ j : Nat) : Int)
def powR (w : Nat) : List Int := (List.range w).map fun j => ((2 ^ (w - 1 - j) : Nat) : Int)
theorem six {P : Nat → Prop} {w : Nat} (h : w ≤ 6) (h0 : P 0) (h1 : P 1) (h2 : P 2) (h3 : P 3) (h4 : P 4) (h5 : P 5) (h6 : P 6) : P w := by
  match w, h with
  | 0, _ => exact h0
  | 1, _ => exact h1
  | 2, _ => exact h2
  | 3, _ => exact h3
  | 4, _ => exact h4
  | 5, _ => exact h5
  | 6, _ => exact h6
theorem pow_take {w : Nat} (h : w ≤ 6) : pows.take w = powP w := six (P := fun w => pows.take w = powP w) h (by decide) (by decide) (by decide) (by decide) (by decide) (by decide) (by decide)
theorem pow_rev {w : Nat} (h : w ≤ 6) : (powP w).reverse = powR w := six (P := fun w => (powP w).reverse = powR w) h (by decide) (by decide) (by decide) (by decide) (by decide) (by decide) (by decide)
theorem pow_at {w : Nat} (h : w ≤ 6) : pows[w]? = some ((2 ^ w : Nat) : Int) := six (P := fun w => pows[w]? = some ((2 ^ w : Nat) : Int)) h (by decide) (by decide) (by decide) (by decide) (by decide) (by decide) (by decide)
theorem at_pow {w : Nat} (h : w ≤ 6) : atI (pows.map V.int) ((w : Nat) : Int) = some (.int ((2 ^ w : Nat) : Int)) := atI_nat (by rw [List.getElem?_map, pow_at h]; rfl)
theorem powP_len (w : Nat) : (powP w).length = w := by
  unfold powP
  rw [List.length_map, List.length_range]
theorem powR_len (w : Nat) : (powR w).length = w := by
  unfold powR
  rw [List.length_map, List.length_range]
theorem powP_at {w k : Nat} {y : V} (h : ((powP w).map V.int)[k]? = some y) : k < w ∧ y = .int ((2 ^ k : Nat) : Int) := by
  have hk := (List.getElem?_eq_some_iff.mp h).1
  rw [List.length_map, powP_len] at hk
  unfold powP at h
  rw [List.getElem?_map, List.getElem?_map, List.getElem?_range hk] at h
  cases h
  exact ⟨hk, rfl⟩
theorem powR_at {w k : Nat} {y : V} (h : ((powR w).map V.int)[k]? = some y) : k < w ∧ y = .int ((2 ^ (w - 1 - k) : Nat) : Int) := by
  have hk := (List.getElem?_eq_some_iff.mp h).1
  rw [List.length_map, powR_len] at hk
  unfold powR at h
  rw [List.getElem?_map, List.getElem?_map, List.getElem?_range hk] at h
  cases h
  exact ⟨hk, rfl⟩
theorem sum_two (f : Nat → Int) : ∀ k : Nat, ((List.range k).map fun j => 2 * f j).sum = 2 * ((List.range k).map f).sum
  | 0 => rfl
  | k + 1 => by
    rw [List.range_succ, List.map_append, List.sum_append, List.map_append, List.sum_append, sum_two f k]
    simp
    omega
theorem lff_sum (x : Nat) : ∀ w : Nat, ((List.range w).map fun j => ((x / 2 ^ j % 2 : Nat) : Int) * ((2 ^ (w - 1 - j) : Nat) : Int)).sum = ((lff x w : Nat) : Int)
  | 0 => rfl
  | w + 1 => by
    rw [List.range_succ, List.map_append, List.sum_append]
    have e : (List.range w).map (fun j => ((x / 2 ^ j % 2 : Nat) : Int) * ((2 ^ (w + 1 - 1 - j) : Nat) : Int)) = (List.range w).map fun j => 2 * (((x / 2 ^ j % 2 : Nat) : Int) * ((2 ^ (w - 1 - j) : Nat) : Int)) := by
      apply List.map_congr_left
      intro j hj
      have hj := List.mem_range.mp hj
      show _ = 2 * (_ * _)
      rw [show w + 1 - 1 - j = (w - 1 - j) + 1 by omega, Nat.pow_succ, Int.natCast_mul, Int.mul_comm ((2 ^ (w - 1 - j) : Nat) : Int), Int.mul_left_comm]
      rfl
    rw [e, sum_two (fun j => ((x / 2 ^ j % 2 : Nat) : Int) * ((2 ^ (w - 1 - j) : Nat) : Int)) w, lff_sum x w]
    show 2 * ((lff x w : Nat) : Int) + (_ * ((2 ^ (w + 1 - 1 - w) : Nat) : Int) + 0) = ((2 * lff x w + x / 2 ^ w % 2 : Nat) : Int)
    rw [show w + 1 - 1 - w = 0 by omega]
    omega
def sp__law_powers (_ : PySem.W.Frag) : Sp := fun vs H Q _ => vs = [] ∧ ∀ H' p, Same H H' → H p = none → H' p = some (.lst (pows.map V.int)) → Q (.ref p) H'
theorem ok__law_powers (T : Defs K mg) (TT : Tabs T base) : FnOk P w K mg base CX0 1 T.f__law_powers T.fd__law_powers [] (sp__law_powers K) := by
  refine T.F__law_powers.ok sc__law_powers (fun vs H Q E h => ?_) (fun cdv A outer s H vs Q E hr h => ?_)
  · obtain ⟨rfl, q⟩ := h
    rfl
  · obtain ⟨rfl, q⟩ := h
    refine ⟨_, PSs.nox (pss_one (ps_ret (pe_lst (pa_cons pe_int (pa_cons pe_int (pa_cons pe_int (pa_cons pe_int (pa_cons pe_int (pa_cons pe_int (pa_cons pe_int pa_nil)))))))))), ?_⟩
    exact ⟨(show 7 ≤ sizeLine by decide), fun l nl => q _ l (same_upd nl) nl upd_same⟩
def sp__law_base (_ : PySem.W.Frag) : Sp := fun vs H Q _ => ∃ m v, vs = [v] ∧ MkAt H m v ∧ m.Pl ∧ m.Bs ∧
  ∀ H' p, Same H H' → H p = none → H' p = some (.lst (m.pl.map V.int)) → Q (.ref p) H'
theorem ne_table_counter : ¬ (V.str "counter" = V.str "table") := by decide +kernel
theorem ok__law_base (T : Defs K mg) (TT : Tabs T base) : FnOk P w K mg base CX0 2 T.f__law_base T.fd__law_base ["_law_maker_here"] (sp__law_base K) := by
  have G__law_powers : FnOk P w K mg base CX0 1 T.f__law_powers T.fd__law_powers [] (sp__law_powers K) := ok__law_powers T TT
  refine T.F__law_base.ok sc__law_base (fun vs H Q E h => ?_) (fun cdv A outer s H vs Q E hr h => ?_)
  · obtain ⟨m, v, rfl, hm, pl, bs, q⟩ := h
    rfl
  · obtain ⟨m, v, rfl, hm, pl, bs, q⟩ := h
    refine ⟨_, PSs.nox (pss_cons (ps_if (pt_cmpR op_eq (pe_ix ix_tup (pv 0) pe_int (fun _ _ => rfl)) pe_str (nomark _)) (pss_one (ps_ret (pe_callTy call_list_of (by rfl) T.m_list bt_list (pa_cons (pe_ix ix_tup (pv 0) pe_int (fun _ _ => rfl)) pa_nil)))) pss_nil)
    (pss_cons (ps_if (pt_cmpR op_eq (pe_ix ix_tup (pv 0) pe_int (fun _ _ => rfl)) pe_str (nomark _)) (pss_cons (ps_set (i := 1) sc__law_base.nd rfl (.inl rfl) (pe_lst (pa_cons (pe_ix ix_tup (pv 0) pe_int (fun _ _ => rfl)) pa_nil)))
    (pss_cons (ps_while PassesOwn.never (pt_cmpR op_lt (pe_callB call_len_seq (by rfl) T.m_len bt_len (pa_cons (pv 1) pa_nil)) (pe_ix ix_tup (pv 0) pe_int (fun _ _ => rfl)) (nomark _)) (pss_one (ps_expr (pe_bm PySem.F.plainAttrs_list PySem.F.slot_list_append PySem.F.type_list_append mt_append (pv 1) (pa_cons (pe_op op_mod (pe_op op_add (pe_ix ix_list (pv 1) (pe_un un_neg pe_int) (fun _ _ => rfl)) (pe_ix ix_tup (pv 0) pe_int (fun _ _ => rfl))) (pe_ix ix_tup (pv 0) pe_int (fun _ _ => rfl))) pa_nil)))))
    (pss_one (ps_ret (pv 1))))) pss_nil)
    (pss_cons (ps_if (pt_cmpR op_eq (pe_ix ix_tup (pv 0) pe_int (fun _ _ => rfl)) pe_str (nomark _)) (pss_cons (ps_asg (pe_tup (pa_cons (pe_ix ix_list (pe_call0 G__law_powers (hr.mono (by decide)) (by rfl) T.g__law_powers T.F__law_powers.kp T.b__law_powers .nil pass0) (pe_ix ix_tup (pv 0) pe_int (fun _ _ => rfl)) (fun _ _ => rfl)) (pa_cons (pe_lst pa_nil) pa_nil))) (pg_tup rfl (pgs_cons (pg_name (i := 2) sc__law_base.nd rfl (.inr rfl)) (pgs_cons (pg_name (i := 1) sc__law_base.nd rfl (.inl rfl)) pgs_nil))))
    (pss_cons ((ps_for PassesOwn.never rfl (pi_range1 (by rfl) T.m_range (pa_cons (pv 2) pa_nil)) (pg_name (i := 3) sc__law_base.nd rfl (.inr rfl)) (pss_cons (ps_setLc (i := 4) (own := [("_law_power", 7)]) (g := gName 7) (tt := tYes) rfl sc__law_base.nd rfl rfl (sw_true rfl rfl rfl (by decide +kernel)) (pi_list (pe_slice sl_list (pe_call0 G__law_powers (hr.mono (by decide)) (by rfl) T.g__law_powers T.F__law_powers.kp T.b__law_powers .nil pass0) po_none (po_some (pe_ix ix_tup (pv 0) pe_int (fun _ _ => rfl))))) (blkOk_by (N := N__law_base) (sc := defScope s__law_base) (by decide +kernel)) (fun _ _ _ _ _ => (pg_name (i := 7) sc__law_base.nd rfl (.inl rfl))) (fun _ _ _ _ _ => pts_nil) (fun _ _ _ _ _ => (pe_op op_mod (pe_op op_fdiv (pe_op op_mod (pe_op op_add (pe_ix (ixtK (K := K) rfl) (pv 0) pe_int (fun _ _ => rfl)) (pv 3)) (pv 2)) (pv 7)) pe_int)))
    (pss_one (ps_expr (pe_bm PySem.F.plainAttrs_list PySem.F.slot_list_append PySem.F.type_list_append mt_append (pv 1) (pa_cons (pe_callB (cr_sum rfl) (by rfl) T.m_sum bt_sum (pa_cons (pe_lc (own := [("_law_bit", 8), ("_law_power", 7)]) (g := gTup K 2 (gCons (gName 8) (gCons (gName 7) gNil))) (tt := tYes) rfl sc__law_base.nd (RZ.pi_zipA (by rfl) T.m_zip (pa_cons (pv 4) (pa_cons (pe_revL (pe_slice sl_list (pe_call0 G__law_powers (hr.mono (by decide)) (by rfl) T.g__law_powers T.F__law_powers.kp T.b__law_powers .nil pass0) po_none (po_some (pe_ix ix_tup (pv 0) pe_int (fun _ _ => rfl))))) pa_nil))) (blkOk_by (N := N__law_base) (sc := defScope s__law_base) (by decide +kernel)) (fun _ _ _ _ _ => (pg_tupK (K := K) rfl rfl (pgs_cons (pg_name (i := 8) sc__law_base.nd rfl (.inl rfl)) (pgs_cons (pg_name (i := 7) sc__law_base.nd rfl (.inl rfl)) pgs_nil)))) (fun _ _ _ _ _ => pts_nil) (fun _ _ _ _ _ => (pe_op op_mul (pv 8) (pv 7)))) pa_nil)) pa_nil)))))))
    (pss_one (ps_ret (pv 1))))) pss_nil)
    (pss_cons (ps_par (i := 4) (j := 1) (by rfl) sc__law_base.nd rfl rfl (by decide) rfl rfl (pa_cons (pe_slice sl_list (pe_call0 G__law_powers (hr.mono (by decide)) (by rfl) T.g__law_powers T.F__law_powers.kp T.b__law_powers .nil pass0) po_none (po_some (pe_ix ix_tup (pv 0) pe_int (fun _ _ => rfl)))) (pa_cons (pe_lst pa_nil) pa_nil)) (by rfl))
    (pss_cons (ps_set (i := 5) sc__law_base.nd rfl (.inr rfl) (pe_ix ix_tup (pv 0) pe_int (fun _ _ => rfl)))
    (pss_cons (ps_while PassesOwn.never (pt_cmpR op_notIn_seq (pv 5) (pv 1) rfl) (pss_cons (ps_expr (pe_bm PySem.F.plainAttrs_list PySem.F.slot_list_append PySem.F.type_list_append mt_append (pv 1) (pa_cons (pv 5) pa_nil)))
    (pss_cons (ps_set (i := 6) sc__law_base.nd rfl (.inl rfl) (pe_op op_mod (pe_callB (cr_sum rfl) (by rfl) T.m_sum bt_sum (pa_cons (pe_lc (own := [("_law_power", 7)]) (g := gName 7) (tt := tYes) rfl sc__law_base.nd (pi_list (pv 4)) (blkOk_by (N := N__law_base) (sc := defScope s__law_base) (by decide +kernel)) (fun _ _ _ _ _ => (pg_name (i := 7) sc__law_base.nd rfl (.inl rfl))) (fun _ _ _ _ _ => pts_nil) (fun _ _ _ _ _ => (pe_op op_mul (pe_op op_mod (pe_op op_fdiv (pv 5) (pv 7)) pe_int) (pe_op op_mod (pe_op op_fdiv (pe_ix (ixtK (K := K) rfl) (pv 0) pe_int (fun _ _ => rfl)) (pv 7)) pe_int)))) pa_nil)) pe_int))
    (pss_one (ps_set (i := 5) sc__law_base.nd rfl (.inr rfl) (pe_op op_add (pe_op op_mod (pe_op op_mul pe_int (pv 5)) (pe_ix ix_list (pe_call0 G__law_powers (hr.mono (by decide)) (by rfl) T.g__law_powers T.F__law_powers.kp T.b__law_powers .nil pass0) (pe_ix ix_tup (pv 0) pe_int (fun _ _ => rfl)) (fun _ _ => rfl))) (pv 6)))))))
    (pss_one (ps_ret (pv 1))))))))), ?_⟩
    have hsl : sizeLine = 16777216 := by decide
    cases m with
    | table ns =>
      obtain ⟨a, b, rfl, ha, hb⟩ := hm
      refine ⟨.ref a, rfl, a, _, 0, _, rfl, rfl, SqT.mk ha, atI_nat (j := 0) rfl, rfl, _, rfl, ?_⟩
      rw [decide_eq_true rfl]
      refine iteT ?_
      exact ⟨.ref a, rfl, a, _, 1, _, rfl, rfl, SqT.mk ha, atI_nat (j := 1) rfl, b, _, rfl, .inr (SqT.mk hb), fun l nl => q _ l (same_upd nl) nl upd_same⟩
    | counter r s' t =>
      obtain ⟨a, rfl, ha⟩ := hm
      obtain ⟨r1, r2, s2, t2⟩ := pl
      refine ⟨.ref a, rfl, a, _, 0, _, rfl, rfl, SqT.mk ha, atI_nat (j := 0) rfl, rfl, _, rfl, ?_⟩
      rw [decide_eq_false ne_table_counter]
      refine iteF ?_
      refine ⟨.ref a, rfl, a, _, 0, _, rfl, rfl, SqT.mk ha, atI_nat (j := 0) rfl, rfl, _, rfl, ?_⟩
      rw [decide_eq_true rfl]
      refine iteT ?_
      refine ⟨.ref a, rfl, a, _, 3, _, rfl, rfl, SqT.mk ha, atI_nat (j := 3) rfl, (show 1 ≤ sizeLine by decide), fun l nl => ?_⟩
      have s0 : Same H (upd H l (.lst [.int (t : Nat)])) := same_upd nl
      refine ⟨fun n σ H1 => ∃ k : Nat, n = r - k ∧ k + 1 ≤ r ∧ σ = [some (.ref a), some (.ref l), none, none, none, none, none, none, none] ∧ Same H H1 ∧ H1 l = some (.lst (((List.range k).map fun i => (((t + s' * i) % r : Nat) : Int)).map V.int ++ [.int (((t + s' * k) % r : Nat) : Int)])), ⟨r, 0, by omega, by omega, rfl, s0, ?_⟩, ?_⟩
      · rw [upd_same, Nat.mul_zero, Nat.add_zero, Nat.mod_eq_of_lt t2]
        rfl
      rintro n σ H1 ⟨k, rfl, hk, rfl, s1, hl⟩
      have ha1 := s1 _ _ ha
      have ll : (((List.range k).map fun i => (((t + s' * i) % r : Nat) : Int)).map V.int ++ [V.int (((t + s' * k) % r : Nat) : Int)]).length = k + 1 := by
        rw [List.length_append, List.length_map, List.length_map, List.length_range]
        rfl
      refine ⟨.ref l, rfl, l, _, rfl, .inl (SqL.mk hl), .ref a, rfl, a, _, 1, _, rfl, rfl, SqT.mk ha1, atI_nat (j := 1) rfl, _, _, rfl, rfl, _, rfl, ?_⟩
      rw [ll]
      refine ite2 (fun e => ⟨_, fun σ' H' h => h, ?_⟩) (fun e => ?_)
      · have e : ((k + 1 : Nat) : Int) < (r : Int) := of_decide_eq_true e
        refine ⟨.ref l, rfl, .inl ⟨rfl, _, SqL.mk hl⟩, .ref l, rfl, 1, rfl, l, _, _, _, rfl, rfl, SqL.mk hl, atI_last _ _, .ref a, rfl, a, _, 2, _, rfl, rfl, SqT.mk ha1, atI_nat (j := 2) rfl, _, _, rfl, rfl, .ref a, rfl, a, _, 1, _, rfl, rfl, SqT.mk ha1, atI_nat (j := 1) rfl, _, _, rfl, rfl, is_pos r1, ?_⟩
        refine ⟨l, _, _, rfl, rfl, hl, by rw [ll]; omega, ?_⟩
        refine ⟨r - (k + 1), by omega, k + 1, rfl, by omega, rfl, same_newer s1 nl, ?_⟩
        have ev : ((((t + s' * k) % r : Nat) : Int) + (s' : Int)) % (r : Int) = (((t + s' * (k + 1)) % r : Nat) : Int) := by
          rw [← Int.natCast_add, ← Int.natCast_emod, Nat.mod_add_mod, Nat.add_assoc, Nat.mul_succ]
        dsimp only
        rw [upd_same, ev, List.range_succ, List.map_append, List.map_append]
        rfl
      · have e : ¬ ((k + 1 : Nat) : Int) < (r : Int) := fun z => e (decide_eq_true z)
        obtain rfl : r = k + 1 := by omega
        refine ⟨.ref l, rfl, q H1 l s1 nl ?_⟩
        rw [hl]
        show _ = some (HO.lst (((List.range (k + 1)).map fun i => (((t + s' * i) % (k + 1) : Nat) : Int)).map V.int))
        rw [List.range_succ, List.map_append, List.map_append]
        rfl
    | turned w' s' =>
      obtain ⟨a, rfl, ha⟩ := hm
      obtain ⟨w1, w2, sl⟩ := pl
      have tp := two_pow6 w2
      refine ⟨.ref a, rfl, a, _, 0, _, rfl, rfl, SqT.mk ha, atI_nat (j := 0) rfl, rfl, _, rfl, ?_⟩
      rw [decide_eq_false (show ¬ (V.str "turned" = V.str "table") by decide +kernel)]
      refine iteF ?_
      refine ⟨.ref a, rfl, a, _, 0, _, rfl, rfl, SqT.mk ha, atI_nat (j := 0) rfl, rfl, _, rfl, ?_⟩
      rw [decide_eq_false (show ¬ (V.str "turned" = V.str "counter") by decide +kernel)]
      refine iteF ?_
      refine ⟨.ref a, rfl, a, _, 0, _, rfl, rfl, SqT.mk ha, atI_nat (j := 0) rfl, rfl, _, rfl, ?_⟩
      rw [decide_eq_true rfl]
      refine iteT ?_
      refine ⟨rfl, fun H1 l1 s1 nl1 hl1 => ?_⟩
      refine ⟨.ref a, rfl, a, _, 1, _, rfl, rfl, SqT.mk (s1 _ _ ha), atI_nat (j := 1) rfl, l1, _, _, _, rfl, rfl, SqL.mk hl1, at_pow w2, Nat.zero_le _, fun f nf => ⟨(show 2 ≤ sizeLine by decide), fun t nt => ?_⟩⟩
      refine ⟨t, _, rfl, SqT.mk upd_same, rfl, _, _, rfl, _, _, rfl, rfl, ?_⟩
      have S2 : Same H (upd (upd H1 f (.lst [])) t (.tup [.int ((2 ^ w' : Nat) : Int), .ref f])) := (s1.trans (same_upd nf)).trans (same_upd nt)
      have hf2 : (upd (upd H1 f (.lst [])) t (.tup [.int ((2 ^ w' : Nat) : Int), .ref f])) f = some (.lst []) := (same_upd nt) _ _ upd_same
      have nf0 : H f = none := s1.free nf
      generalize upd (upd H1 f (.lst [])) t (.tup [.int ((2 ^ w' : Nat) : Int), .ref f]) = H2 at S2 hf2 ⊢
      refine ⟨.int ((2 ^ w' : Nat) : Int), rfl, _, rfl, by omega, by omega, for_range (fun i σ G => ∃ y3 y4 y7 y8, σ = [some (.ref a), some (.ref f), some (.int ((2 ^ w' : Nat) : Int)), y3, y4, none, none, y7, y8] ∧ Same H G ∧ G f = some (.lst (((List.range i).map fun i => ((lff ((s' + i) % 2 ^ w') w' : Nat) : Int)).map V.int))) ⟨none, none, none, none, rfl, S2, hf2⟩ ?_ ?_⟩
      · rintro i σ G hi ⟨y3, y4, y7, y8, rfl, sG, hG⟩
        have hi : i < 2 ^ w' := by omega
        obtain ⟨x, hx⟩ : ∃ x, (s' + i) % 2 ^ w' = x := ⟨_, rfl⟩
        have ex : ((s' : Int) + (0 + (i : Int))) % ((2 ^ w' : Nat) : Int) = (x : Int) := by
          rw [← hx, Int.zero_add, Int.natCast_emod, Int.natCast_add]
        -- the bits
        refine ⟨rfl, fun G1 l2 g1 nl2 hl2 => ?_⟩
        have ha1 := g1 _ _ (sG _ _ ha)
        refine ⟨.ref a, rfl, a, _, 1, _, rfl, rfl, SqT.mk ha1, atI_nat (j := 1) rfl, _, rfl, l2, _, rfl, SqL.mk hl2, fun sl nsl => ?_⟩
        rw [cut_take, pow_take w2]
        have g2 := same_upd nsl (o := .lst ((powP w').map V.int))
        have hsl2 : (upd G1 sl (.lst ((powP w').map V.int))) sl = some (.lst ((powP w').map V.int)) := upd_same
        generalize upd G1 sl (.lst ((powP w').map V.int)) = G2 at g2 hsl2 ⊢
        have ha2 := g2 _ _ ha1
        refine ⟨sl, rfl, ⟨_, SqL.mk hsl2⟩, fun D nD => ?_⟩
        refine lc_list (xs := (powP w').map V.int) (fun k F => Same G2 F ∧ F D = some (.lst (((List.range k).map fun j => ((x / 2 ^ j % 2 : Nat) : Int)).map V.int))) ⟨same_upd nD, upd_same⟩ (fun k F _ h => SqL.mk (h.1 _ _ hsl2)) (fun k y F hy h => ?_) (fun F h => ?_)
        · obtain ⟨sF, hD⟩ := h
          obtain ⟨hk, rfl⟩ := powP_at hy
          have kp : 1 ≤ 2 ^ k ∧ 2 ^ k ≤ 64 := two_pow6 (by omega)
          refine ⟨rfl, yes_ite ?_⟩
          refine ⟨.ref a, rfl, a, _, 2, _, rfl, rfl, SqT.mk (sF _ _ ha2), atI_nat (j := 2) rfl, .int (0 + (i : Int)), rfl, _, _, rfl, rfl, .int ((2 ^ w' : Nat) : Int), rfl, _, _, rfl, rfl, is_pos tp.1, _, rfl, _, _, rfl, rfl, ⟨is_pos kp.1, (show ((2 ^ k : Nat) : Int) < 1073741824 by omega)⟩, _, _, rfl, rfl, (show (0 : Int) < 2 by decide), ?_⟩
          refine ⟨_, hD, by rw [List.length_map, List.length_map, List.length_range]; omega, same_newer sF nD, ?_⟩
          dsimp only
          rw [upd_same, List.range_succ, List.map_append, List.map_append, ex, ← Int.natCast_ediv]
          rfl
        obtain ⟨sF, hD⟩ := h
        rw [List.length_map, powP_len] at hD
        have g02 := sG.trans (g1.trans (g2.trans sF))
        have hfF := sF _ _ (g2 _ _ (g1 _ _ hG))
        -- their sum
        refine ⟨.ref f, rfl, .inl ⟨rfl, _, SqL.mk hfF⟩, .ref D, rfl, rfl, fun F1 l3 g3 nl3 hl3 => ?_⟩
        have ha3 := g3 _ _ (g02 _ _ ha)
        refine ⟨.ref a, rfl, a, _, 1, _, rfl, rfl, SqT.mk ha3, atI_nat (j := 1) rfl, _, rfl, l3, _, rfl, SqL.mk hl3, fun s3 ns3 => ?_⟩
        rw [cut_take, pow_take w2]
        refine ⟨s3, _, rfl, SqL.mk upd_same, fun rv nrv => ?_⟩
        rw [← List.map_reverse, pow_rev w2]
        have g4 : Same F (upd (upd F1 s3 (.lst ((powP w').map V.int))) rv (.lst ((powR w').map V.int))) := g3.trans ((same_upd ns3).trans (same_upd nrv))
        have hrv : (upd (upd F1 s3 (.lst ((powP w').map V.int))) rv (.lst ((powR w').map V.int))) rv = some (.lst ((powR w').map V.int)) := upd_same
        generalize upd (upd F1 s3 (.lst ((powP w').map V.int))) rv (.lst ((powR w').map V.int)) = F4 at g4 hrv ⊢
        have hD4 := g4 _ _ hD
        refine ⟨D, rv, _, _, rfl, .inl ⟨SqL.mk hD4, SqL.mk hrv, fun D2 nD2 => ?_⟩⟩
        refine lc_it (walk_zip (n := w') (xs := ((List.range w').map fun j => ((x / 2 ^ j % 2 : Nat) : Int)).map V.int) (ys := (powR w').map V.int) (by rw [List.length_map, List.length_map, List.length_map, List.length_range, powR_len, Nat.min_self])) (fun k E5 => Same F4 E5 ∧ E5 D2 = some (.lst (((List.range k).map fun j => ((x / 2 ^ j % 2 : Nat) : Int) * ((2 ^ (w' - 1 - j) : Nat) : Int)).map V.int))) ⟨same_upd nD2, upd_same⟩ (fun k E5 _ h2 => ⟨SqL.mk (h2.1 _ _ hD4), SqL.mk (h2.1 _ _ hrv)⟩) ?_ ?_
        · rintro k z E5 E6 hk ⟨s5, hD5⟩ ⟨t5, x1, x2, rfl, nt5, rfl, e1, e2⟩
          have e1 : (((List.range w').map fun j => ((x / 2 ^ j % 2 : Nat) : Int)).map V.int)[k]? = some x1 := e1
          have e2 : ((powR w').map V.int)[k]? = some x2 := e2
          rw [List.getElem?_map, List.getElem?_map, List.getElem?_range hk] at e1
          cases e1
          obtain ⟨_, rfl⟩ := powR_at e2
          have pk : 2 ^ (w' - 1 - k) ≤ 64 := (two_pow6 (by omega)).2
          refine ⟨t5, _, rfl, SqT.mk upd_same, rfl, _, _, rfl, _, _, rfl, rfl, rfl, yes_ite ?_⟩
          refine ⟨_, rfl, _, rfl, _, _, rfl, rfl, .inr (bnd64 pk), ?_⟩
          refine ⟨_, (same_upd nt5) _ _ hD5, by rw [List.length_map, List.length_map, List.length_range]; omega, same_newer (s5.trans (same_upd nt5)) nD2, ?_⟩
          rw [upd_same, List.range_succ, List.map_append, List.map_append]
          rfl
        rintro E5 ⟨s5, hD5⟩
        have hf5 := s5 _ _ (g4 _ _ hfF)
        refine ⟨D2, _, rfl, SqL.mk hD5, f, _, _, rfl, rfl, hf5, by rw [List.length_map, List.length_map, List.length_range]; omega, ?_⟩
        refine ⟨_, _, _, _, rfl, same_newer (g02.trans (g4.trans s5)) nf0, ?_⟩
        rw [upd_same, lff_sum, List.range_succ, List.map_append, List.map_append, ← hx]
        rfl
      · rintro σ G ⟨y3, y4, y7, y8, rfl, sG, hG⟩
        rw [Int.toNat_natCast] at hG
        exact ⟨.ref f, rfl, q G f sG nf0 hG⟩
    | register w' p' s' =>
      obtain ⟨a, rfl, ha⟩ := hm
      obtain ⟨hw, s1', s2'⟩ := pl
      have w2 := hw.hi
      have tp := two_pow6 w2
      have ip := per_is hw s2'
      refine ⟨.ref a, rfl, a, _, 0, _, rfl, rfl, SqT.mk ha, atI_nat (j := 0) rfl, rfl, _, rfl, ?_⟩
      rw [decide_eq_false (show ¬ (V.str "register" = V.str "table") by decide +kernel)]
      refine iteF ?_
      refine ⟨.ref a, rfl, a, _, 0, _, rfl, rfl, SqT.mk ha, atI_nat (j := 0) rfl, rfl, _, rfl, ?_⟩
      rw [decide_eq_false (show ¬ (V.str "register" = V.str "counter") by decide +kernel)]
      refine iteF ?_
      refine ⟨.ref a, rfl, a, _, 0, _, rfl, rfl, SqT.mk ha, atI_nat (j := 0) rfl, rfl, _, rfl, ?_⟩
      rw [decide_eq_false (show ¬ (V.str "register" = V.str "turned") by decide +kernel)]
      refine iteF ?_
      refine ⟨rfl, fun H1 l1 s1 nl1 hl1 => ?_⟩
      refine ⟨.ref a, rfl, a, _, 1, _, rfl, rfl, SqT.mk (s1 _ _ ha), atI_nat (j := 1) rfl, _, rfl, l1, _, rfl, SqL.mk hl1, fun bl nbl => ⟨Nat.zero_le _, fun f nf => ⟨_, _, rfl, ?_⟩⟩⟩
      have S2 : Same H (upd (upd H1 bl (.lst (cutV (pows.map V.int) none (some (w' : Int))))) f (.lst [])) := (s1.trans (same_upd nbl)).trans (same_upd nf)
      have hbl : (upd (upd H1 bl (.lst (cutV (pows.map V.int) none (some (w' : Int))))) f (.lst [])) bl = some (.lst ((powP w').map V.int)) := (same_upd nf) _ _ (by rw [upd_same, cut_take, pow_take w2])
      have nf0 : H f = none := (s1.trans (same_upd nbl)).free nf
      have nbf : bl ≠ f := fun e => by
        rw [e, upd_same] at nf
        cases nf
      have hf2 : (upd (upd H1 bl (.lst (cutV (pows.map V.int) none (some (w' : Int))))) f (.lst [])) f = some (.lst []) := upd_same
      generalize upd (upd H1 bl (.lst (cutV (pows.map V.int) none (some (w' : Int))))) f (.lst []) = H2 at S2 hbl hf2 ⊢
      refine ⟨.ref a, rfl, a, _, 3, _, rfl, rfl, SqT.mk (S2 _ _ ha), atI_nat (j := 3) rfl, ?_⟩
      refine ⟨fun n σ G => ∃ k y6 y7, n = per w' p' s' - k ∧ k ≤ per w' p' s' ∧ σ = [some (.ref a), some (.ref f), none, none, some (.ref bl), some (.int (regA w' p' s' k : Nat)), y6, y7, none] ∧ Same H G ∧ G bl = some (.lst ((powP w').map V.int)) ∧ G f = some (.lst (((List.range k).map fun k => ((regA w' p' s' k : Nat) : Int)).map V.int)), ⟨per w' p' s', 0, none, none, by omega, by omega, rfl, S2, hbl, hf2⟩, ?_⟩
      rintro n σ G ⟨k, y6, y7, rfl, hk, rfl, sG, hbG, hfG⟩
      have xl : regA w' p' s' k < 2 ^ w' := regA_lt hw s2' k
      obtain ⟨x, hx⟩ : ∃ x, regA w' p' s' k = x := ⟨_, rfl⟩
      rw [hx] at xl
      have haG := sG _ _ ha
      refine ⟨.int (regA w' p' s' k : Nat), rfl, .ref f, rfl, f, _, rfl, .inl (SqL.mk hfG), rfl, flat_ints _, _, rfl, ?_⟩
      rw [if_pos rfl, in_ints]
      by_cases kp : k < per w' p' s'
      · have nin : ((regA w' p' s' k : Nat) : Int) ∉ (List.range k).map fun k => ((regA w' p' s' k : Nat) : Int) := fun z => by
          obtain ⟨j, hj, ej⟩ := List.mem_map.mp z
          have hj := List.mem_range.mp hj
          have ej : regA w' p' s' j = regA w' p' s' k := by omega
          refine ip.first (k - j) (by omega) (by omega) (regA_back hw s2' j (k - j) ?_)
          rw [show j + (k - j) = k by omega]
          exact ej.symm
        rw [decide_eq_false nin]
        refine iteT ⟨_, fun σ' H' h => h, ?_⟩
        refine ⟨.ref f, rfl, .inl ⟨rfl, _, SqL.mk hfG⟩, .int (regA w' p' s' k : Nat), rfl, f, _, _, rfl, rfl, hfG, by rw [List.length_map, List.length_map, List.length_range]; have := ip.le; omega, ?_⟩
        have g1 : Same H (upd G f (.lst (((List.range k).map fun k => ((regA w' p' s' k : Nat) : Int)).map V.int ++ [.int (regA w' p' s' k : Nat)]))) := same_newer sG nf0
        have hb1 : (upd G f (.lst (((List.range k).map fun k => ((regA w' p' s' k : Nat) : Int)).map V.int ++ [.int (regA w' p' s' k : Nat)]))) bl = some (.lst ((powP w').map V.int)) := by
          rw [upd_ne nbf]
          exact hbG
        have hf1 : (upd G f (.lst (((List.range k).map fun k => ((regA w' p' s' k : Nat) : Int)).map V.int ++ [.int (regA w' p' s' k : Nat)]))) f = some (.lst (((List.range (k + 1)).map fun k => ((regA w' p' s' k : Nat) : Int)).map V.int)) := by
          rw [upd_same, List.range_succ, List.map_append, List.map_append]
          rfl
        generalize upd G f (.lst (((List.range k).map fun k => ((regA w' p' s' k : Nat) : Int)).map V.int ++ [.int (regA w' p' s' k : Nat)])) = G1 at g1 hb1 hf1 ⊢
        rw [hx]
        -- the odd count
        refine ⟨.ref bl, rfl, bl, rfl, ⟨_, SqL.mk hb1⟩, fun D nD => ?_⟩
        refine lc_list (xs := (powP w').map V.int) (fun j F => Same G1 F ∧ F D = some (.lst (((List.range j).map fun j => (((x / 2 ^ j % 2 : Nat) : Int) * ((p' / 2 ^ j % 2 : Nat) : Int))).map V.int))) ⟨same_upd nD, upd_same⟩ (fun j F _ h => SqL.mk (h.1 _ _ hb1)) (fun j y F hy h => ?_) (fun F h => ?_)
        · obtain ⟨sF, hD⟩ := h
          obtain ⟨hj, rfl⟩ := powP_at hy
          have jp : 1 ≤ 2 ^ j ∧ 2 ^ j ≤ 64 := two_pow6 (by omega)
          obtain ⟨q2, hq2⟩ : ∃ q2, 2 ^ j = q2 := ⟨_, rfl⟩
          rw [hq2] at jp
          have b1 : x / q2 % 2 ≤ 64 := by omega
          rw [show ((2 ^ j : Nat) : Int) = (q2 : Int) by rw [hq2]]
          refine ⟨rfl, yes_ite ?_⟩
          refine ⟨.int (x : Nat), rfl, _, rfl, _, _, rfl, rfl, ⟨is_pos jp.1, (show (q2 : Int) < 1073741824 by omega)⟩, _, _, rfl, rfl, (show (0 : Int) < 2 by decide), .ref a, rfl, a, _, 2, _, rfl, rfl, SqT.mk (sF _ _ (g1 _ _ ha)), atI_nat (j := 2) rfl, _, rfl, _, _, rfl, rfl, ⟨is_pos jp.1, (show (q2 : Int) < 1073741824 by omega)⟩, _, _, rfl, rfl, (show (0 : Int) < 2 by decide), _, _, rfl, rfl, .inl ⟨by omega, by omega⟩, ?_⟩
          refine ⟨_, hD, by rw [List.length_map, List.length_map, List.length_range]; omega, same_newer sF nD, ?_⟩
          dsimp only
          rw [upd_same, List.range_succ, List.map_append, List.map_append, ← Int.natCast_ediv, ← Int.natCast_ediv, ← hq2]
          rfl
        obtain ⟨sF, hD⟩ := h
        rw [List.length_map, powP_len] at hD
        refine ⟨D, _, rfl, SqL.mk hD, _, _, rfl, rfl, (show (0 : Int) < 2 by decide), ?_⟩
        have eo : ((List.range w').map fun j => (((x / 2 ^ j % 2 : Nat) : Int) * ((p' / 2 ^ j % 2 : Nat) : Int))).sum % 2 = ((par (x &&& p') : Nat) : Int) := odd_eq hw xl
        try dsimp only
        rw [eo]
        refine ⟨.int (x : Nat), rfl, _, _, rfl, rfl, .inl ⟨by decide, by decide⟩, rfl, fun F1 l3 g3 nl3 hl3 => ?_⟩
        refine ⟨.ref a, rfl, a, _, 1, _, rfl, rfl, SqT.mk (g3 _ _ (sF _ _ (g1 _ _ ha))), atI_nat (j := 1) rfl, l3, _, _, _, rfl, rfl, SqL.mk hl3, at_pow w2, _, _, rfl, rfl, is_pos tp.1, _, rfl, _, _, rfl, rfl, ?_⟩
        try dsimp only
        rw [step_eq]
        exact ⟨per w' p' s' - (k + 1), by omega, k + 1, _, _, rfl, by omega, by
          have : regA w' p' s' (k + 1) = regS w' p' x := by rw [← hx]; rfl
          rw [this]
          rfl, g1.trans (sF.trans g3), g3 _ _ (sF _ _ hb1), g3 _ _ (sF _ _ hf1)⟩
      · have ke : k = per w' p' s' := by omega
        have inn : ((regA w' p' s' k : Nat) : Int) ∈ (List.range k).map fun k => ((regA w' p' s' k : Nat) : Int) := by
          refine List.mem_map.mpr ⟨0, List.mem_range.mpr (by have := ip.pos; omega), ?_⟩
          show ((regA w' p' s' 0 : Nat) : Int) = _
          rw [ke, ip.back]
          rfl
        rw [decide_eq_true inn]
        refine iteF ?_
        refine ⟨.ref f, rfl, q G f sG nf0 ?_⟩
        rw [hfG, ke]
        rfl
    | _ => exact bs.elim
/-! the law's own numbers -/
def sp__law_inner (_ : PySem.W.Frag) : Sp := fun vs H Q _ => ∃ m v, vs = [v] ∧ MkAt H m v ∧ ∀ H' u, Same H H' → MkAt H' m.inn u → Q u H'
def spr__law_round (d : Nat) (_ : PySem.W.Frag) : Sp := fun vs H Q _ => ∃ m v, vs = [v] ∧ MkAt H m v ∧ m.Ok ∧ m.inn.Bs ∧ m.dep < d ∧ ∀ H', Same H H' → Q (.int (m.rnd : Nat)) H'
theorem no__law_round {K : PySem.W.Frag} {vs : List V} {H : Hp} {Q : VK} {E : XK} (h : spr__law_round 0 K vs H Q E) : False := by
  obtain ⟨m, v, _, _, _, _, z, _⟩ := h
  exact Nat.not_lt_zero _ z
theorem rnd_plain {m : Mk} (h : m.dep = 0) : m.rnd = m.pl.length := by
  cases m with
  | slow n m => cases h
  | slip n m => cases h
  | late n m => cases h
  | _ => rfl
theorem ok_plain {m : Mk} (h : m.dep = 0) (ok : m.Ok) : m.Pl := by
  have := ok.inn
  rw [Mk.inn_self h] at this
  exact this
theorem ne_late_slow : ¬ (V.str "slow" = V.str "late") := by decide +kernel
theorem ne_late_slip : ¬ (V.str "slip" = V.str "late") := by decide +kernel
theorem ne_slip_slow : ¬ (V.str "slow" = V.str "slip") := by decide +kernel
theorem okr__law_round (T : Defs K mg) (TT : Tabs T base) : ∀ d : Nat, FnOk P w K mg base CX0 (4 + d) T.f__law_round T.fd__law_round ["_law_maker_here"] (spr__law_round d K)
  | 0 => ⟨fun _ _ _ _ z => (no__law_round z).elim, fun _ _ _ _ _ _ _ _ _ _ _ _ _ z => (no__law_round z).elim⟩
  | d + 1 => by
    have G__law_round : FnOk P w K mg base CX0 (4 + d) T.f__law_round T.fd__law_round ["_law_maker_here"] (spr__law_round d K) := okr__law_round T TT d
    have G__law_base : FnOk P w K mg base CX0 2 T.f__law_base T.fd__law_base ["_law_maker_here"] (sp__law_base K) := ok__law_base T TT
    have G__law_divisor : FnOk P w K mg base CX0 1 T.f__law_divisor T.fd__law_divisor ["_law_one", "_law_other"] (sp__law_divisor K) := ok__law_divisor T TT
    show FnOk P w K mg base CX0 ((4 + d) + 1) T.f__law_round T.fd__law_round ["_law_maker_here"] (spr__law_round (d + 1) K)
    refine T.F__law_round.ok sc__law_round (fun vs H Q E h => ?_) (fun cdv A outer s H vs Q E hr h => ?_)
    · obtain ⟨m, v, rfl, hm, ok, bs, dp, q⟩ := h
      rfl
    · obtain ⟨m, v, rfl, hm, ok, bs, dp, q⟩ := h
      refine ⟨_, PSs.nox (pss_cons (ps_if (pt_cmpR op_notIn_seq (pe_ix ix_tup (pv 0) pe_int (fun _ _ => rfl)) (pe_tup (pa_cons pe_str (pa_cons pe_str (pa_cons pe_str pa_nil)))) rfl) (pss_one (ps_ret (pe_callB call_len_seq (by rfl) T.m_len bt_len (pa_cons (pe_call G__law_base (hr.mono (by omega)) (by rfl) T.g__law_base T.F__law_base.kp T.b__law_base .nil pass0 (pa_cons (pv 0) pa_nil)) pa_nil)))) pss_nil)
    (pss_cons (ps_set (i := 1) sc__law_round.nd rfl (.inl rfl) (pe_call G__law_round (hr.mono (by omega)) (by rfl) T.g__law_round T.F__law_round.kp T.b__law_round .nil pass0 (pa_cons (pe_ix ix_tup (pv 0) pe_int (fun _ _ => rfl)) pa_nil)))
    (pss_cons (ps_if (pt_cmpR op_eq (pe_ix ix_tup (pv 0) pe_int (fun _ _ => rfl)) pe_str (nomark _)) (pss_one (ps_ret (pv 1))) pss_nil)
    (pss_one (ps_ret (pe_op op_fdiv (pe_op op_mul (pe_ix ix_tup (pv 0) pe_int (fun _ _ => rfl)) (pv 1)) (pe_ifExp (pt_cmpR op_eq (pe_ix ix_tup (pv 0) pe_int (fun _ _ => rfl)) pe_str (nomark _)) (pe_call G__law_divisor (hr.mono (by omega)) (by rfl) T.g__law_divisor T.F__law_divisor.kp T.b__law_divisor .nil pass0 (pa_cons (pv 1) (pa_cons (pe_op op_add (pe_ix ix_tup (pv 0) pe_int (fun _ _ => rfl)) pe_int) pa_nil))) pe_int))))))), ?_⟩
      rcases hm.shape with ⟨z, n, m2, a, x, rfl, ha, hx, ar, iw⟩ | ⟨d0, a, z, xs, rfl, ha, iw⟩
      · refine ⟨.ref a, rfl, a, _, 0, _, rfl, rfl, SqT.mk ha, atI_nat (j := 0) rfl, (show 3 ≤ sizeLine by decide), fun t nt => ⟨t, _, rfl, .inr (SqT.mk upd_same), rfl, rfl, _, rfl, ?_⟩⟩
        have s2 := same_upd nt (o := .tup [.str "slow", .str "slip", .str "late"])
        have ha2 := s2 _ _ ha
        have hx2 := hx.same s2
        rw [if_pos rfl, show inV (.str z) [.str "slow", .str "slip", .str "late"] = true from iw]
        generalize upd H t (.tup [.str "slow", .str "slip", .str "late"]) = H2 at s2 ha2 hx2 ⊢
        refine iteF ?_
        have dd := ar.dep
        have okd : m2.Ok ∧ n ≤ 64 := by
          rcases ar.word with ⟨rfl, rfl⟩ | ⟨rfl, rfl⟩ | ⟨rfl, rfl⟩
          · exact ⟨ok.2.2, ok.2.1⟩
          · exact ⟨ok.2.2, ok.2.1⟩
          · exact ⟨ok.2, ok.1⟩
        refine ⟨.ref a, rfl, a, _, 2, _, rfl, rfl, SqT.mk ha2, atI_nat (j := 2) rfl, m2, x, rfl, hx2, okd.1, by rw [← dd.2]; exact bs, by omega, fun H3 s3 => ?_⟩
        have ha3 := s3 _ _ ha2
        have s23 := s2.trans s3
        refine ⟨.ref a, rfl, a, _, 0, _, rfl, rfl, SqT.mk ha3, atI_nat (j := 0) rfl, rfl, _, rfl, ?_⟩
        have bn : -(2 ^ 64) < (n : Int) ∧ (n : Int) < 2 ^ 64 := ⟨by omega, by omega⟩
        rcases ar.word with ⟨rfl, rfl⟩ | ⟨rfl, rfl⟩ | ⟨rfl, rfl⟩
        · rw [decide_eq_false ne_late_slow]
          refine iteF ?_
          refine ⟨.ref a, rfl, a, _, 1, _, rfl, rfl, SqT.mk ha3, atI_nat (j := 1) rfl, .int (m2.rnd : Nat), rfl, _, _, rfl, rfl, .inl bn, .ref a, rfl, a, _, 0, _, rfl, rfl, SqT.mk ha3, atI_nat (j := 0) rfl, rfl, _, rfl, ?_⟩
          rw [decide_eq_false ne_slip_slow]
          refine iteF ?_
          refine ⟨_, _, rfl, rfl, ⟨by decide, by decide⟩, ?_⟩
          have e : (n : Int) * (m2.rnd : Int) / 1 = (((Mk.slow n m2).rnd : Nat) : Int) := by
            rw [Int.ediv_one, ← Int.natCast_mul]
            rfl
          try dsimp only
          rw [e]
          exact q H3 s23
        · rw [decide_eq_false ne_late_slip]
          refine iteF ?_
          refine ⟨.ref a, rfl, a, _, 1, _, rfl, rfl, SqT.mk ha3, atI_nat (j := 1) rfl, .int (m2.rnd : Nat), rfl, _, _, rfl, rfl, .inl bn, .ref a, rfl, a, _, 0, _, rfl, rfl, SqT.mk ha3, atI_nat (j := 0) rfl, rfl, _, rfl, ?_⟩
          rw [decide_eq_true rfl]
          refine iteT ?_
          refine ⟨.int (m2.rnd : Nat), rfl, .ref a, rfl, a, _, 1, _, rfl, rfl, SqT.mk ha3, atI_nat (j := 1) rfl, _, _, rfl, rfl, _, _, rfl, ?_⟩
          have g := gcd_le (a := m2.rnd) (n := n)
          have eg : (Int.gcd (m2.rnd : Int) ((n : Int) + 1) : Int) = ((Nat.gcd m2.rnd (n + 1) : Nat) : Int) := rfl
          rw [eg]
          refine ⟨_, _, rfl, rfl, ⟨(show (0 : Int) < ((Nat.gcd m2.rnd (n + 1) : Nat) : Int) by omega), (show ((Nat.gcd m2.rnd (n + 1) : Nat) : Int) < 1073741824 by omega)⟩, ?_⟩
          have e : (n : Int) * (m2.rnd : Int) / ((Nat.gcd m2.rnd (n + 1) : Nat) : Int) = (((Mk.slip n m2).rnd : Nat) : Int) := by
            rw [← Int.natCast_mul, ← Int.natCast_ediv]
            rfl
          try dsimp only
          rw [e]
          exact q H3 s23
        · rw [decide_eq_true rfl]
          refine iteT ?_
          exact ⟨.int (m2.rnd : Nat), rfl, q H3 s23⟩
      · refine ⟨.ref a, rfl, a, _, 0, _, rfl, rfl, SqT.mk ha, atI_nat (j := 0) rfl, (show 3 ≤ sizeLine by decide), fun t nt => ⟨t, _, rfl, .inr (SqT.mk upd_same), rfl, rfl, _, rfl, ?_⟩⟩
        have s2 := same_upd nt (o := .tup [.str "slow", .str "slip", .str "late"])
        rw [if_pos rfl, show inV (.str z) [.str "slow", .str "slip", .str "late"] = false from iw]
        refine iteT ?_
        refine ⟨.ref a, rfl, m, _, rfl, hm.same s2, ok_plain d0 ok, by rw [← Mk.inn_self d0]; exact bs, fun H3 p s3 np hp => ⟨p, _, rfl, .inl (SqL.mk hp), ?_⟩⟩
        rw [List.length_map, ← rnd_plain d0]
        exact q H3 (s2.trans s3)
def sp__law_round (K : PySem.W.Frag) : Sp := spr__law_round 5 K
theorem ok__law_round (T : Defs K mg) (TT : Tabs T base) : FnOk P w K mg base CX0 9 T.f__law_round T.fd__law_round ["_law_maker_here"] (sp__law_round K) := okr__law_round T TT 5
def spr__law_beat (d : Nat) (_ : PySem.W.Frag) : Sp := fun vs H Q _ => ∃ m v b t, vs = [v, .ref b, .int t] ∧ MkAt H m v ∧ m.Ok ∧ m.dep < d ∧ ∃ k : Mk, k.Pl ∧ H b = some (.lst (k.pl.map V.int)) ∧ Q (.int (k.pl.getD ((m.bt t) % (k.pl.length : Int)).toNat 0)) H
theorem no__law_beat {K : PySem.W.Frag} {vs : List V} {H : Hp} {Q : VK} {E : XK} (h : spr__law_beat 0 K vs H Q E) : False := by
  obtain ⟨m, v, b, t, _, _, _, z, _⟩ := h
  exact Nat.not_lt_zero _ z
theorem str_ne {z y : Str} (h : inW z = false) (k : inW y = true) : decide (V.str z = V.str y) = false := decide_eq_false fun e => by
  rw [V.str.inj e, k] at h
  cases h
/-! heaps with tables -/
theorem trip0 : TriplesOk (#[] : Array Value).toList := trivial
structure Sam (H H' : Hp) : Prop where
  obj : ∀ b o, (∀ ps, o ≠ .tbl ps) → H b = some o → H' b = some o
  tab : ∀ b ps, H b = some (.tbl ps) → ∃ ps', H' b = some (.tbl ps') ∧ (TriplesOk ps.toList → TriplesOk ps'.toList)
theorem Sam.of {H H' : Hp} (s : Same H H') : Sam H H' := ⟨fun b o _ e => s b o e, fun b ps e => ⟨ps, s b _ e, fun z => z⟩⟩
theorem Sam.refl (H : Hp) : Sam H H := .of (Same.refl H)
theorem Sam.trans {H H1 H2 : Hp} (a : Sam H H1) (b : Sam H1 H2) : Sam H H2 := ⟨fun c o n e => b.obj c o n (a.obj c o n e), fun c ps e => by
  obtain ⟨p1, e1, t1⟩ := a.tab c ps e
  obtain ⟨p2, e2, t2⟩ := b.tab c p1 e1
  exact ⟨p2, e2, fun z => t2 (t1 z)⟩⟩
theorem Sam.tabG {H H' : Hp} {P : Addr} (a : Sam H H') (t : GxR.TabG H P) : GxR.TabG H' P := by
  obtain ⟨ps, e, z⟩ := t
  obtain ⟨p1, e1, t1⟩ := a.tab P ps e
  exact ⟨p1, e1, t1 z⟩
theorem Sam.tup {H H' : Hp} {a : Addr} {xs : List V} (s : Sam H H') (h : H a = some (.tup xs)) : H' a = some (.tup xs) := s.obj _ _ (fun _ z => by cases z) h
theorem Sam.lst {H H' : Hp} {a : Addr} {xs : List V} (s : Sam H H') (h : H a = some (.lst xs)) : H' a = some (.lst xs) := s.obj _ _ (fun _ z => by cases z) h
theorem Sam.free {H H' : Hp} (s : Sam H H') {l : Addr} (h : H' l = none) : H l = none := by
  cases q : H l with
  | none => rfl
  | some o =>
    cases o with
    | tbl ps =>
      obtain ⟨p1, e1, _⟩ := s.tab l ps q
      rw [e1] at h
      cases h
    | _ =>
      rw [s.obj l _ (fun _ z => by cases z) q] at h
      cases h
theorem Sam.tabbed {P : Addr} {H H' : Hp} (g : GxR.TabG H P) (t : GxR.Tabbed P H H') : Sam H H' := by
  obtain ⟨⟨p1, e1, z1⟩, k⟩ := t
  obtain ⟨p0, e0, _⟩ := g
  refine ⟨fun b o n e => ?_, fun b ps e => ?_⟩
  · by_cases hb : b = P
    · rw [hb, e0] at e
      exact absurd (Option.some.inj e).symm (n p0)
    · rw [k b hb]
      exact e
  · by_cases hb : b = P
    · rw [hb]
      exact ⟨p1, e1, fun _ => z1⟩
    · exact ⟨ps, by rw [k b hb]; exact e, fun z => z⟩
theorem sam_newer {H H' : Hp} {q : Addr} {o : HO} (a : Sam H H') (n : H q = none) : Sam H (upd H' q o) := ⟨fun c x hx e => by
    rw [upd_ne (ne_of_none e n)]
    exact a.obj c x hx e, fun c ps e => by
    obtain ⟨p1, e1, t1⟩ := a.tab c ps e
    exact ⟨p1, by rw [upd_ne (ne_of_none e n)]; exact e1, t1⟩⟩
/-- all but the box stays, tables grow -/
structure Bus (p : Addr) (H H' : Hp) : Prop where
  obj : ∀ b o, b ≠ p → (∀ ps, o ≠ .tbl ps) → H b = some o → H' b = some o
  tab : ∀ b ps, b ≠ p → H b = some (.tbl ps) → ∃ ps', H' b = some (.tbl ps') ∧ (TriplesOk ps.toList → TriplesOk ps'.toList)
theorem Bus.of {p : Addr} {H H' : Hp} (s : But p H H') : Bus p H H' := ⟨fun b o n _ e => s b o n e, fun b ps n e => ⟨ps, s b _ n e, fun z => z⟩⟩
theorem Bus.sam {p : Addr} {H H' : Hp} (s : Sam H H') : Bus p H H' := ⟨fun b o _ n e => s.obj b o n e, fun b ps _ e => s.tab b ps e⟩
theorem Bus.refl (p : Addr) (H : Hp) : Bus p H H := .of (But.refl p H)
theorem Bus.trans {p : Addr} {H H1 H2 : Hp} (a : Bus p H H1) (b : Bus p H1 H2) : Bus p H H2 := ⟨fun c o h n e => b.obj c o h n (a.obj c o h n e), fun c ps h e => by
  obtain ⟨p1, e1, t1⟩ := a.tab c ps h e
  obtain ⟨p2, e2, t2⟩ := b.tab c p1 h e1
  exact ⟨p2, e2, fun z => t2 (t1 z)⟩⟩
theorem Bus.tup {p : Addr} {H H' : Hp} {n : Nat} {a : Addr} {xs : List V} (s : Bus p H H') (B : Bx H p n) (h : H a = some (.tup xs)) : H' a = some (.tup xs) := s.obj _ _ (B.ne_tup h) (fun _ z => by cases z) h
theorem Bus.lst {p : Addr} {H H' : Hp} {a : Addr} {xs : List V} (s : Bus p H H') (ne : a ≠ p) (h : H a = some (.lst xs)) : H' a = some (.lst xs) := s.obj _ _ ne (fun _ z => by cases z) h
theorem Bus.tabG {p : Addr} {H H' : Hp} {n : Nat} {P : Addr} (s : Bus p H H') (B : Bx H p n) (t : GxR.TabG H P) : GxR.TabG H' P := by
  obtain ⟨ps, e, z⟩ := t
  obtain ⟨a, b, c, hp, _⟩ := B
  obtain ⟨p1, e1, t1⟩ := s.tab P ps (ne_of e hp (fun z => by cases z)) e
  exact ⟨p1, e1, t1 z⟩
theorem Bus.new {p q : Addr} {H H' : Hp} {o : HO} (a : Bus p H H') (n : H' q = none) : Bus p H (upd H' q o) := a.trans (.of ((But.refl p H').new n))
/-- a thing made since H may change -/
theorem bus_newer {p q : Addr} {H H' : Hp} {o : HO} (a : Bus p H H') (n : H q = none) : Bus p H (upd H' q o) := ⟨fun c x h hx e => by
    rw [upd_ne (ne_of_none e n)]
    exact a.obj c x h hx e, fun c ps h e => by
    obtain ⟨p1, e1, t1⟩ := a.tab c ps h e
    exact ⟨p1, by rw [upd_ne (ne_of_none e n)]; exact e1, t1⟩⟩
theorem Bus.free {p : Addr} {H H' : Hp} {n : Nat} (s : Bus p H H') (B : Bx H p n) (B' : ∃ m, Bx H' p m) {l : Addr} (h : H' l = none) : H l = none := by
  cases q : H l with
  | none => rfl
  | some o =>
    have nl : l ≠ p := fun z => by
      obtain ⟨m, _, _, _, hp, _⟩ := B'
      rw [z, hp] at h
      cases h
    cases o with
    | tbl ps =>
      obtain ⟨p1, e1, _⟩ := s.tab l ps nl q
      rw [e1] at h
      cases h
    | _ =>
      rw [s.obj l _ nl (fun _ z => by cases z) q] at h
      cases h
theorem Bx.sam {H H' : Hp} {p : Addr} {n : Nat} (h : Bx H p n) (s : Sam H H') : Bx H' p n := by
  obtain ⟨a, b, c, hp, r⟩ := h
  exact ⟨a, b, c, s.lst hp, r⟩
theorem bus_same {p : Addr} {H H1 H2 : Hp} (n : H p = none) (a : Sam H H1) (b : Bus p H1 H2) : Sam H H2 := ⟨fun c x h e => b.obj c x (ne_of_none e n) h (a.obj c x h e), fun c ps e => by
  obtain ⟨p1, e1, t1⟩ := a.tab c ps e
  obtain ⟨p2, e2, t2⟩ := b.tab c p1 (ne_of_none e n) e1
  exact ⟨p2, e2, fun z => t2 (t1 z)⟩⟩
theorem ne_new {H : Hp} {p q : Addr} {n : Nat} (B : Bx H p n) (nq : H q = none) : q ≠ p := fun e => by
  obtain ⟨_, _, _, hp, _⟩ := B
  rw [e, hp] at nq
  cases nq
theorem nat_of {x : Int} (h : 0 ≤ x) : ∃ m : Nat, x = (m : Nat) := Int.eq_ofNat_of_zero_le h
theorem listK {X : Cx} {K : PySem.W.Frag} {tg e : Expr} {t : TE} (h : X.K = K) (he : PE X e t) : PI X tg e (iList K t) := by
  subst h
  exact pi_list he
theorem nx_via {t u : TS} {D : Ends} {r : VK} {k c : L2.St → Hp → Prop} {σ : L2.St} {H : Hp} (R : L2.St → Hp → Prop) (h1 : ∀ N : L2.St → Hp → Prop, (∀ σ H, R σ H → N σ H) → t { D with nx := N } σ H) (h2 : ∀ σ H, R σ H → u D σ H) : Ends.nx { nx := tSeq t u D, rt := r, bk := k, ct := c } σ H := h1 _ h2
theorem seq_via {t u : TS} {D : Ends} {σ : L2.St} {H : Hp} (R : L2.St → Hp → Prop) (h1 : ∀ N : L2.St → Hp → Prop, (∀ σ H, R σ H → N σ H) → t { D with nx := N } σ H) (h2 : ∀ σ H, R σ H → u D σ H) : tSeq t u D σ H := h1 _ h2
theorem u1 {k : Nat} {A : Around} (r : Room k A) : A.units + 1 < cLine := by
  have := r.un
  omega
theorem lcK {X : Cx} {K : PySem.W.Frag} (h : X.K = K) : MtR X "list.count" (rCntI K) := by
  subst h
  exact mt_lcount
theorem pe_bmK {X : Cx} {K : PySem.W.Frag} {T id : String} {name : Str} {r : V → List V → Hp → VK → Prop} {o e : Expr} {es : List Expr} {to : TE} {t : TA} {apos cpos : Pos} (pa : PlainAttrs T) (slot : Slot T name id) (hty : typeOf (.builtin id) = pure (.type "method_descriptor")) (hm : MtR X id r) (ho : PE X o to) (ha : PA X (e :: es) t) (hk : X.K = K := by rfl)
    (hbase : attributeBase o name X.env (eval o X.env) = eval o X.env := by rfl)
    (hfew : ((backTo cpos (starEach (e :: es) X.env)).all (fun x => !x.1) && (backToKw cpos (keywordEach [] X.env)).all (fun x => x.1.isSome) && decide ((e :: es).length + ([] : List Keyword).length + (if ([] : List Keyword).isEmpty then 0 else 1) < 30)) = true := by rfl)
    (hline : (apos.endLine == cpos.line) = true := by rfl) (hs : starEach (e :: es) X.env = (false, eval e X.env) :: starEach es X.env := by rfl) (hplain : (backTo cpos (starEach es X.env)).any (·.1) = false := by rfl) :
    PE X (.Call (.Attribute o name apos) (e :: es) [] cpos) (tBM K T r to t) := by
  subst hk
  exact pe_bm pa slot hty hm ho ha hbase hfew hline hs hplain
/-! a tuple so many times -/
theorem tuple_once (l : Addr) (items : Array Value) (n : Nat) (dd : Option Addr) (sl : Array (Option Value)) (u : Tok) :
    Meets (Builtin.«tuple.__mul__» ⟨[.ref l, .int 1 u], []⟩) (fun _ R s => s.heap.get? l = some { cls := .type "tuple", dict := dd, data := .seq items n, slots := sl } ∧ R (.ok (.ret (Value.ref l))) { s with toks := s.toks }) :=
  .of_wp fun prog w A R s h => by
    obtain ⟨hp, g, d, tk, os⟩ := s
    obtain ⟨hl, h⟩ := h
    have f1 := AutoSeq1.idx_int
    have c1 : (items.isEmpty || (1 : Int) == 1) = true := by simp
    wp_walk using wpAny_loadPart' hl
    repeat (first
      | (refine wpAny_ite_true (decide_eq_true c1) ?_; wp_walk using wpAny_loadPart' hl)
      | (refine wpAny_ite_false (decide_eq_false (by decide)) ?_; wp_walk using wpAny_loadPart' hl))
    exact ⟨_, rfl, h⟩
def rRepA (K : PySem.W.Frag) : R2 := fun x y H Q => ∃ (l : Addr) (k : Nat) (xs : List V), x = .ref l ∧ y = .int (k : Nat) ∧ SqT K H l xs ∧ xs ≠ [] ∧ 1 ≤ k ∧ xs.length * k ≤ 1000000 ∧ (k = 1 → Q (.ref l) H) ∧
  (2 ≤ k → ∀ p, H p = none → Q (.ref p) (upd H p (.tup (List.replicate k xs).flatten)))
theorem op_repA {X : Cx} : OpR X (binaryOp .Mult) (rRepA X.K) := by
  intro pins s σ H x y v u Q I rx ry h
  obtain ⟨l, k, xs, rfl, rfl, hT, hne, h1, hz, q1, q2⟩ := h
  cases rx
  obtain ⟨t, rfl⟩ := ry
  obtain ⟨its, r, ⟨⟨cls, dd, data, sl⟩, ho, hc, n, hd⟩, hs⟩ := I.tuple hT
  simp only at hc hd
  subst hc hd
  have lx : 0 < xs.length := List.length_pos_iff.mpr hne
  have le : its.length = xs.length := r.length.symm
  have ke : k * xs.length ≤ 1000000 := by
    rw [Nat.mul_comm]
    exact hz
  have kl : k ≤ 1000000 := Nat.le_trans (Nat.le_mul_of_pos_right k lx) ke
  have ne : its.toArray.isEmpty = false := by
    cases its with
    | nil =>
      rw [← le] at lx
      cases lx
    | cons a b => rfl
  by_cases k1 : k = 1
  · subst k1
    refine wpAny_binaryOp_repeat_ref (T := "tuple") (U := "int") (by decide) ⟨_, ho, rfl⟩ (fun s' => typeIs_int s' _ t) noFill_tuple_mul F.fills_int_mul F.slot_int_rmul repeat_tuple F.slot_int_index.lookup
      (call_meets F.slot_int_rmul (typeIs_int s _ t) F.entry_int_rmul (F.args_int_rmul_2 _ _) (int_rmul_tuple _ t l its.toArray n dd sl)
        ⟨ho, rfl, ⟨_, ho, rfl⟩, call_meets F.slot_tuple_mul ⟨_, ho, rfl⟩ F.entry_tuple_mul (F.args_tuple_mul_2 _ _) (tuple_once l its.toArray n dd sl t) ⟨ho, ?_⟩⟩)
    exact ⟨.ref l, H, I, rfl, q1 rfl⟩
  · have k2 : 2 ≤ k := by omega
    have sz : its.toArray.size = xs.length := by rw [List.size_toArray, le]
    have pr : ((its.toArray.size : Nat) : Int) * (k : Int) ≤ 1000000 := by
      rw [sz, ← Int.natCast_mul]
      omega
    have fl : (List.replicate k its).flatten.length ≤ sizeLine := by
      rw [PyProof.Rows.lm_len_rep_flat, le, sizeLine_eq]
      omega
    have d0 : (decide ((k : Int) < -(2 ^ 63)) || decide ((k : Int) ≥ 2 ^ 63)) = false := by
      rw [decide_eq_false (show ¬ (k : Int) < -(2 ^ 63) by omega), decide_eq_false (show ¬ (k : Int) ≥ 2 ^ 63 by omega)] <;> rfl
    have d1 : (its.toArray.isEmpty || (k : Int) == 1) = false := by
      rw [ne, Bool.false_or]
      exact beq_eq_false_iff_ne.mpr (by omega)
    have d2 : (decide ((k : Int) ≤ 0) || its.toArray.isEmpty) = false := by
      rw [ne, Bool.or_false]
      exact decide_eq_false (by omega)
    have d4 : Builtin.Tuple.tupleTooMany (((its.toArray.size : Nat) : Int) * (k : Int)) = false := by
      unfold Builtin.Tuple.tupleTooMany
      rw [sizeLine_eq]
      exact decide_eq_false (by omega)
    refine wpAny_binaryOp_repeat_ref (T := "tuple") (U := "int") (by decide) ⟨_, ho, rfl⟩ (fun s' => typeIs_int s' _ t) noFill_tuple_mul F.fills_int_mul F.slot_int_rmul repeat_tuple F.slot_int_index.lookup
      (call_meets F.slot_int_rmul (typeIs_int s _ t) F.entry_int_rmul (F.args_int_rmul_2 _ _) (int_rmul_tuple _ t l its.toArray n dd sl)
        ⟨ho, rfl, ⟨_, ho, rfl⟩, call_meets F.slot_tuple_mul ⟨_, ho, rfl⟩ F.entry_tuple_mul (F.args_tuple_mul_2 _ _) (tuple_mulW l its.toArray n dd sl (k : Int) t d0 d1 d2 (by omega) d4 (by rw [Int.toNat_natCast, size_rep, List.size_toArray]; exact fl)) ⟨ho, ?_⟩⟩)
    rw [Int.toNat_natCast, size_rep]
    refine ⟨.ref s.heap.objs.size, _, I.laid (t' := s.toks) (o := .tup (List.replicate k xs).flatten) (fun b ob q => Heap.get?_push_of_some _ q) (Nat.le_refl _) ⟨?_, _, r.rep k, IsTup.new _ _⟩, rfl, q2 k2 _ (I.hok.fresh (Nat.le_refl _))⟩
    rw [PyProof.Rows.lm_len_rep_flat, sizeLine_eq]
    omega
/-! the law's own rows -/
def Bits (rs : List Int) : Prop := ∀ x, x ∈ rs → x = 0 ∨ x = 1
theorem Bits.snoc {rs : List Int} {x : Int} (h : Bits rs) (hx : x = 0 ∨ x = 1) : Bits (rs ++ [x]) := fun y hy => by
  rcases List.mem_append.mp hy with hy | hy
  · exact h y hy
  · rw [List.mem_singleton] at hy
    rw [hy]
    exact hx
theorem but_newer {p q : Addr} {H H' : Hp} {o : HO} (a : But p H H') (n : H q = none) : But p H (upd H' q o) := fun c x hn e => by
  rw [upd_ne (ne_of_none e n)]
  exact a c x hn e
theorem Bx.other {H : Hp} {p q : Addr} {n : Nat} {o : HO} (h : Bx H p n) (nq : q ≠ p) : Bx (L2.upd H q o) p n := by
  obtain ⟨a, b, c, hp, r⟩ := h
  exact ⟨a, b, c, by rw [upd_ne (Ne.symm nq)]; exact hp, r⟩
def PV (p D : Addr) (HX : Hp) (k i : Nat) (H1 : Hp) : Prop := ∃ rs : List Int, rs.length = i ∧ Bits rs ∧ But p HX H1 ∧ Bx H1 p (k + i) ∧ H1 D = some (.lst (rs.map V.int))
theorem pv_start {p D : Addr} {HX : Hp} {k : Nat} (nD : HX D = none) (B : Bx HX p k) : PV p D HX k 0 (upd HX D (.lst [])) := ⟨[], rfl, fun _ h => (by cases h), (But.refl p HX).new nD, B.new nD, upd_same⟩
theorem pv_step {p D : Addr} {HX H1 H4 : Hp} {k i : Nat} {x : Int} (nD : HX D = none) (Dp : D ≠ p) (h : PV p D HX k i H1) (b : But p H1 H4) (B : Bx H4 p (k + (i + 1))) (hi : i < 100000) (hx : x = 0 ∨ x = 1) :
    ∃ acc, H4 D = some (.lst acc) ∧ acc.length < sizeLine ∧ PV p D HX k (i + 1) (upd H4 D (.lst (acc ++ [.int x]))) := by
  obtain ⟨rs, hl, hb, b1, _, hD⟩ := h
  have hsl : sizeLine = 16777216 := by decide
  refine ⟨_, b _ _ Dp hD, by rw [List.length_map]; omega, rs ++ [x], by rw [List.length_append, hl]; rfl, hb.snoc hx, but_newer (b1.trans b) nD, B.other Dp, ?_⟩
  rw [upd_same, List.map_append]
  rfl
theorem rep_one (m : Nat) (x : Int) : (List.replicate m [V.int x]).flatten = (List.replicate m x).map V.int := by
  rw [List.map_replicate]
  induction m with
  | zero => rfl
  | succ m ih => rw [List.replicate_succ, List.flatten_cons, ih, List.replicate_succ]; rfl
/-! a tuple no times, too -/
theorem tuple_nought (l : Addr) (items : Array Value) (n : Nat) (dd : Option Addr) (sl : Array (Option Value)) (u : Tok) (hi : items.isEmpty = false) :
    Meets (Builtin.«tuple.__mul__» ⟨[.ref l, .int 0 u], []⟩) (fun _ R s => s.heap.get? l = some { cls := .type "tuple", dict := dd, data := .seq items n, slots := sl } ∧ R (.ok (.ret (Value.ref s.heap.objs.size))) { s with heap := s.heap.push { cls := Value.type "tuple", data := Data.seq #[] }, toks := s.toks }) :=
  .of_wp fun prog w A R s h => by
    obtain ⟨hp, g, d, tk, os⟩ := s
    obtain ⟨hl, h⟩ := h
    have f1 := AutoSeq1.idx_int
    have c1 : (items.isEmpty || (0 : Int) == 1) = false := by rw [hi]; rfl
    have c2 : (decide ((0 : Int) ≤ 0) || items.isEmpty) = true := by simp
    wp_walk using wpAny_loadPart' hl
    repeat (first
      | (refine wpAny_ite_false (decide_eq_false (by rw [c1]; exact Bool.false_ne_true)) ?_; wp_walk using wpAny_loadPart' hl)
      | (refine wpAny_ite_true (decide_eq_true c2) ?_; wp_walk using wpAny_loadPart' hl)
      | (refine wpAny_ite_false (decide_eq_false (by decide)) ?_; wp_walk using wpAny_loadPart' hl))
    exact ⟨_, rfl, h⟩
def rRepB (K : PySem.W.Frag) : R2 := fun x y H Q => ∃ (l : Addr) (k : Nat) (xs : List V), x = .ref l ∧ y = .int (k : Nat) ∧ SqT K H l xs ∧ xs ≠ [] ∧ xs.length * k ≤ 1000000 ∧ (k = 1 → Q (.ref l) H) ∧
  (k ≠ 1 → ∀ p, H p = none → Q (.ref p) (upd H p (.tup (List.replicate k xs).flatten)))
theorem op_repB {X : Cx} : OpR X (binaryOp .Mult) (rRepB X.K) := by
  intro pins s σ H x y v u Q I rx ry h
  obtain ⟨l, k, xs, rfl, rfl, hT, hne, hz, q1, q2⟩ := h
  by_cases k0 : k = 0
  · subst k0
    cases rx
    obtain ⟨t, rfl⟩ := ry
    obtain ⟨its, r, ⟨⟨cls, dd, data, sl⟩, ho, hc, n, hd⟩, hs⟩ := I.tuple hT
    simp only at hc hd
    subst hc hd
    have le : its.length = xs.length := r.length.symm
    have ne : its.toArray.isEmpty = false := by
      cases its with
      | nil => exact absurd (List.eq_nil_of_length_eq_zero le.symm) hne
      | cons a b => rfl
    refine wpAny_binaryOp_repeat_ref (T := "tuple") (U := "int") (by decide) ⟨_, ho, rfl⟩ (fun s' => typeIs_int s' _ t) noFill_tuple_mul F.fills_int_mul F.slot_int_rmul repeat_tuple F.slot_int_index.lookup
      (call_meets F.slot_int_rmul (typeIs_int s _ t) F.entry_int_rmul (F.args_int_rmul_2 _ _) (int_rmul_tuple _ t l its.toArray n dd sl)
        ⟨ho, rfl, ⟨_, ho, rfl⟩, call_meets F.slot_tuple_mul ⟨_, ho, rfl⟩ F.entry_tuple_mul (F.args_tuple_mul_2 _ _) (tuple_nought l its.toArray n dd sl t ne) ⟨ho, ?_⟩⟩)
    exact ⟨.ref s.heap.objs.size, _, I.laid (t' := s.toks) (o := .tup []) (fun b ob q => Heap.get?_push_of_some _ q) (Nat.le_refl _) ⟨Nat.zero_le _, [], .nil, IsTup.new _ _⟩, rfl, q2 (by decide) _ (I.hok.fresh (Nat.le_refl _))⟩
  · exact op_repA pins s σ H _ _ v u Q I rx ry ⟨l, k, xs, rfl, rfl, hT, hne, by omega, hz, q1, fun z => q2 (by omega)⟩
/-- (x,) so many times -/
theorem rep_go {K : PySem.W.Frag} {H : Hp} {t : Addr} {x v : Int} {k : Nat} {Q : VK} (hv : v = (k : Nat)) (ht : H t = some (.tup [.int x])) (hk : k ≤ 100000) (q : ∀ H' p, Same H H' → H' p = some (.tup ((List.replicate k x).map V.int)) → Q (.ref p) H') : rRepB K (.ref t) (.int v) H Q := by
  subst hv
  refine ⟨t, k, _, rfl, rfl, SqT.mk ht, by simp, (show 1 * k ≤ 1000000 by omega), fun z => ?_, fun z p np => ?_⟩
  · subst z
    exact q H t (Same.refl H) ht
  · exact q _ p (same_upd np) (by rw [upd_same, rep_one])
theorem cat_go {K : PySem.W.Frag} {H : Hp} {a b : Addr} {rs ss : List Int} {Q : VK} (ha : H a = some (.tup (rs.map V.int))) (hb : H b = some (.tup (ss.map V.int))) (hl : rs.length + ss.length ≤ 100000)
    (q : ∀ H' p, Same H H' → H' p = some (.tup ((rs ++ ss).map V.int)) → Q (.ref p) H') : rCatA K (.ref a) (.ref b) H Q := by
  have hsl : sizeLine = 16777216 := by decide
  refine ⟨a, b, _, _, rfl, rfl, SqT.mk ha, SqT.mk hb, by rw [List.length_map, List.length_map]; omega, fun z => ?_, fun _ z => ?_, fun _ _ p np => ?_⟩
  · rw [List.map_eq_nil_iff.mp z] at q
    exact q H b (Same.refl H) hb
  · rw [List.map_eq_nil_iff.mp z] at q
    exact q H a (Same.refl H) (by rw [List.append_nil]; exact ha)
  · exact q _ p (same_upd np) (by rw [upd_same, List.map_append])
theorem catK {X : Cx} {K : PySem.W.Frag} (h : X.K = K) : OpR X (binaryOp .Add) (rCatA K) := by
  subst h
  exact op_catA
theorem zipAK {X : Cx} {K : PySem.W.Frag} {e e2 : Expr} {ta : TA} {p pos tpos : Pos} {elts : List Expr} {kk : Nat} (h : X.K = K) (hg : Gl X "zip") (hm : X.mg "zip" = none) (ha : PA X [e, e2] ta)
    (hs : starEach [e, e2] X.env = (false, eval e X.env) :: starEach [e2] X.env := by rfl) (hpl : (backTo pos (starEach [e2] X.env)).any (·.1) = false := by rfl) :
    PI X (.Tuple elts kk tpos) (.Call (.Name "zip" p) [e, e2] [] pos) (RZ.iZipA K ta) := by
  subst h
  exact RZ.pi_zipA hg hm ha hs hpl
def dot (rs ss : List Int) : Int := (List.zipWith (fun x y => x * y) rs ss).sum
def allRows : Nat → List (List Int)
  | 0 => [[]]
  | k + 1 => (allRows k).map (· ++ [0]) ++ (allRows k).map (· ++ [1])
theorem all_sound : ∀ (k : Nat) (r : List Int), r ∈ allRows k → r.length = k ∧ Bits r
  | 0, r, h => by
    rw [show r = [] from List.mem_singleton.mp h]
    exact ⟨rfl, fun x hx => by cases hx⟩
  | k + 1, r, h => by
    have aux : ∀ (b : Int), (b = 0 ∨ b = 1) → r ∈ (allRows k).map (· ++ [b]) → r.length = k + 1 ∧ Bits r := fun b hb hm => by
      obtain ⟨q, hq, rfl⟩ := List.mem_map.mp hm
      obtain ⟨h1, h2⟩ := all_sound k q hq
      refine ⟨by rw [List.length_append, h1]; rfl, fun x hx => ?_⟩
      rcases List.mem_append.mp hx with hx | hx
      · exact h2 x hx
      · rw [List.mem_singleton.mp hx]
        exact hb
    rcases List.mem_append.mp h with h | h
    · exact aux 0 (.inl rfl) h
    · exact aux 1 (.inr rfl) h
theorem all_full : ∀ (k : Nat) (r : List Int), r.length = k → Bits r → r ∈ allRows k
  | 0, r, h, _ => by
    rw [List.eq_nil_of_length_eq_zero h]
    exact List.mem_singleton.mpr rfl
  | k + 1, r, h, hb => by
    have hne : r ≠ [] := fun z => by
      rw [z] at h
      cases h
    have e := List.dropLast_concat_getLast hne
    have m1 : r.dropLast ∈ allRows k := all_full k _ (by rw [List.length_dropLast, h]; rfl) fun x hx => hb x (List.dropLast_subset r hx)
    rcases hb _ (List.getLast_mem hne) with z | z
    · rw [z] at e
      exact List.mem_append.mpr (.inl (List.mem_map.mpr ⟨_, m1, e⟩))
    · rw [z] at e
      exact List.mem_append.mpr (.inr (List.mem_map.mpr ⟨_, m1, e⟩))
theorem all_len : ∀ k, (allRows k).length = 2 ^ k
  | 0 => rfl
  | k + 1 => by
    show ((allRows k).map (· ++ [0]) ++ (allRows k).map (· ++ [1])).length = _
    rw [List.length_append, List.length_map, List.length_map, all_len k, Nat.pow_succ]
    omega
theorem bits_sum : ∀ (r : List Int), Bits r → 0 ≤ r.sum ∧ r.sum ≤ r.length
  | [], _ => ⟨Int.le_refl 0, Int.le_refl 0⟩
  | x :: r, h => by
    have ih := bits_sum r fun y hy => h y (List.mem_cons_of_mem _ hy)
    have hx := h x List.mem_cons_self
    rw [List.sum_cons, List.length_cons]
    omega
theorem sum_rep (k : Nat) (x : Int) : (List.replicate k x).sum = k * x := by
  induction k with
  | zero => simp
  | succ k ih =>
    rw [List.replicate_succ, List.sum_cons, ih, Int.natCast_add, Int.add_mul]
    omega
theorem sum_split (r : List Int) (a : Nat) : r.sum = (r.take a).sum + (r.drop a).sum := by
  conv => lhs; rw [← List.take_append_drop a r, List.sum_append]
theorem dot_zero (k : Nat) : ∀ r : List Int, dot (List.replicate k 0) r = 0 := by
  unfold dot
  induction k with
  | zero => intro r; simp
  | succ k ih =>
    intro r
    cases r with
    | nil => simp
    | cons x r =>
      rw [List.replicate_succ, List.zipWith_cons_cons, List.sum_cons, ih]
      omega
theorem dot_one : ∀ (a k : Nat) (r : List Int), r.length = a + k → dot (List.replicate a 1 ++ List.replicate k 0) r = (r.take a).sum
  | 0, k, r, _ => by
    rw [List.replicate_zero, List.nil_append, dot_zero]
    rfl
  | a + 1, k, [], h => by
    simp at h
    omega
  | a + 1, k, x :: r, h => by
    have ih := dot_one a k r (by rw [List.length_cons] at h; omega)
    unfold dot at *
    rw [List.replicate_succ, List.cons_append, List.zipWith_cons_cons, List.sum_cons, ih, List.take_succ_cons, List.sum_cons]
    omega
def nearR (n b : Nat) : List Int := List.replicate b 1 ++ List.replicate (n - b) 0
def farR (n b : Nat) : List Int := List.replicate (n - b) 0 ++ List.replicate b 1
theorem near_bits (n b : Nat) : Bits (nearR n b) := fun x hx => by
  rcases List.mem_append.mp hx with h | h
  · exact .inr (List.eq_of_mem_replicate h)
  · exact .inl (List.eq_of_mem_replicate h)
theorem far_bits (n b : Nat) : Bits (farR n b) := fun x hx => by
  rcases List.mem_append.mp hx with h | h
  · exact .inl (List.eq_of_mem_replicate h)
  · exact .inr (List.eq_of_mem_replicate h)
theorem near_len {n b : Nat} (h : b ≤ n) : (nearR n b).length = n := by
  unfold nearR
  rw [List.length_append, List.length_replicate, List.length_replicate]
  omega
theorem far_len {n b : Nat} (h : b ≤ n) : (farR n b).length = n := by
  unfold farR
  rw [List.length_append, List.length_replicate, List.length_replicate]
  omega
theorem near_sum (n b : Nat) : (nearR n b).sum = b := by
  unfold nearR
  rw [List.sum_append, sum_rep, sum_rep]
  omega
theorem far_sum (n b : Nat) : (farR n b).sum = b := by
  unfold farR
  rw [List.sum_append, sum_rep, sum_rep]
  omega
theorem near_take (n a b : Nat) : ((nearR n b).take a).sum = (min a b : Nat) := by
  unfold nearR
  rw [List.take_append, List.sum_append, List.take_replicate, List.take_replicate, sum_rep, sum_rep]
  omega
theorem far_take {n a b : Nat} (hb : b ≤ n) (ha : a ≤ n) : ((farR n b).take a).sum = (a + b - n : Nat) := by
  unfold farR
  rw [List.take_append, List.sum_append, List.take_replicate, List.take_replicate, sum_rep, sum_rep, List.length_replicate]
  omega
/-- how far the first a bits of a row may go -/
theorem take_ends {n a b : Nat} {r : List Int} (hl : r.length = n) (hb : Bits r) (hs : r.sum = b) (ha : a ≤ n) : (a + b - n : Nat) ≤ (r.take a).sum ∧ (r.take a).sum ≤ (min a b : Nat) := by
  have e := sum_split r a
  have h1 := bits_sum (r.take a) fun x hx => hb x (List.mem_of_mem_take hx)
  have h2 := bits_sum (r.drop a) fun x hx => hb x (List.mem_of_mem_drop hx)
  rw [List.length_take] at h1
  rw [List.length_drop] at h2
  omega
/-! sums over the first places -/
def Sm (f : Nat → Int) : Nat → Int
  | 0 => 0
  | n + 1 => Sm f n + f n
theorem Sm_congr {f g : Nat → Int} : ∀ {n : Nat}, (∀ i, i < n → f i = g i) → Sm f n = Sm g n
  | 0, _ => rfl
  | n + 1, h => by
    show Sm f n + f n = Sm g n + g n
    rw [Sm_congr (n := n) fun i hi => h i (by omega), h n (by omega)]
theorem Sm_plus (f g : Nat → Int) : ∀ n, Sm (fun i => f i + g i) n = Sm f n + Sm g n
  | 0 => rfl
  | n + 1 => by
    show Sm _ n + (f n + g n) = (Sm f n + f n) + (Sm g n + g n)
    rw [Sm_plus f g n]
    omega
theorem Sm_mul (c : Int) (f : Nat → Int) : ∀ n, Sm (fun i => c * f i) n = c * Sm f n
  | 0 => by
    show (0 : Int) = c * 0
    rw [Int.mul_zero]
  | n + 1 => by
    show Sm _ n + c * f n = c * (Sm f n + f n)
    rw [Sm_mul c f n, Int.mul_add]
theorem Sm_const (c : Int) : ∀ n, Sm (fun _ => c) n = n * c
  | 0 => by
    show (0 : Int) = ((0 : Nat) : Int) * c
    omega
  | n + 1 => by
    show Sm _ n + c = ((n + 1 : Nat) : Int) * c
    rw [Sm_const c n, Int.natCast_add, Int.add_mul]
    omega
theorem Sm_comm (f : Nat → Nat → Int) (m : Nat) : ∀ n, Sm (fun j => Sm (fun i => f i j) m) n = Sm (fun i => Sm (f i) n) m
  | 0 => by
    show (0 : Int) = Sm (fun _ => (0 : Int)) m
    rw [Sm_const]
    omega
  | n + 1 => by
    show Sm _ n + Sm (fun i => f i n) m = Sm (fun i => Sm (f i) n + f i n) m
    rw [Sm_comm f m n, Sm_plus]
theorem Sm_split (f : Nat → Int) (m : Nat) : ∀ k, Sm f (m + k) = Sm f m + Sm (fun j => f (m + j)) k
  | 0 => by
    show Sm f m = Sm f m + 0
    omega
  | k + 1 => by
    show Sm f (m + k) + f (m + k) = Sm f m + (Sm _ k + f (m + k))
    rw [Sm_split f m k]
    omega
theorem Sm_head (f : Nat → Int) : ∀ n, Sm f (n + 1) = f 0 + Sm (fun j => f (j + 1)) n
  | 0 => by
    show (0 : Int) + f 0 = f 0 + 0
    omega
  | n + 1 => by
    show Sm f (n + 1) + f (n + 1) = f 0 + (Sm _ n + f (n + 1))
    rw [Sm_head f n]
    omega
theorem Sm_rev (f : Nat → Int) : ∀ m, Sm (fun k => f (m - 1 - k)) m = Sm f m
  | 0 => rfl
  | m + 1 => by
    rw [Sm_head]
    show f (m + 1 - 1 - 0) + _ = Sm f m + f m
    rw [show m + 1 - 1 - 0 = m by omega, ← Sm_rev f m]
    rw [Sm_congr (f := fun j => f (m + 1 - 1 - (j + 1))) (g := fun k => f (m - 1 - k)) fun i hi => by rw [show m + 1 - 1 - (i + 1) = m - 1 - i by omega]]
    omega
theorem Sm_turn (f : Nat → Int) {i n : Nat} (hi : i < n) : Sm (fun b => f ((i + n - b) % n)) n = Sm f n := by
  have e : n = (i + 1) + (n - i - 1) := by omega
  have h1 : Sm (fun b => f ((i + n - b) % n)) (i + 1) = Sm f (i + 1) := by
    rw [← Sm_rev f (i + 1)]
    refine Sm_congr fun b hb => ?_
    rw [show i + n - b = (i + 1 - 1 - b) + n by omega, Nat.add_mod_right, Nat.mod_eq_of_lt (by omega)]
  have h2 : Sm (fun j => f ((i + n - (i + 1 + j)) % n)) (n - i - 1) = Sm (fun j => f (i + 1 + j)) (n - i - 1) := by
    rw [← Sm_rev (fun j => f (i + 1 + j)) (n - i - 1)]
    refine Sm_congr fun b hb => ?_
    rw [Nat.mod_eq_of_lt (by omega), show i + n - (i + 1 + b) = i + 1 + (n - i - 1 - 1 - b) by omega]
  have s1 := Sm_split (fun b => f ((i + n - b) % n)) (i + 1) (n - i - 1)
  have s2 := Sm_split f (i + 1) (n - i - 1)
  rw [← e] at s1 s2
  rw [s1, s2, h1, h2]
theorem Sm_list : ∀ (xs : List Int), xs.sum = Sm (fun i => xs.getD i 0) xs.length
  | [] => rfl
  | x :: r => by
    rw [List.sum_cons, List.length_cons, Sm_head, Sm_list r]
    rfl
theorem Sm_map (v : Nat → Int) : ∀ n, ((List.range n).map v).sum = Sm v n
  | 0 => rfl
  | n + 1 => by
    rw [List.range_succ, List.map_append, List.sum_append, Sm_map v n]
    show _ + (v n + 0) = Sm v n + v n
    omega
theorem Sm_filter (p : Nat → Bool) (v : Nat → Int) : ∀ n, (((List.range n).filter p).map v).sum = Sm (fun i => if p i = true then v i else 0) n
  | 0 => rfl
  | n + 1 => by
    rw [List.range_succ, List.filter_append, List.map_append, List.sum_append, Sm_filter p v n]
    show _ + (([n].filter p).map v).sum = Sm _ n + (if p n = true then v n else 0)
    by_cases h : p n = true
    · rw [List.filter_cons_of_pos h, if_pos h]
      show _ + (v n + 0) = _
      omega
    · rw [List.filter_cons_of_neg h, if_neg h]
      rfl
theorem Sm_count (p : Nat → Bool) : ∀ n, (((List.range n).filter p).length : Int) = Sm (fun i => if p i = true then 1 else 0) n
  | 0 => rfl
  | n + 1 => by
    rw [List.range_succ, List.filter_append, List.length_append, Int.natCast_add, Sm_count p n]
    show _ + ((([n].filter p).length : Nat) : Int) = Sm _ n + (if p n = true then 1 else 0)
    by_cases h : p n = true
    · rw [List.filter_cons_of_pos h, if_pos h]
      rfl
    · rw [List.filter_cons_of_neg h, if_neg h]
      rfl
/-! rows that meet, one late -/
def mt (rs ss : List Int) (b : Nat) : Int := Sm (fun i => rs.getD i 0 * ss.getD ((i + rs.length - b) % rs.length) 0) rs.length
theorem dot_Sm : ∀ (rs ss : List Int), rs.length = ss.length → dot rs ss = Sm (fun i => rs.getD i 0 * ss.getD i 0) rs.length
  | [], [], _ => rfl
  | x :: r, y :: t, h => by
    have ih := dot_Sm r t (by simpa using h)
    unfold dot at *
    rw [List.zipWith_cons_cons, List.sum_cons, List.length_cons, Sm_head, ih]
    rfl
theorem dot_mt {rs ss : List Int} (h : rs.length = ss.length) : dot rs ss = mt rs ss 0 := by
  rw [dot_Sm rs ss h]
  unfold mt
  refine Sm_congr fun i hi => ?_
  rw [Nat.sub_zero, Nat.add_mod_right, Nat.mod_eq_of_lt hi]
/-- all together -/
theorem mt_all {rs ss : List Int} (h : rs.length = ss.length) : Sm (mt rs ss) rs.length = rs.sum * ss.sum := by
  unfold mt
  rw [Sm_comm]
  rw [Sm_congr (g := fun i => ss.sum * rs.getD i 0) fun i hi => by
    rw [Sm_mul (rs.getD i 0) (fun b => ss.getD ((i + rs.length - b) % rs.length) 0), Sm_turn (fun j => ss.getD j 0) hi, Sm_list ss, ← h, Int.mul_comm]]
  rw [Sm_mul, ← Sm_list, Int.mul_comm]
def LS (rs ss : List Int) : List Int := (List.range rs.length).map fun b => rs.length * mt rs ss b - rs.sum * ss.sum
theorem LS_len (rs ss : List Int) : (LS rs ss).length = rs.length := by
  unfold LS
  rw [List.length_map, List.length_range]
theorem LS_sum {rs ss : List Int} (h : rs.length = ss.length) : (LS rs ss).sum = 0 := by
  unfold LS
  rw [Sm_map]
  have e : Sm (fun b => (rs.length : Int) * mt rs ss b - rs.sum * ss.sum) rs.length = Sm (fun b => (rs.length : Int) * mt rs ss b + -(rs.sum * ss.sum)) rs.length := Sm_congr fun i _ => by omega
  rw [e, Sm_plus, Sm_mul, mt_all h, Sm_const, Int.mul_neg]
  omega
theorem LS_at {rs ss : List Int} {b : Nat} (hb : b < rs.length) : (LS rs ss)[b]? = some (rs.length * mt rs ss b - rs.sum * ss.sum) := by
  unfold LS
  rw [List.getElem?_map, List.getElem?_range hb]
  rfl
theorem bit_mul {x y : Int} (hx : x = 0 ∨ x = 1) : (if decide (x = 1) = true then y else 0) = x * y := by
  rcases hx with rfl | rfl
  · rw [if_neg (by decide), Int.zero_mul]
  · rw [if_pos (by decide), Int.one_mul]
theorem bits_at {rs : List Int} (h : Bits rs) (i : Nat) : rs.getD i 0 = 0 ∨ rs.getD i 0 = 1 := by
  rw [List.getD_eq_getElem?_getD]
  cases e : rs[i]? with
  | none => exact .inl rfl
  | some x => exact h x (List.mem_of_getElem? e)
def places (rs : List Int) (n : Nat) : List Nat := (List.range n).filter fun i => decide (rs.getD i 0 = 1)
theorem places_mt {rs ss : List Int} (h : Bits rs) (b : Nat) : ((places rs rs.length).map fun i => ss.getD ((i + rs.length - b) % rs.length) 0).sum = mt rs ss b := by
  unfold places mt
  rw [Sm_filter]
  exact Sm_congr fun i _ => bit_mul (bits_at h i)
theorem count_mt {rs ss : List Int} (h : Bits rs) (h2 : Bits ss) (b : Nat) : (((List.range rs.length).filter fun i => decide (rs.getD i 0 = 1) && decide (ss.getD ((i + rs.length - b) % rs.length) 0 = 1)).length : Int) = mt rs ss b := by
  rw [Sm_count]
  unfold mt
  refine Sm_congr fun i _ => ?_
  show _ = rs.getD i 0 * ss.getD ((i + rs.length - b) % rs.length) 0
  rcases bits_at h i with e | e <;> rcases bits_at h2 ((i + rs.length - b) % rs.length) with e2 | e2 <;> rw [e, e2] <;> decide
theorem getD_at {rs : List Int} {i : Nat} (h : i < rs.length) : rs[i]? = some (rs.getD i 0) := by
  rw [List.getD_eq_getElem?_getD, List.getElem?_eq_getElem h]
  rfl
/-! set(xs) of a list of numbers, with all that sorted() asks of it -/
abbrev noSet (w : World) : Obj := { cls := .type "set", dict := none, data := .set #[] 0 (.fresh 0 0 (!w.params.followText "set-order")) }
section
variable {P : Program} {w : World} {A : Around} {E : Value → Shared → Prop} {s : Shared}
theorem two_off {z l b : Nat} {h : Heap} {o : Obj} (hz : h.objs.size = z) (hb : b < z) : b ∉ [z, (h.push o).objs.size] := by
  rw [Heap.size_push, hz]
  intro hm
  rcases List.mem_cons.mp hm with e | hm
  · omega
  · have := List.mem_singleton.mp hm
    omega
set_option maxRecDepth 100000 in
set_option maxHeartbeats 3200000 in
theorem set_of_list {l : Addr} {xs : Array Value} (ns : List Int) {Q : Value → Shared → Prop} (hA : A.handled = none) (hl : s.heap.IsList l xs) (hi : IntsAre xs.toList ns) (hn : ns.length + 1 < scanBound)
    (fin : ∀ (h' : Heap) (tk c : Nat), SetR w h' s.heap.objs.size (fun j => decide (j ∈ ns)) c → c ≤ ns.length → (∀ b o, s.heap.get? b = some o → h'.get? b = some o) → Q (.ref s.heap.objs.size) { s with heap := h', toks := tk }) :
    wpAny (model P w) A (call (.type "set") [.ref l]) Q E s := by
  have size_eq : xs.size = ns.length := by
    have e := IntsAre.length hi
    rw [Array.length_toList] at e
    exact e
  obtain ⟨c₀, rest, mro₀⟩ := PySem.F.called_set.mro
  have made₀ := PySem.F.called_set.made
  have sub₀ := PySem.F.called_set.sub
  refine wpAny_call (codeAny_of_tree ?_)
  show wpAny _ _ (callAny (.type "set") _) _ _ _
  refine wpAny_pure ⟨Code.quiet_builtin _ (by decide +kernel), codeAny_builtin PySem.F.entry_type_call ?_⟩
  rw [Around.under_plain (weight_type_call_type "set" [.ref l] []) rfl]
  have nt₀ := PySem.F.called_set.notType
  have cc₀ := PySem.F.called_set.canCreate
  have tc₀ := PySem.F.typeCall_set_1 (.ref l)
  repeat (any_goals (first | assumption | wp_step))
  refine codeAny_mono (code_set_led1 (.ref l) (E := E) (Q₁ := fun obj t₁ => obj = .ref s.heap.objs.size ∧ t₁ = { s with heap := s.heap.push (noSet w) }) ⟨rfl, rfl⟩) fun r t₁ out => ?_
  cases r with
  | error e => exact out
  | ok fl =>
    cases fl with
    | ret obj =>
      obtain ⟨rfl, rfl⟩ := out
      have at₀ : (s.heap.push (noSet w)).get? s.heap.objs.size = some (noSet w) := Heap.get?_push_size _ rfl
      have ty₀ : Shared.TypeIs { s with heap := s.heap.push (noSet w) } (.ref s.heap.objs.size) "set" := ⟨_, at₀, rfl⟩
      have lk₀ := PySem.F.called_set.init.lookup
      have bd₀ := PySem.F.called_set.init.bind (.ref s.heap.objs.size)
      repeat (any_goals (first | assumption | wp_step))
      refine codeAny_mono (codeAny_call_builtin (R := wants (fun r t₂ => r = .none ∧ ∃ h' tk c, t₂ = { s with heap := h', toks := tk } ∧ SetR w h' s.heap.objs.size (fun j => decide (j ∈ ns)) c ∧ c ≤ ns.length ∧ (∀ b o, s.heap.get? b = some o → h'.get? b = some o)) E)
        PySem.F.called_set.init.plain PySem.F.entry_set_init (check_set_init_1 ty₀ ?_)) fun r₂ t₂ out₂ => ?_
      · obtain ⟨⟨kc, kd, kt, ks⟩, gl, cl, nl, dl⟩ := hl
        simp only at cl dl
        subst cl
        subst dl
        have lS : l < s.heap.objs.size := Heap.lt_size gl
        have gl' : (s.heap.push (noSet w)).get? l = some { cls := .type "list", dict := kd, data := .seq xs nl, slots := ks } := Heap.get?_push_of_some _ gl
        have no1 := PySem.F.sub_list_set
        have no2 := PySem.F.sub_list_frozenset
        have no3 : (Value.type "list" == Value.type "dict") = false := by decide
        have il : (s.heap.push (noSet w)).IsList l xs := ⟨_, gl', rfl, nl, rfl⟩
        unfold Builtin.«set.__init__» noKeywords Builtin.Frozenset.updateFrom
        generalize hPI : pyIter = PI
        wp_walk
        subst hPI
        refine wpAny_pyIter_list il (wpAny_bind (wpAny_runValue ?_))
        have hA3 : A.in1.in1.in1.handled = none := by simp [hA]
        have lI : l ≠ (s.heap.push (noSet w)).objs.size := by
          rw [Heap.size_push]
          exact Nat.ne_of_lt (Nat.lt_succ_of_lt lS)
        have offS : s.heap.objs.size ∉ [(s.heap.push (noSet w)).objs.size, l] := by
          rw [Heap.size_push]
          intro hm
          rcases List.mem_cons.mp hm with e | hm
          · exact absurd e (Nat.ne_of_lt (Nat.lt_succ_self _))
          · exact absurd (List.mem_singleton.mp hm) (Nat.ne_of_gt lS)
        have vals : ∀ (i : Nat) (v : Value), xs[i]? = some v → ∃ k t, ns[i]? = some k ∧ v = .int k t := fun i v hv => by
          have lt : i < ns.length := by
            rw [← size_eq]
            exact (Array.getElem?_eq_some_iff.mp hv).1
          obtain ⟨t, e⟩ := IntsAre.int_at hi i v (by rw [Array.getElem?_toList]; exact hv)
          exact ⟨ns.getD i 0, t, getD_at lt, e⟩
        refine set_update_ints ((Walks.list hA3 _ l lI xs).toS) s.heap.objs.size offS ns size_eq hn vals (xs.size - 0) 0 _ (by omega) (Nat.zero_le _) ⟨⟨_, Heap.get?_push_size _ rfl, rfl, rfl⟩, (il.push _)⟩
          ⟨0, Nat.le_refl 0, setR_new_at (Heap.get?_push_of_some _ at₀)⟩ fun t' c' moved small R' => ?_
        obtain ⟨h', g', d', tk', os'⟩ := t'
        have e1 : g' = s.gens := moved.gens
        have e2 : d' = s.drawn := moved.drawn
        have e3 : os' = s.os := moved.os
        subst e1
        subst e2
        subst e3
        show wpAny _ _ _ _ _ _
        refine wpAny_pure ?_
        show wpAny _ _ (ret Value.none) _ _ _
        rw [size_eq] at small
        exact wpAny_pure ⟨rfl, h', tk', c', rfl, R', small, fun b o e => moved.heap b o (two_off (l := l) rfl (Heap.lt_size e)) (Heap.get?_push_of_some _ (Heap.get?_push_of_some _ e))⟩
      · cases r₂ with
        | error e => exact out₂
        | ok fl₂ =>
          cases fl₂ with
          | ret r =>
            obtain ⟨rfl, h', tk, c', rfl, R', small, kept⟩ := out₂
            repeat (any_goals (first | assumption | wp_step))
            exact fin _ _ _ R' small kept
          | _ => exact out₂.elim
    | _ => exact out.elim
end
def rSetL (K : PySem.W.Frag) (w : World) : List V → Hp → VK → Prop := fun vs H Q => ∃ (l : Addr) (ns : List Int), vs = [V.ref l] ∧ SqL K H l (ns.map V.int) ∧ ns.length ≤ 1000 ∧ ∀ (p : Addr) (c : Nat), H p = none → c ≤ ns.length → Q (.ref p) (upd H p (SetO w p (fun j => decide (j ∈ ns)) c))
theorem cr_setL {X : Cx} (hc : X.calm = true) : CallR X (.type "set") (rSetL X.K X.w) := by
  intro pins s σ H xs us Q I r h
  obtain ⟨l, ns, rfl, hq, hl, q⟩ := h
  rw [Vals.ref1 r]
  obtain ⟨its, rv, pl, _⟩ := I.list hq
  refine set_of_list ns (I.ok.hd hc) pl.isList (by simpa using intsAre_of rv) (by unfold scanBound; omega) fun h' tk c R small kept => ?_
  exact ⟨.ref _, upd H s.heap.objs.size (SetO X.w s.heap.objs.size (fun j => decide (j ∈ ns)) c), I.laid (t' := tk) kept (Nat.le_refl _) (setO_new R), rfl, q _ c (I.hok.fresh (Nat.le_refl _)) small⟩
theorem setLW {X : Cx} {K : PySem.W.Frag} {w : World} (hK : X.K = K) (hw : X.w = w) (hc : X.calm = true) : CallR X (.type "set") (rSetL K w) := by
  subst hK hw
  exact cr_setL hc
theorem sortedW {X : Cx} {w : World} (hw : X.w = w) (hc : X.calm = true) : CallR X (.builtin "sorted") (rSortedSet w) := by
  subst hw
  exact cr_sortedSet hc
/-! generator expressions whose element is anything that PE serves: the generator's own frame as a context -/
abbrev Cx.gblk (X : Cx) (s : Shared) (H : Hp) (scope : Scope) (C : Addr) (code : Value) (fp : List Addr) : Cx :=
  { X with A := X.A.in1.in1.in1.in1.deeper (genEnv scope (cloFrom X.env.cells scope.names []) C code builtinsNs X.env), s_0 := s, H_0 := H, env := genEnv scope (cloFrom X.env.cells scope.names []) C code builtinsNs X.env, outer := X.stack, stack := (genEnv scope (cloFrom X.env.cells scope.names []) C code builtinsNs X.env) :: X.stack, ex := fp, fn := fun x => scope.names.lookup x == some .cell, pn := [], xe := fun _ _ => False }
theorem over_gen {A : Around} {elt : Expr} {gs : List Comprehension} {sc : Scope} {pos : Pos} {it acc : Value} {env : Env} : A.over (.compLoop (.GeneratorExp elt gs sc pos) 0 it acc env) [] = A.deeper env := by
  first
    | rfl
    | (obtain ⟨hd, d, fr, gd, u⟩ := A; simp [Around.over, Around.deeper, marksOver, frameCount, unitsOf, envsOf, guardsOf, pushEnvs, pushGuards, Code.envs, Code.env?, Code.isFrame, Code.guards, Code.isGuard, Code.weight, Code.frames, Code.isCreation, Code.isCaller, Code.cUnits])
theorem over_gen0 {A : Around} {elt : Expr} {gs : List Comprehension} {sc : Scope} {pos : Pos} {it acc : Value} {env : Env} : A.over (.compStart (.GeneratorExp elt gs sc pos) 0 it acc env) [] = A.deeper env := by
  first
    | rfl
    | (obtain ⟨hd, d, fr, gd, u⟩ := A; simp [Around.over, Around.deeper, marksOver, frameCount, unitsOf, envsOf, guardsOf, pushEnvs, pushGuards, Code.envs, Code.env?, Code.isFrame, Code.guards, Code.isGuard, Code.weight, Code.frames, Code.isCreation, Code.isCaller, Code.cUnits])
theorem Room.gen {k : Nat} {A : Around} (r : Room (k + 1) A) (env : Env) : Room k (A.in1.in1.in1.in1.deeper env) :=
  ⟨r.hd, by have := r.dp; show A.depth + 1 + 3 * k + 5 < _; omega, by have := r.un; show A.units + 1 + 1 + 1 + 1 + 3 + 16 * k + 200 < _; omega⟩
/-- the names of a generator expression: as a block's, none of them a cell of its own -/
structure GenOk (N : List Str) (sc scope : Scope) (own : List (Str × Nat)) : Prop where
  blk : BlkOk N sc scope own
  co : scope.isCoroutine = false
  cel : ∀ y ∈ scope.names, y.2 ≠ .cell
  dot : scope.names.lookup (".0" : Str) = some NameKind.local
theorem genOk_by {N : List Str} {sc scope : Scope} {own : List (Str × Nat)} (h : blkC N sc scope own = true) (co : scope.isCoroutine = false) (cel : (scope.names.all fun y => y.2 != .cell) = true) (dot : scope.names.lookup (".0" : Str) = some NameKind.local) : GenOk N sc scope own := by
  refine ⟨blkOk_by h, co, fun y hy e => ?_, dot⟩
  have := List.all_eq_true.mp cel y hy
  rw [e] at this
  cases this
section
variable {X : Cx} {pins : List (Addr × Obj)} {σ : L2.St} {H : Hp} {s : Shared}
theorem gen_start {scope : Scope} {own : List (Str × Nat)} {fp : List Addr} {code : Value} {h' : Heap} {go : Obj} {G : Array GenState} {tk : Nat} {it : Value} (I : Inv X pins σ H s) (ok : GenOk X.N X.env.scope scope own) (hN : X.N.Nodup) (hfp : ∀ b ∈ fp, FpOk X pins H b ∧ b < s.heap.objs.size)
    (hns : h'.Ns s.heap.objs.size (fun y => if y = ".0" then some it else none)) (sb : Heap.SameBut s.heap.objs.size (s.heap.push { cls := .type "frame", data := .dict #[] }) h') (hG : AllBare G) (hgo : (h'.push go).get? h'.objs.size = some go) (hgd : ∀ v, go.data ≠ .cell v) :
    Inv (Cx.gblk X s H scope s.heap.objs.size code fp) [(h'.objs.size, go)] (wipe σ (own.map (·.2))) H { s with gens := G, toks := tk, heap := h'.push go } := by
  have hfree : ∀ y ∈ scope.names, y.2 = .free → ∃ c, X.env.cells.lookup y.1 = some c := fun y hy e => by
    rcases ok.blk.free y hy e with k | k
    · exact I.ok.has _ (.inl k)
    · exact I.ok.has _ (.inr k)
  have szh : h'.objs.size = s.heap.objs.size + 1 := by rw [sb.1, Heap.size_push]
  have kp : ∀ b o, s.heap.get? b = some o → (h'.push go).get? b = some o := fun b o e => Heap.get?_push_of_some _ (sb.extBut b o (Nat.ne_of_lt (Heap.lt_size e)) (Heap.get?_push_of_some _ e))
  have cm : ∀ {y c}, (cloFrom X.env.cells scope.names []).lookup y = some c → X.env.cells.lookup y = some c ∧ c < s.heap.objs.size ∧ (y, NameKind.free) ∈ scope.names := fun {y c} e => by
    rcases cloFrom_mem (PySem.mem_of_lookup e) with hm | ⟨h1, rfl⟩
    · cases hm
    · obtain ⟨c, hc⟩ := hfree _ h1 rfl
      rw [hc]
      obtain ⟨w, z⟩ := I.cell _ _ hc
      exact ⟨rfl, z.lt, h1⟩
  have look : ∀ {y}, scope.names.lookup y = some .free → ∃ c, (cloFrom X.env.cells scope.names []).lookup y = some c ∧ X.env.cells.lookup y = some c := fun {y} hl => by
    have hy : (y, NameKind.free) ∈ scope.names := PySem.mem_of_lookup hl
    obtain ⟨c', e'⟩ := mem_lookup (cloFrom_has (cells := X.env.cells) (acc := []) hy)
    exact ⟨c', e', (cm e').1⟩
  have okB : (Cx.gblk X s H scope s.heap.objs.size code fp).Ok := by
    refine ⟨I.ok.mod, ok.blk.kind, I.ok.glob, rfl, Nat.le_refl _, fun y z c e1 e2 => I.ok.inj y z c (cm e1).1 (cm e2).1, fun y hy => ?_, fun y c z e => ?_, I.ok.hd, ?_, .inr ⟨rfl, rfl⟩, fun b hb => ⟨?_, fun y c e z => ?_⟩, I.bs, Nat.le_trans I.ok.bsz I.sz, fun b o e hb => ?_, fun b hb z => ?_, I.stack, I.stkFree⟩
    · rcases hy with hy | hy
      · have hy : scope.names.lookup y = some .cell := hy
        exact absurd rfl (ok.cel _ (PySem.mem_of_lookup hy))
      · obtain ⟨c, h1, _⟩ := look (y := y) hy
        exact ⟨c, h1⟩
    · have z : (scope.names.lookup y == some NameKind.cell) = true := z
      have z : scope.names.lookup y = some .cell := by simpa using z
      exact absurd rfl (ok.cel _ (PySem.mem_of_lookup z))
    · show (X.A.frames.map (_ :: ·)) = some (_ :: X.stack)
      rw [I.ok.frames]
      rfl
    · exact Nat.ne_of_lt (hfp b hb).2
    · exact (hfp b hb).1.2.2.2.2.1 y c (cm e).1 z
    · rcases (hfp b hb).1.2.2.2.1 with z | z
      · exact I.ok.noex b o e z
      · exact absurd (Nat.lt_of_lt_of_le (Heap.lt_size e) (Nat.le_trans I.ok.bsz z)) (Nat.lt_irrefl _)
    · rcases List.mem_cons.mp (I.stkSub b z) with z | z
      · exact (hfp b hb).1.2.1 z
      · exact (hfp b hb).1.2.2.1 z
  refine ⟨okB, rfl, hG, Un.kept kp, ⟨_, hns.push go, fun i y av e1 e2 e3 => ?_⟩, fun y c e => ?_, I.hok.fresh (Nat.le_refl _), fun y c e => I.freeC y c (cm e).1, fun p hp => ?_, I.hok.kept kp, by rw [wipe_length]; exact I.len⟩
  · obtain ⟨e2, hne⟩ := wipe_some e2
    have e3 : Vis scope y := e3
    have hfr : scope.names.lookup y = some .free := by
      have no : ∀ k, scope.names.lookup y = some k → (k = .local ∨ k = .cell) → False := fun k e hh => by
        rcases ok.blk.own _ (PySem.mem_of_lookup e) hh with e' | e'
        · obtain ⟨p, hp, hpy⟩ := List.mem_map.mp e'
          have e3 := ok.blk.ix p hp
          have : p.1 = y := hpy
          rw [this] at e3
          exact hne (List.mem_map.mpr ⟨p, hp, nodup_ix hN e3 e1⟩)
        · exact e' (List.mem_of_getElem? e1)
      rcases e3 with e3 | e3 | e3
      · exact (no _ e3 (.inl rfl)).elim
      · exact (no _ e3 (.inr rfl)).elim
      · exact e3
    obtain ⟨m, hn, hl⟩ := I.loc
    have hvis : Vis X.env.scope y := (ok.blk.free _ (PySem.mem_of_lookup hfr) rfl).elim (fun k => .inr (.inl k)) (fun k => .inr (.inr k))
    obtain ⟨w, r, q⟩ := hl i y av e1 e2 hvis
    refine ⟨w, r, .inr ⟨.inr hfr, ?_⟩⟩
    obtain ⟨c, h1, h2⟩ := look hfr
    rcases q with ⟨k, _⟩ | ⟨_, c', e', z⟩
    · have k : X.env.scope.names.lookup y = some .local := k
      rcases ok.blk.free _ (PySem.mem_of_lookup hfr) rfl with k' | k' <;> rw [show X.env.scope.names.lookup y = _ from k'] at k <;> cases k
    · rw [h2] at e'; cases e'
      exact ⟨c, h1, z.keeps kp⟩
  · obtain ⟨w, z⟩ := I.cell y c (cm e).1
    exact ⟨w, z.keeps kp⟩
  · have hp : p = (h'.objs.size, go) := by simpa using hp
    subst hp
    have ge : s.heap.objs.size ≤ h'.objs.size := by omega
    refine ⟨hgo, I.hok.fresh ge, by show h'.objs.size ≠ s.heap.objs.size; omega, fun z => ?_, hgd⟩
    rcases List.mem_cons.mp (I.stkSub _ z) with z | z
    · have z : h'.objs.size = X.env.locals := z
      exact Nat.ne_of_lt (Nat.lt_of_lt_of_le I.lt ge) z.symm
    · exact I.nofs ge z
end
section
/-- what the consumer holds beside, what it is told, where it goes on, the end -/
structure GPar where
  ext : List V → List (Addr × Obj) → Prop
  yld : List V → V → Hp → Prop
  go : List V → V → Hp → Prop
  fin : List V → Hp → Prop
def YG (Y : Cx) (ga : Addr) (go : Obj) (p : GPar) : Protocol := fun _ _ v s kap => ∃ (ys : List V) (y : V) (H' : Hp) (ps pf : List (Addr × Obj)) (σ' : L2.St), RelV y v ∧ p.ext ys ps ∧ (∀ q ∈ pf, q.1 < Y.env.locals) ∧ Inv Y (((ga, go) :: ps) ++ pf) σ' H' s ∧ p.yld ys y H' ∧
  ∀ s' ps', p.ext (ys ++ [y]) ps' → Inv Y (((ga, go) :: ps') ++ pf) σ' H' s' → p.go ys y H' → kap (.send .none) s'
def RG (Y : Cx) (ga : Addr) (go : Obj) (p : GPar) : Shared → Prop := fun s => ∃ (ys : List V) (H' : Hp) (ps : List (Addr × Obj)) (σ' : L2.St), p.ext ys ps ∧ Inv Y ((ga, go) :: ps) σ' H' s ∧ p.fin ys H'
theorem gen_loop {Y : Cx} {A : Around} {ga : Addr} {go : Obj} {p : GPar} {elt tg iter : Expr} {ifs : List Expr} {scope : Scope} {pos : Pos} {it : Addr} {fp : List Addr} {tn : Nat → Heap → Prop} {J : It} {g : TG} {tt : TT} {te : TE} {σ : L2.St} {vs : List Nat} {W : List V → Nat → Nat → Hp → Prop}
    (hcal : Y.calm = true) (hpn : Y.pn = []) (T : Turn Y.prog Y.w Y.K tg J fp it tn) (hpg : PG Y tg g) (hpt : PTs Y ifs tt) (hpe : PE Y elt te) (hxe : Y.xe = fun _ _ => False)
    (hA : A.over (.compLoop (.GeneratorExp elt [⟨tg, iter, ifs, 0⟩] scope pos) 0 (.ref it) .none Y.env) [] = Y.A) (hex : ∀ b ∈ fp, b ∈ Y.ex) (hga : ∀ b ∈ fp, ga ≠ b) (hext : ∀ ys ps, p.ext ys ps → ∀ q ∈ ps, ∀ b ∈ fp, q.1 ≠ b) (hco : Y.env.scope.isCoroutine = false) (hfl : ∀ b ∈ fp, b < Y.env.locals)
    (step : ∀ ys i m H, W ys i m H → (J.stop i H ∧ p.fin ys H) ∨ (J.go i H ∧ ∃ Nx : List V → Hp → Prop, (∀ ys' H', Nx ys' H' → ∃ m', m' < m ∧ W ys' (i + 1) m' H') ∧ ∀ x H', J.yld i H x H' → g x (wipe σ vs) H' fun σ2 H2 => wipe σ2 vs = wipe σ vs ∧ tt σ2 H2 fun b H3 =>
      if b = true then te σ2 H3 fun y H4 => p.yld ys y H4 ∧ (p.go ys y H4 → Nx (ys ++ [y]) H4) else Nx ys H3)) :
    ∀ (m n i : Nat) (ys : List V) (H : Hp) (ps : List (Addr × Obj)) (s₀ s : Shared), m < n → W ys i m H → p.ext ys ps → Inv Y ((ga, go) :: ps) (wipe σ vs) H s → tn i s.heap → (∀ b ∈ fp, H b = none) →
      Seg (model Y.prog Y.w) A (fun n s₀ r s₁ => r = .ok .next ∧ (fun _ _ s => RG Y ga go p s) n s₀ s₁) (YG Y ga go p) n s₀ (.compLoop (.GeneratorExp elt [⟨tg, iter, ifs, 0⟩] scope pos) 0 (.ref it) .none Y.env)
        ((model Y.prog Y.w).den (.compLoop (.GeneratorExp elt [⟨tg, iter, ifs, 0⟩] scope pos) 0 (.ref it) .none Y.env)) [] s := by
  intro m
  induction m using Nat.strongRecOn with
  | ind m ih =>
  intro n i ys H ps s₀ s hmn w0 ex0 I0 st0 n0
  have stat : ∀ {σ' : L2.St} {H' : Hp} {s' : Shared} {ys' ps'}, p.ext ys' ps' → Inv Y ((ga, go) :: ps') σ' H' s' → (∀ b ∈ fp, H' b = none) → ∀ b ∈ fp, FpOk Y ((ga, go) :: ps') H' b := fun {σ' H' s' ys' ps'} e' I' hn b hb =>
    ⟨hn b hb, (I'.ok.exf b (hex b hb)).1, I'.ok.exfs b (hex b hb), .inl (hex b hb), fun x c e => (I'.ok.exf b (hex b hb)).2 x c e, fun q hq => by
      rw [hpn, List.nil_append] at hq
      rcases List.mem_cons.mp hq with z | z
      · rw [z]; exact hga b hb
      · exact hext _ _ e' q z b hb⟩
  show Seg _ A _ _ _ s₀ _ ((compTurn (.GeneratorExp elt [⟨tg, iter, ifs, 0⟩] scope pos) 0 (.ref it) .none Y.env).onRaise (leaving Y.env)) [] s
  rw [compTurn_gen, Sem.onRaise_eq_wrap]
  refine seg_bind_wrap (wpAny_standAt ?_)
  rcases step ys i m H w0 with ⟨stop, qf⟩ | ⟨gon, Nx, hNx, turn⟩
  · refine seg_bind_wrap ?_
    rw [hA]
    refine thnF (T.done Y rfl rfl rfl hcal i _ s _ H (fun _ _ => False) I0 (stat ex0 I0 n0) st0 stop) fun r s6 ⟨hr, I6⟩ => ?_
    subst hr
    exact seg_end (.ok .next) ⟨rfl, ys, H, ps, _, ex0, I6, qf⟩
  · refine seg_bind_wrap ?_
    rw [hA]
    refine thnF (T.item Y rfl rfl rfl hcal i _ s _ H (fun _ _ => False) I0 (stat ex0 I0 n0) st0 gon) fun r s6 ⟨u, hr, h6⟩ => ?_
    subst hr
    refine seg_bind_wrap ?_
    rw [hA]
    refine thnF h6 fun _ s7 ⟨x, H7, I7, r7, y7, st7, n7⟩ => ?_
    have I7' := I7.pinned (stat ex0 I7 n7) (T.obj _ _ st7)
    refine seg_bind_wrap ?_
    rw [hA]
    have fx : ∀ {α : Type} {t : Sem α} {Q : α → Shared → Prop} {s : Shared}, wpAny (model Y.prog Y.w) Y.A t Q Y.xe s → wpAny (model Y.prog Y.w) Y.A t Q (fun _ _ => False) s := fun h => by rw [hxe] at h; exact h
    refine thnF (fx (hpg.run _ s7 _ H7 x u _ I7' r7 (turn x H7 y7))) fun _ s8 ⟨σ8, H8, I8, hw8, q8⟩ => ?_
    refine seg_bind_wrap ?_
    rw [hA]
    refine thnF (fx (hpt.run _ s8 σ8 H8 _ I8 q8)) fun b s9 ⟨H9, I9, q9⟩ => ?_
    have fin : ∀ {s' : Shared} {H' : Hp} {ys' ps' m'}, m' < m → ∀ {n' : Nat} {s₀' : Shared}, m' < n' → p.ext ys' ps' → Inv Y (((ga, go) :: ps') ++ pinsAt fp s7.heap) σ8 H' s' → W ys' (i + 1) m' H' → Seg (model Y.prog Y.w) A (fun n s₀ r s₁ => r = .ok .next ∧ (fun _ _ s => RG Y ga go p s) n s₀ s₁) (YG Y ga go p) n' s₀' (.compLoop (.GeneratorExp elt [⟨tg, iter, ifs, 0⟩] scope pos) 0 (.ref it) .none Y.env)
        ((model Y.prog Y.w).den (.compLoop (.GeneratorExp elt [⟨tg, iter, ifs, 0⟩] scope pos) 0 (.ref it) .none Y.env)) [] s' := fun {s' H' ys' ps' m'} hm {n' s₀'} hn e' I' w' => by
      have pin' : ∀ b ∈ fp, ∀ o, s7.heap.get? b = some o → s'.heap.get? b = some o ∧ H' b = none := fun b hb o e =>
        let z := I'.pin (b, o) (List.mem_append_right _ (List.mem_append_right _ (mem_pinsAt hb e)))
        ⟨z.1, z.2.1⟩
      have hl : (wipe σ vs).length = σ8.length := by rw [← hw8, wipe_length]
      have I2 : Inv Y ((ga, go) :: ps') σ8 H' s' := I'.pins_of fun q hq => I'.pin q (List.mem_append_right _ (List.mem_append_left _ hq))
      refine ih m' hm n' (i + 1) ys' H' ps' s₀' s' hn w' e' (I2.weak hl fun j v e => ?_) (T.keep _ _ _ st7 fun b hb o e => (pin' b hb o e).1) fun b hb => ?_
      · rw [← hw8] at e
        exact (wipe_some e).1
      · obtain ⟨o, e, _⟩ := T.obj _ _ st7 b hb
        exact (pin' b hb o e).2
    cases b with
    | false =>
      simp only [Bool.false_eq_true, if_false] at q9 ⊢
      obtain ⟨m', hm, w'⟩ := hNx _ _ q9
      exact seg_again rfl (fin hm (by omega) ex0 I9 w')
    | true =>
      simp only [if_true] at q9 ⊢
      have hy : ∀ v, yieldOut Y.env v = yieldValue v := fun v => by simp only [yieldOut, hco, Bool.false_eq_true, if_false]
      simp only [hy]
      rw [Sem.bind_eq_wrap', Sem.bind_eq_wrap', Sem.wrap_wrap, Sem.wrap_wrap]
      refine seg_wrap ?_
      rw [hA]
      refine thnF (fx (hpe.run _ s9 σ8 H9 _ I9 q9)) fun z s10 ⟨yv, H10, I10, r10, yl, cont⟩ => ?_
      obtain ⟨n, rfl⟩ : ∃ k, n = k + 1 := ⟨n - 1, by omega⟩
      refine seg_at (seg_yield rfl rfl rfl ⟨ys, yv, H10, ps, pinsAt fp s7.heap, σ8, r10, ex0, fun q hq => hfl _ (of_pinsAt hq).1, I10, yl, fun s' ps' e' I' go' => ?_⟩)
      obtain ⟨m', hm, w'⟩ := hNx _ _ (cont go')
      exact seg_again rfl (fin hm (by omega) e' I' w')
theorem gen_begin {Y : Cx} {A : Around} {elt tg iter : Expr} {ifs : List Expr} {scope : Scope} {pos : Pos} {it : Addr} {R : GenEnd} {Yp : Protocol} {n : Nat} {s₀ s : Shared} {cenv : Env}
    (self : ∀ (B : Around) (Q : Value → Shared → Prop) (E : Value → Shared → Prop), Q (.ref it) s → wpAny (model Y.prog Y.w) B (pyIter (.ref it)) Q E s)
    (loop : Seg (model Y.prog Y.w) A R Yp n s₀ (.compLoop (.GeneratorExp elt [⟨tg, iter, ifs, 0⟩] scope pos) 0 (.ref it) .none cenv) ((model Y.prog Y.w).den (.compLoop (.GeneratorExp elt [⟨tg, iter, ifs, 0⟩] scope pos) 0 (.ref it) .none cenv)) [] s) :
    Seg (model Y.prog Y.w) A R Yp n s₀ (.compStart (.GeneratorExp elt [⟨tg, iter, ifs, 0⟩] scope pos) 0 (.ref it) .none cenv) ((model Y.prog Y.w).den (.compStart (.GeneratorExp elt [⟨tg, iter, ifs, 0⟩] scope pos) 0 (.ref it) .none cenv)) [] s := by
  show Seg _ A _ _ _ s₀ _ ((compStart (.GeneratorExp elt [⟨tg, iter, ifs, 0⟩] scope pos) 0 (.ref it) .none cenv).onRaise (leaving cenv)) [] s
  unfold compStart
  rw [Sem.onRaise_eq_wrap]
  show Seg _ A _ _ _ s₀ _ ((ask >>= _).wrap _ _ _ _) [] s
  refine seg_bind_wrap (wpAny_askSetting ?_)
  split
  · exact seg_again rfl loop
  · first
      | exact seg_bind_wrap (wpAny_rule (seg_bind_wrap (wpAny_standAt (seg_bind_wrap (self _ _ _ (seg_again rfl loop))))))
      | (refine seg_bind_wrap (wpAny_rule ?_); show Seg _ A _ _ _ s₀ _ ((standAt iter.pos >>= _).wrap _ _ _ _) [] s; exact seg_bind_wrap (wpAny_standAt (seg_bind_wrap (self _ _ _ (seg_again rfl loop)))))
end
section
def GAt (X Y : Cx) (ga : Addr) (gi : Nat) (go : Obj) (p : GPar) (n : Nat) (s : Shared) : Prop := s.heap.IsGen ga gi ∧ s.heap.NoLimit ∧ ∃ gs, s.gens[gi]? = some gs ∧
  gs.Goes (model X.prog X.w) X.A.in1.in1.in1.in1 (fun n s₀ r s₁ => r = .ok .next ∧ (fun _ _ s => RG Y ga go p s) n s₀ s₁) (YG Y ga go p) n (.send .none) (s.setGen gi .running)
theorem inv_gens {Y : Cx} {pins : List (Addr × Obj)} {σ : L2.St} {H : Hp} {s : Shared} {G : Array GenState} (I : Inv Y pins σ H s) (hG : AllBare G) : Inv Y pins σ H { s with gens := G } :=
  I.call (g' := G) (t' := s.toks) (d' := s.drawn) (ch := []) Un.refl I.hok hG (fun b z => by simp at z)
theorem inv_setGen {Y : Cx} {pins : List (Addr × Obj)} {σ : L2.St} {H : Hp} {s : Shared} {gi : Nat} {x : GenState} (I : Inv Y pins σ H s) (hx : x.bare = true) : Inv Y pins σ H (s.setGen gi x) :=
  inv_gens I (allBare_setGen I.bare hx)
theorem gat_next {X Y : Cx} {ga : Addr} {gi : Nat} {go : Obj} {p : GPar} {n : Nat} {s : Shared} {E : Value → Shared → Prop} (hh : X.A.handled = none) (hroom : X.A.depth < recursionLimit) (hpr : Y.prog = X.prog) (hw : Y.w = X.w)
    (hgo : ∀ h : Heap, h.get? ga = some go → h.IsGen ga gi) (h : GAt X Y ga gi go p n s) :
    wpAny (model X.prog X.w) X.A.in1.in1.in1 (pyNext (.ref ga)) (fun r s' =>
      (∃ v, r = some v ∧ ∃ (ys : List V) (y : V) (H' : Hp) (ps pf : List (Addr × Obj)) (σ' : L2.St), RelV y v ∧ p.ext ys ps ∧ (∀ q ∈ pf, q.1 < Y.env.locals) ∧ Inv Y (((ga, go) :: ps) ++ pf) σ' H' s' ∧ p.yld ys y H' ∧
        ∀ s'' ps', p.ext (ys ++ [y]) ps' → Inv Y (((ga, go) :: ps') ++ pf) σ' H' s'' → s''.gens = s'.gens → p.go ys y H' → ∃ m, n = m + 1 ∧ GAt X Y ga gi go p m s'') ∨
      (r = none ∧ RG Y ga go p s')) E s := by
  obtain ⟨hg, hl, gs, hgs, hgoes⟩ := h
  have hgl : gi < s.gens.size := (Array.getElem?_eq_some_iff.mp hgs).1
  refine wpAny_mono (GenW.wpAny_gsz (n := gi + 1) hgl (wpAny_pyNext_genexpQ (A := X.A.in1.in1.in1) (P := fun _ _ s => RG Y ga go p s) (Q := fun r s' => gi + 1 ≤ s'.gens.size → _) hh hl hroom hg hgs hgoes (fun v s₁ gs' hb hv => ?_) (fun s₁ hp h' hk => ?_))) (fun r s' z => z) (fun _ _ z => z)
  · intro hsz
    obtain ⟨ys, y, H', ps, pf, σ', rv, ex, pl, I, yl, kap⟩ := hv
    refine .inl ⟨v, rfl, ys, y, H', ps, pf, σ', rv, ex, pl, inv_setGen I hb, yl, fun s'' ps' ex' I' eg go' => ?_⟩
    have hsz1 : gi < s₁.gens.size := by
      have q : (s₁.setGen gi gs').gens.size = s₁.gens.size := GenW.setGen_size _ _ _
      have hsz' : gi + 1 ≤ (s₁.setGen gi gs').gens.size := hsz
      omega
    have k := kap (s''.setGen gi .running) ps' ex' (inv_setGen I' rfl) go'
    cases n with
    | zero => exact k.elim
    | succ m =>
      refine ⟨m, rfl, hgo _ (I'.pin (ga, go) (List.mem_append_right _ (List.mem_append_left _ List.mem_cons_self))).1, I'.nolimit, gs', ?_, k⟩
      rw [eg]
      exact setGen_at hsz1
  · intro _
    obtain ⟨ys, H', ps, σ', ex, I, fi⟩ := hp
    refine .inr ⟨rfl, ys, H', ps, σ', ex, ?_, fi⟩
    exact I.call' (s' := { s₁.setGen gi .finished with heap := h' }) (ch := []) rfl (Un.kept hk) (I.hok.kept hk) (allBare_setGen I.bare rfl) (fun b z => by simp at z)
theorem entry_all2 : entryFor table "all" = some Builtin.«all» := PySem.F.entry_all
/-- all(g): the consumer's loop -/
theorem all_loop {X Y : Cx} {ga : Addr} {gi : Nat} {go : Obj} {p : GPar} {R : Result → Shared → Prop} (hh : X.A.handled = none) (hroom : X.A.depth < recursionLimit) (hpr : Y.prog = X.prog) (hw : Y.w = X.w) (hgo : ∀ h : Heap, h.get? ga = some go → h.IsGen ga gi)
    (hext : ∀ ys, p.ext ys []) (hext2 : ∀ ys ps, p.ext ys ps → ps = []) (hy : ∀ ys y H, p.yld ys y H → ∃ b, y = .bl b ∧ (b = true → p.go ys y H))
    (hno : ∀ ys H' pf σ' s', p.yld ys (.bl false) H' → Inv Y ((ga, go) :: pf) σ' H' s' → R (.ok (.ret (.bool false))) s') (hyes : ∀ ys H' σ' s', p.fin ys H' → Inv Y [(ga, go)] σ' H' s' → R (.ok (.ret (.bool true))) s') :
    ∀ (n : Nat) (s : Shared), GAt X Y ga gi go p n s → codeAny (model X.prog X.w) X.A (.builtin "all.loop" ⟨[.ref ga], []⟩) R s := by
  intro n
  induction n with
  | zero =>
    intro s h
    refine codeAny_builtin PySem.F.entry_all_loop ?_
    rw [Around.under_plainId PySem.F.plain_all_loop _]
    show wpAny _ X.A.in1 (pyNext (.ref ga) >>= _) _ _ s
    refine wpAny_bind (wpAny_of_in1 (wpAny_of_in1 (wpAny_mono (gat_next hh hroom hpr hw hgo h) (fun r s' z => ?_) fun _ _ e => e)))
    rcases z with ⟨v, rfl, ys, y, H', ps, pf, σ', rv, ex, _, I, yl, k⟩ | ⟨rfl, ys, H', ps, σ', ex, I, fi⟩
    · obtain ⟨b, rfl, gob⟩ := hy _ _ _ yl
      obtain rfl : v = Value.bool b := rv
      obtain rfl := hext2 _ _ ex
      refine wpAny_bind (wpAny_holding (wpAny_truthy_bool ?_))
      refine wpAny_bind (wpAny_letGo ?_)
      cases b with
      | true =>
        obtain ⟨m, hm, _⟩ := k s' [] (hext _) I rfl (gob rfl)
        exact absurd hm (by omega)
      | false =>
        simp only [Bool.false_eq_true, if_false]
        exact wpAny_bind (wpAny_rule (wpAny_pure (hno _ _ _ _ _ yl I)))
    · obtain rfl := hext2 _ _ ex
      exact wpAny_bind (wpAny_rule (wpAny_pure (hyes _ _ _ _ fi I)))
  | succ n ih =>
    intro s h
    refine codeAny_builtin PySem.F.entry_all_loop ?_
    rw [Around.under_plainId PySem.F.plain_all_loop _]
    show wpAny _ X.A.in1 (pyNext (.ref ga) >>= _) _ _ s
    refine wpAny_bind (wpAny_of_in1 (wpAny_of_in1 (wpAny_mono (gat_next hh hroom hpr hw hgo h) (fun r s' z => ?_) fun _ _ e => e)))
    rcases z with ⟨v, rfl, ys, y, H', ps, pf, σ', rv, ex, _, I, yl, k⟩ | ⟨rfl, ys, H', ps, σ', ex, I, fi⟩
    · obtain ⟨b, rfl, gob⟩ := hy _ _ _ yl
      obtain rfl : v = Value.bool b := rv
      obtain rfl := hext2 _ _ ex
      refine wpAny_bind (wpAny_holding (wpAny_truthy_bool ?_))
      refine wpAny_bind (wpAny_letGo ?_)
      cases b with
      | true =>
        obtain ⟨m, hm, g2⟩ := k s' [] (hext _) I rfl (gob rfl)
        obtain rfl : m = n := by omega
        simp only [if_true]
        exact wpAny_pure ⟨plainId_quiet PySem.F.plain_all_loop _, ih _ g2⟩
      | false =>
        simp only [Bool.false_eq_true, if_false]
        exact wpAny_bind (wpAny_rule (wpAny_pure (hno _ _ _ _ _ yl I)))
    · obtain rfl := hext2 _ _ ex
      exact wpAny_bind (wpAny_rule (wpAny_pure (hyes _ _ _ _ fi I)))
end
section
variable {X : Cx} {pins : List (Addr × Obj)} {σ : L2.St} {H : Hp} {s : Shared}
theorem gen_mk {c P : Addr} {elt tg iter : Expr} {ifs : List Expr} {scope : Scope} {own : List (Str × Nat)} {gpos : Pos} {wi : TI} {g : TG} {tt : TT} {te : TE} {k : Nat} {R : It → Hp → Prop} {Q' : Value → Shared → Prop}
    (hr : Room (k + 1) X.A) (hc : X.calm = true) (hN : X.N.Nodup) (TB : GxR.TabB X.base X.mg c P) (hcode : X.env.code = .ref c) (ok : GenOk X.N X.env.scope scope own) (hi : PI X tg iter wi)
    (hg : ∀ (s : Shared) (H : Hp) (C : Addr) (code : Value) (fp : List Addr), Room k (Cx.gblk X s H scope C code fp).A → PG (Cx.gblk X s H scope C code fp) tg g)
    (ht : ∀ (s : Shared) (H : Hp) (C : Addr) (code : Value) (fp : List Addr), Room k (Cx.gblk X s H scope C code fp).A → PTs (Cx.gblk X s H scope C code fp) ifs tt)
    (he : ∀ (s : Shared) (H : Hp) (C : Addr) (code : Value) (fp : List Addr), Room k (Cx.gblk X s H scope C code fp).A → PE (Cx.gblk X s H scope C code fp) elt te)
    (hs : ∀ x, genFold iter X.env x = pure x) (I : Inv X pins σ H s) (h : wi σ H fun J H1 => GxR.TabG H1 P ∧ R J H1)
    (fin : ∀ (J : It) (H1 H4 : Hp) (Y : Cx) (s5 : Shared) (pf : List (Addr × Obj)) (ga : Addr) (gi : Nat) (go : Obj), R J H1 → GxR.Tabbed P H1 H4 → Y.prog = X.prog → Y.w = X.w → (∀ h : Heap, h.get? ga = some go → h.IsGen ga gi) → s5.heap.objs.size = ga + 1 → Y.s_0.heap.objs.size ≤ Y.env.locals → Y.pn = [] →
      Inv Y ([(ga, go)] ++ pf) (wipe σ (own.map (·.2))) H4 s5 → (∀ {pins' σ' H' s'}, Inv Y pins' σ' H' s' → Inv X pins σ H' s') →
      (∀ (p : GPar) (W : List V → Nat → Nat → Hp → Prop) (m : Nat), (∀ ys ps, p.ext ys ps → ∀ q ∈ ps, s5.heap.objs.size ≤ q.1) →
        (∀ ys i m H, W ys i m H → (J.stop i H ∧ p.fin ys H) ∨ (J.go i H ∧ ∃ Nx : List V → Hp → Prop, (∀ ys' H', Nx ys' H' → ∃ m', m' < m ∧ W ys' (i + 1) m' H') ∧ ∀ x H', J.yld i H x H' → g x (wipe σ (own.map (·.2))) H' fun σ2 H2 => wipe σ2 (own.map (·.2)) = wipe σ (own.map (·.2)) ∧ tt σ2 H2 fun b H3 =>
          if b = true then te σ2 H3 fun y H4 => p.yld ys y H4 ∧ (p.go ys y H4 → Nx (ys ++ [y]) H4) else Nx ys H3)) →
        W [] 0 m H4 → ∀ s' ps, p.ext [] ps → Inv Y (((ga, go) :: ps) ++ pf) (wipe σ (own.map (·.2))) H4 s' → s'.gens = s5.gens → GAt X Y ga gi go p (m + 1) s') →
      Q' (.ref ga) s5) :
    wpAny (model X.prog X.w) X.A (eval (.GeneratorExp elt [⟨tg, iter, ifs, 0⟩] scope gpos) X.env) Q' X.xe s := by
  have hfree : ∀ y ∈ scope.names, y.2 = .free → ∃ c, X.env.cells.lookup y.1 = some c := fun y hy e => by
    rcases ok.blk.free y hy e with k | k
    · exact I.ok.has _ (.inl k)
    · exact I.ok.has _ (.inr k)
  refine wpAny_GeneratorExp_make ok.co (closure_ok hfree) ok.cel ok.dot ok.blk.kind (by have := hr.dp; omega) (thn (hi.run pins s σ H _ I h) fun xv s1 hx => thn hx fun itv s2 h2 => ?_) hs
  obtain ⟨it, fp, tn, J, H2, rfl, I2, T, st2, f2, ⟨ps, hP, trip⟩, r⟩ := h2
  refine ⟨I2.nolimit, ?_⟩
  have hPs : s2.heap.get? P = some { cls := .none, data := .fields ps } := I2.hok P _ hP
  have cd : PySem.W.CodeHd s2.heap c P := TB.code.keeps fun b u e => I2.bk b u e
  have nfP : ∀ b ∈ fp, b ≠ P := fun b hb z => by
    have := (f2 b hb).1
    rw [z, hP] at this
    cases this
  have go2 : ∀ (code : Value) (h3 : Heap) (tk : Nat) (more : Array Value), Heap.ExtBut P s2.heap h3 → h3.get? P = some { cls := .none, data := .fields (ps ++ more) } → TriplesOk (ps ++ more).toList →
      wpAny (model X.prog X.w) X.A (builtinsFor X.env.globals X.env.builtins) (fun bi s₄ => ∀ h', h'.Ns s₄.heap.objs.size (fun y => if y = ".0" then some (.ref it) else none) → Heap.SameBut s₄.heap.objs.size (s₄.heap.push { cls := .type "frame", data := .dict #[] }) h' →
          Q' (.ref h'.objs.size) { s₄ with
            gens := s₄.gens.push (.fresh (.compStart (.GeneratorExp elt [⟨tg, iter, ifs, 0⟩] scope gpos) 0 (.ref it) .none (genEnv scope (cloFrom X.env.cells scope.names []) s₄.heap.objs.size code bi X.env))),
            toks := s₄.toks + 1 + 1 + 1,
            heap := h'.push { cls := .type "generator", data := .fields #[.int s₄.gens.size 0, .str "<genexpr>" (s₄.toks + 1), .str (X.env.qual ++ "<genexpr>") (s₄.toks + 1 + 1)] } }) X.xe { s2 with heap := h3, toks := tk } := by
    intro code h3 tk more hx hP3 trip3
    obtain ⟨bm, ob, e1, e2, e3, e4, e5, e6, e7, e8⟩ := TB.bm
    have I4 : Inv X pins σ (upd H2 P (.tbl (ps ++ more))) { s2 with heap := h3, toks := tk } := GxR.inv_tab (g' := s2.gens) (d' := s2.drawn) (t' := tk) I2 hP (fun b u hb e => hx b u hb e) hP3 I2.bare
    have tb4 : GxR.Tabbed P H2 (upd H2 P (.tbl (ps ++ more))) := ⟨⟨_, upd_same, trip3⟩, fun b hb => upd_ne hb⟩
    refine wpAny_builtinsFor (m := X.mg) (by rw [I2.ok.glob]; exact (I2.mod.glob.keeps I2.bk).extBut hx TB.gP) e1 e2 (hx _ _ e4 (I2.bk _ _ e5)) e6 e7 e8 ?_
    intro h' hn' hs'
    have f4 : ∀ b ∈ fp, FpOk X pins (upd H2 P (.tbl (ps ++ more))) b ∧ b < h3.objs.size := fun b hb => by
      obtain ⟨o, e, _⟩ := T.obj _ _ st2 b hb
      exact ⟨⟨(upd_ne (nfP b hb)).trans (f2 b hb).1, (f2 b hb).2⟩, Heap.lt_size (hx b o (nfP b hb) e)⟩
    have st4 : tn 0 h3 := T.keep _ _ _ st2 fun b hb o e => hx b o (nfP b hb) e
    generalize upd H2 P (.tbl (ps ++ more)) = H4 at I4 tb4 f4
    have szh : h'.objs.size = h3.objs.size + 1 := by rw [hs'.1]; exact Heap.size_push ..
    have main : ∀ (go : Obj) (G : Array GenState) (tk5 gi : Nat), (∀ h : Heap, h.get? h'.objs.size = some go → h.IsGen h'.objs.size gi) → (h'.push go).get? h'.objs.size = some go → (∀ v, go.data ≠ .cell v) → AllBare G →
        G[gi]? = some (.fresh (.compStart (.GeneratorExp elt [⟨tg, iter, ifs, 0⟩] scope gpos) 0 (.ref it) .none (genEnv scope (cloFrom X.env.cells scope.names []) h3.objs.size code builtinsNs X.env))) →
        Q' (.ref h'.objs.size) { s2 with gens := G, toks := tk5, heap := h'.push go } := by
      intro go G tk5 gi hgo hgo1 hgd hG hgi
      have Is := gen_start (s := { s2 with heap := h3, toks := tk }) (code := code) (tk := tk5) I4 ok hN f4 hn' hs' hG hgo1 hgd
      have hY := hg { s2 with heap := h3, toks := tk } H4 h3.objs.size code fp (Room.gen hr _)
      have tY := ht { s2 with heap := h3, toks := tk } H4 h3.objs.size code fp (Room.gen hr _)
      have eY := he { s2 with heap := h3, toks := tk } H4 h3.objs.size code fp (Room.gen hr _)
      have kp5 : ∀ b o, h3.get? b = some o → (h'.push go).get? b = some o := fun b o e => Heap.get?_push_of_some _ (hs'.extBut b o (Nat.ne_of_lt (Heap.lt_size e)) (Heap.get?_push_of_some _ e))
      have st5 : tn 0 (h'.push go) := T.keep _ _ _ st4 fun b hb o e => kp5 b o e
      have sz5 : (h'.push go).objs.size = h'.objs.size + 1 := Heap.size_push ..
      have gab : ∀ b ∈ fp, h'.objs.size ≠ b := fun b hb z => by
        have l := (f4 b hb).2
        have z : h'.objs.size = b := z
        have l2 : h3.objs.size < h'.objs.size := by rw [szh]; exact Nat.lt_succ_self _
        rw [z] at l2
        exact Nat.lt_irrefl _ (Nat.lt_trans l l2)
      have stat : ∀ b ∈ fp, FpOk (Cx.gblk X { s2 with heap := h3, toks := tk } H4 scope h3.objs.size code fp) [(h'.objs.size, go)] H4 b := fun b hb =>
        ⟨(f4 b hb).1.1, (Is.ok.exf b hb).1, Is.ok.exfs b hb, .inl hb, fun x c e => (Is.ok.exf b hb).2 x c e, fun q hq => by
          have hq : q = (h'.objs.size, go) := by simpa using hq
          rw [hq]
          exact gab b hb⟩
      have Ip := Is.pinned stat (T.obj _ _ st5)
      refine fin J H2 H4 (Cx.gblk X { s2 with heap := h3, toks := tk } H4 scope h3.objs.size code fp) _ (pinsAt fp (h'.push go)) h'.objs.size gi go r tb4 rfl rfl hgo sz5 (Nat.le_refl _) rfl Ip (fun {pins' σ' H' s'} I' => ?_) fun p W m hext step w0 s' ps' ex' I' eg => ?_
      · exact I4.call' (ch := fp) I'.os I'.base I'.hok I'.bare fun b hb => ⟨(f4 b hb).1.2.2.2.1, (f4 b hb).1.2.1, (f4 b hb).1.2.2.2.2.1, (f4 b hb).1.2.2.2.2.2⟩
      · have I2' : Inv (Cx.gblk X { s2 with heap := h3, toks := tk } H4 scope h3.objs.size code fp) ((h'.objs.size, go) :: ps') (wipe σ (own.map (·.2))) H4 s' := I'.pins_of fun q hq => I'.pin q (List.mem_append_right _ (List.mem_append_left _ hq))
        have pin' : ∀ b ∈ fp, ∀ o, (h'.push go).get? b = some o → s'.heap.get? b = some o := fun b hb o e => (I'.pin (b, o) (List.mem_append_right _ (List.mem_append_right _ (mem_pinsAt hb e)))).1
        have stn : tn 0 s'.heap := T.keep _ _ _ st5 fun b hb o e => pin' b hb o e
        have eg : s'.gens = G := eg
        rw [← eg] at hgi
        refine ⟨hgo _ (I'.pin (h'.objs.size, go) (List.mem_append_right _ (List.mem_append_left _ List.mem_cons_self))).1, I'.nolimit, _, hgi, rfl, ?_⟩
        refine gen_begin (Y := X) (fun B Q E q => T.self B 0 _ _ _ stn q) ?_
        exact gen_loop (Y := Cx.gblk X { s2 with heap := h3, toks := tk } H4 scope h3.objs.size code fp) (A := X.A.in1.in1.in1.in1) (σ := σ) (vs := own.map (·.2)) hc rfl T hY tY eY rfl over_gen (fun b hb => hb) gab
          (fun ys ps e q hq b hb z => by
            have l1 : (h'.push go).objs.size ≤ q.1 := hext ys ps e q hq
            have l2 := (f4 b hb).2
            rw [sz5, szh, z] at l1
            exact Nat.lt_irrefl _ (Nat.lt_of_lt_of_le l2 (Nat.le_of_succ_le (Nat.le_of_succ_le l1)))) ok.co (fun b hb => (f4 b hb).2) step m (m + 1) 0 [] H4 ps' _ _ (Nat.lt_succ_self m) w0 ex' (inv_setGen I2' rfl) stn fun b hb => (f4 b hb).1.1
    exact main _ _ _ _ (fun h e => ⟨_, _, _, e, rfl, rfl, rfl⟩) (Heap.get?_push_size _ rfl) (fun v z => by cases z) (AllBare.push I2.bare rfl) (Array.getElem?_push_size ..)
  cases hf : codeAmong gpos ps.toList with
  | none =>
    refine wpAny_genexprCodeX hcode (cd.code hPs trip) (cd.tab hPs) hf fun c' h' tk hx hge hlt hco' _ htab' _ => ?_
    obtain ⟨o1, vs, f1, tf, fl, tg, inF, tx, tt, op, _, _, _, _, _, _, _, _, _, htr, _⟩ := hco'
    exact go2 _ h' tk _ hx htab'.2 htr
  | some cv =>
    refine wpAny_genexprCode_hit hcode (cd.code hPs trip) hf ?_
    exact go2 cv s2.heap s2.toks #[] (Heap.ExtBut.refl _ _) (by rw [Array.append_empty]; exact hPs) (by rw [Array.append_empty]; exact trip)
/-- all(elt for tg in iter if ..) -/
def tAllE (P : Addr) (wi : TI) (g : TG) (tt : TT) (te : TE) (vs : List Nat) : TE := fun σ H Q => wi σ H fun J H1 => GxR.TabG H1 P ∧ ∀ H2, GxR.Tabbed P H1 H2 → ∃ W : Nat → Nat → Hp → Prop, (∃ m, W 0 m H2) ∧ ∀ i m H, W i m H →
  (J.stop i H ∧ Q (.bl true) H) ∨ (J.go i H ∧ ∃ Nx : Hp → Prop, (∀ H', Nx H' → ∃ m', m' < m ∧ W (i + 1) m' H') ∧ ∀ x H', J.yld i H x H' → g x (wipe σ vs) H' fun σ2 H3 => wipe σ2 vs = wipe σ vs ∧ tt σ2 H3 fun b H4 =>
    if b = true then te σ2 H4 fun y H5 => (∃ c : Bool, y = .bl c ∧ (c = false → Q (.bl false) H5)) ∧ (y = .bl true → Nx H5) else Nx H4)
theorem pe_allE {c P : Addr} {elt tg iter : Expr} {ifs : List Expr} {scope : Scope} {own : List (Str × Nat)} {p pos gpos : Pos} {wi : TI} {g : TG} {tt : TT} {te : TE} {k : Nat}
    (hr : Room (k + 1) X.A) (hgl : Gl X "all") (hm : X.mg "all" = none) (hb : bootBuiltins "all" = some (.builtin "all")) (hc : X.calm = true) (hN : X.N.Nodup) (TB : GxR.TabB X.base X.mg c P) (hcode : X.env.code = .ref c) (ok : GenOk X.N X.env.scope scope own) (hi : PI X tg iter wi)
    (hg : ∀ (s : Shared) (H : Hp) (C : Addr) (code : Value) (fp : List Addr), Room k (Cx.gblk X s H scope C code fp).A → PG (Cx.gblk X s H scope C code fp) tg g)
    (ht : ∀ (s : Shared) (H : Hp) (C : Addr) (code : Value) (fp : List Addr), Room k (Cx.gblk X s H scope C code fp).A → PTs (Cx.gblk X s H scope C code fp) ifs tt)
    (he : ∀ (s : Shared) (H : Hp) (C : Addr) (code : Value) (fp : List Addr), Room k (Cx.gblk X s H scope C code fp).A → PE (Cx.gblk X s H scope C code fp) elt te)
    (hs : ∀ x, genFold iter X.env x = pure x := by intro _; rfl)
    (hst : starEach [.GeneratorExp elt [⟨tg, iter, ifs, 0⟩] scope gpos] X.env = (false, eval (.GeneratorExp elt [⟨tg, iter, ifs, 0⟩] scope gpos) X.env) :: starEach [] X.env := by rfl) :
    PE X (.Call (.Name "all" p) [.GeneratorExp elt [⟨tg, iter, ifs, 0⟩] scope gpos] [] pos) (tAllE P wi g tt te (own.map (·.2))) := by
  constructor
  intro pins s σ H Q I h
  refine wpAny_Call_Name_kw (ld_blt I hgl hm hb (PyProof.Rows.callWith_builtin1 ?_ hst (by rfl)))
  rw [hst]
  show wpAny _ _ (spliced ((false, eval (.GeneratorExp elt [⟨tg, iter, ifs, 0⟩] scope gpos) X.env) :: backTo pos (starEach [] X.env))) _ _ s
  refine Calls.spliced_cons (gen_mk hr hc hN TB hcode ok hi hg ht he hs I h fun J H1 H4 Y s5 pf ga gi go r tb hpr hw hgo sz sl hpn I5 back goes => ?_)
  refine Calls.spliced_nil ?_
  obtain ⟨W, ⟨m, w0⟩, step⟩ := r H4 tb
  have hgen : s5.heap.IsGen ga gi := hgo _ (I5.pin (ga, go) (List.mem_append_right _ (List.mem_append_left _ List.mem_cons_self))).1
  have g0 := goes ⟨fun _ ps => ps = [], fun _ y H' => ∃ b : Bool, y = .bl b ∧ (b = false → Q (.bl false) H'), fun _ y _ => y = .bl true, fun _ H' => Q (.bl true) H'⟩ (fun _ i m H => W i m H) m (fun ys ps e q hq => by
      have e : ps = [] := e
      rw [e] at hq
      cases hq) (fun ys i m H w => (step i m H w).imp id fun ⟨a, Nx, hNx, b⟩ => ⟨a, fun _ H => Nx H, fun _ H' z => hNx H' z, fun x H' y => b x H' y⟩) w0 s5 [] rfl I5 rfl
  refine call_function_tree PySem.F.kind_all PySem.F.plain_all PySem.F.entry_all (PySem.F.args_all1 _) ?_
  unfold Builtin.«all»
  refine wpAny_bind (m := oneArg "all" _) (wpAny_pure ?_)
  refine wpAny_bind (wpAny_pyIter_gen hgen ?_)
  refine wpAny_pure ⟨plainId_quiet PySem.F.plain_all_loop _, all_loop (X := X) hr.hd (by have := hr.dp; omega) hpr hw hgo (fun _ => rfl) (fun _ _ e => e) (fun ys y H' (z : ∃ b : Bool, y = .bl b ∧ (b = false → Q (.bl false) H')) => ?_) (fun ys H' pf' σ' s' (z : ∃ b : Bool, V.bl false = .bl b ∧ (b = false → Q (.bl false) H')) I' => ?_) (fun ys H' σ' s' q I' => ?_) (m + 1) s5 g0⟩
  · obtain ⟨b, e, q⟩ := z
    exact ⟨b, e, fun z => by rw [e, z]⟩
  · obtain ⟨b, e, q⟩ := z
    cases e
    exact ⟨.bl false, H', back I', rfl, q rfl⟩
  · exact ⟨.bl true, H', back I', rfl, q⟩
end
/-- .. over what is walked as a Walk says -/
theorem ga_it {J : It} {n : Nat} {G : Hp → Prop} {Y : Nat → Hp → V → Hp → Prop} (w : Walk J n G Y) {g : TG} {tt : TT} {te : TE} {vs : List Nat} {σ : L2.St} {H2 : Hp} {Q : VK} (Pv : Nat → Hp → Prop) (h0 : Pv 0 H2) (hG : ∀ i H, i ≤ n → Pv i H → G H)
    (hs : ∀ i x H H', i < n → Pv i H → Y i H x H' → g x (wipe σ vs) H' fun σ2 H3 => wipe σ2 vs = wipe σ vs ∧ tt σ2 H3 fun b H4 => if b = true then te σ2 H4 fun y H5 => (∃ c : Bool, y = .bl c ∧ (c = false → Q (.bl false) H5)) ∧ (y = .bl true → Pv (i + 1) H5) else Pv (i + 1) H4) (hd : ∀ H, Pv n H → Q (.bl true) H) :
    ∃ W : Nat → Nat → Hp → Prop, (∃ m, W 0 m H2) ∧ ∀ i m H, W i m H →
      (J.stop i H ∧ Q (.bl true) H) ∨ (J.go i H ∧ ∃ Nx : Hp → Prop, (∀ H', Nx H' → ∃ m', m' < m ∧ W (i + 1) m' H') ∧ ∀ x H', J.yld i H x H' → g x (wipe σ vs) H' fun σ2 H3 => wipe σ2 vs = wipe σ vs ∧ tt σ2 H3 fun b H4 =>
        if b = true then te σ2 H4 fun y H5 => (∃ c : Bool, y = .bl c ∧ (c = false → Q (.bl false) H5)) ∧ (y = .bl true → Nx H5) else Nx H4) := by
  refine ⟨fun i m H => m = n - i ∧ i ≤ n ∧ Pv i H, ⟨n, by simp, Nat.zero_le _, h0⟩, ?_⟩
  rintro i m H ⟨rfl, hi, p⟩
  have q := hG i H hi p
  by_cases hlt : i < n
  · refine .inr ⟨w.goes i H hlt q, Pv (i + 1), fun H' p' => ⟨n - (i + 1), by omega, rfl, hlt, p'⟩, fun x H' y => hs i x H H' hlt p (w.yields i H x H' hlt q y)⟩
  · have e : i = n := by omega
    subst e
    exact .inl ⟨w.stops H q, hd H p⟩
/-! things whose text is short -/
mutual
def lvs (k : Nat) : PyData → Bool
  | .none | .bool _ => true
  | .int i => decide (i.natAbs < 10 ^ k)
  | .str x => x.cps.toList.all fun c => decide (c < 16 ^ 8)
  | .list xs | .tuple xs => lvsA k xs
  | .dict _ => false
def lvsA (k : Nat) : List PyData → Bool
  | [] => true
  | x :: xs => lvs k x && lvsA k xs
end
theorem log_sm {n k : Nat} (hk : k ≤ 400) (h : n < 10 ^ k) : n.log2 < 1920 := by
  by_cases z : n = 0
  · rw [z]
    decide
  · rw [Nat.log2_lt z]
    refine Nat.lt_of_lt_of_le h (Nat.le_trans (Nat.pow_le_pow_left (show 10 ≤ 2 ^ 4 by decide) k) ?_)
    rw [← Nat.pow_mul]
    exact Nat.pow_le_pow_right (by decide) (by omega)
theorem shown_k {i : Int} {k : Nat} (k0 : 0 < k) (h : i.natAbs < 10 ^ k) : (PyData.shown (.int i)).length ≤ k + 1 := by
  have e := int_text_length_le10 (k := k) k0 h
  show (Str.ofString (toString i)).length ≤ k + 1
  rw [PySem.ofString_length]
  exact e
mutual
theorem lvs_show {k : Nat} (k0 : 0 < k) (hk : k ≤ 400) : ∀ d : PyData, lvs k d = true → d.showable = true ∧ d.hasDict = false ∧ d.leavesShort (k + 1) = true
  | .none, _ => ⟨rfl, rfl, rfl⟩
  | .bool _, _ => ⟨rfl, rfl, rfl⟩
  | .int i, h => by
    have h1 : i.natAbs < 10 ^ k := by simpa only [lvs, decide_eq_true_eq] using h
    refine ⟨?_, rfl, ?_⟩
    · simp only [PyData.showable]
      exact decide_eq_true (log_sm hk h1)
    · simp only [PyData.leavesShort]
      exact decide_eq_true (shown_k k0 h1)
  | .str x, h => ⟨rfl, rfl, by simpa only [PyData.leavesShort, lvs] using h⟩
  | .list xs, h => by
    have := lvsA_show k0 hk xs (by simpa only [lvs] using h)
    simpa only [PyData.showable, PyData.hasDict, PyData.leavesShort] using this
  | .tuple xs, h => by
    have := lvsA_show k0 hk xs (by simpa only [lvs] using h)
    simpa only [PyData.showable, PyData.hasDict, PyData.leavesShort] using this
  | .dict _, h => by simp only [lvs] at h; exact nomatch h
theorem lvsA_show {k : Nat} (k0 : 0 < k) (hk : k ≤ 400) : ∀ xs : List PyData, lvsA k xs = true → PyData.showableAll xs = true ∧ PyData.hasDictAll xs = false ∧ PyData.leavesShortAll (k + 1) xs = true
  | [], _ => ⟨rfl, rfl, rfl⟩
  | x :: xs, h => by
    have h' : lvs k x = true ∧ lvsA k xs = true := by simpa only [lvsA, Bool.and_eq_true] using h
    obtain ⟨a1, a2, a3⟩ := lvs_show k0 hk x h'.1
    obtain ⟨b1, b2, b3⟩ := lvsA_show k0 hk xs h'.2
    simp only [PyData.showableAll, PyData.hasDictAll, PyData.leavesShortAll, a1, a2, a3, b1, b2, b3]
    exact ⟨rfl, rfl, rfl⟩
end
structure Sho (d : PyData) : Prop where
  s : d.showable = true
  n : d.hasDict = false
  dp : d.depth ≤ 60
  len : d.shown.length ≤ sizeLine
theorem sho_of {k : Nat} {d : PyData} (k0 : 7 ≤ k) (hk : k ≤ 400) (h : lvs k d = true) (dp : d.depth ≤ 60) (w : (k + 3) * d.weight ≤ 16000000) : Sho d := by
  obtain ⟨a, b, c⟩ := lvs_show (by omega) hk d h
  refine ⟨a, b, dp, ?_⟩
  have e : d.shown.length ≤ (k + 3) * d.weight + (k + 1) := PyData.shown_le (k + 1) (by omega) d c
  rw [sizeLine_eq]
  omega
theorem lvsA_of {k : Nat} : ∀ ds : List PyData, (∀ d, d ∈ ds → lvs k d = true) → lvsA k ds = true
  | [], _ => rfl
  | d :: ds, h => by
    simp only [lvsA, Bool.and_eq_true]
    exact ⟨h d List.mem_cons_self, lvsA_of ds fun x hx => h x (List.mem_cons_of_mem _ hx)⟩
theorem depA_of {n : Nat} : ∀ ds : List PyData, (∀ d, d ∈ ds → d.depth ≤ n) → PyData.depthAll ds ≤ n
  | [], _ => Nat.zero_le _
  | d :: ds, h => by
    have := h d List.mem_cons_self
    have := depA_of ds fun x hx => h x (List.mem_cons_of_mem _ hx)
    simp only [PyData.depthAll]
    omega
theorem weiA_of {n : Nat} : ∀ ds : List PyData, (∀ d, d ∈ ds → d.weight ≤ n) → PyData.weightAll ds ≤ ds.length * (n + 1)
  | [], _ => Nat.zero_le _
  | d :: ds, h => by
    have := h d List.mem_cons_self
    have := weiA_of ds fun x hx => h x (List.mem_cons_of_mem _ hx)
    simp only [PyData.weightAll, List.length_cons, Nat.add_mul, Nat.one_mul]
    omega
/-- short things: their leaves, depth and weight -/
structure Shs (k n w : Nat) (d : PyData) : Prop where
  l : lvs k d = true
  dp : d.depth ≤ n
  wt : d.weight ≤ w
theorem shs_all {k n w : Nat} {ds : List PyData} (h : ∀ d, d ∈ ds → Shs k n w d) : Shs k (n + 1) (ds.length * (w + 1)) (.list ds) ∧ Shs k (n + 1) (ds.length * (w + 1)) (.tuple ds) := by
  have a := lvsA_of ds fun d hd => (h d hd).l
  have b := depA_of ds fun d hd => (h d hd).dp
  have c := weiA_of ds fun d hd => (h d hd).wt
  refine ⟨⟨by simpa only [lvs] using a, ?_, by simpa only [PyData.weight] using c⟩, ⟨by simpa only [lvs] using a, ?_, by simpa only [PyData.weight] using c⟩⟩
  · simp only [PyData.depth]
    omega
  · simp only [PyData.depth]
    omega
theorem Shs.mono {k n m w v : Nat} {d : PyData} (h : Shs k n w d) (a : n ≤ m) (b : w ≤ v) : Shs k m v d := ⟨h.l, Nat.le_trans h.dp a, Nat.le_trans h.wt b⟩
theorem Shs.sho {k n w : Nat} {d : PyData} (h : Shs k n w d) (k0 : 7 ≤ k) (hk : k ≤ 400) (hn : n ≤ 60) (hw : (k + 3) * w ≤ 16000000) : Sho d := sho_of k0 hk h.l (Nat.le_trans h.dp hn) (Nat.le_trans (Nat.mul_le_mul_left _ h.wt) hw)
theorem shs_int {k : Nat} {i : Int} (h : i.natAbs < 10 ^ k) : Shs k 0 (4 * k + 1) (.int i) := by
  refine ⟨?_, ?_, ?_⟩
  · simp only [lvs]
    exact decide_eq_true h
  · simp only [PyData.depth]
    decide
  · simp only [PyData.weight]
    split
    · exact Nat.zero_le _
    · rename_i z
      have z1 : i.natAbs ≠ 0 := fun e => z (by rw [Int.natAbs_eq_zero.mp e]; rfl)
      have := (Nat.log2_lt (k := 4 * k) z1).mpr (Nat.lt_of_lt_of_le h (by
        rw [Nat.pow_mul]
        exact Nat.pow_le_pow_left (by decide) k))
      omega
theorem sho_ints {ns : List Int} (h : ∀ n, n ∈ ns → n.natAbs < 10 ^ 12) (l : ns.length ≤ 20000) : Sho (.list (ns.map .int)) ∧ Sho (.tuple (ns.map .int)) := by
  obtain ⟨a, b⟩ := shs_all (k := 12) (n := 0) (w := 49) (ds := ns.map .int) (fun d hd => by
    obtain ⟨n, hn, rfl⟩ := List.mem_map.mp hd
    exact shs_int (h n hn))
  rw [List.length_map] at a b
  exact ⟨a.sho (by decide) (by decide) (by decide) (by omega), b.sho (by decide) (by decide) (by decide) (by omega)⟩
theorem shs_str {k : Nat} {x : Str} (h : (x.cps.toList.all fun c => decide (c < 16 ^ 8)) = true) (w : x.cps.size ≤ 12) : Shs k 0 12 (.str x) := ⟨by simpa only [lvs] using h, by simp only [PyData.depth]; decide, by simpa only [PyData.weight] using w⟩
theorem shs_non {k : Nat} : Shs k 0 0 .none := ⟨rfl, by simp only [PyData.depth]; decide, by simp only [PyData.weight]; decide⟩
/-! a promise where no text of a thing is being made -/
structure GOk (P : Program) (w : World) (K : PySem.W.Frag) (mg : Str → Option Value) (base : Heap) (CX : CXT) (k : Nat) (f : Addr) (fd : FuncData) (ps : List Str) (sp : Sp) : Prop where
  len : ∀ vs H Q E, sp vs H Q E → vs.length = ps.length
  run : ∀ (A : Around) (outer : List Env) (s : Shared) (H : Hp) (args : Args) (us : List Value) (vs : List V) (Q : VK) (E : XK), A.guards = some [] → Room k A → Env0 P w K mg base A outer s H → BindsTo s fd args (ps.zip us) → Vals vs us → sp vs H Q E →
    codeAny (model P w) A (.call (.ref f) args) (CR CX outer P w H s Q E) s
theorem gok_of {CX : CXT} {P : Program} {w : World} {K : PySem.W.Frag} {mg : Str → Option Value} {base : Heap} {k : Nat} {x : Str} {st : Stmt} {f : Addr} {fd : FuncData} {N ps : List Str} {sp : Sp} (F : FnP K x st f fd) (S : FnScope N ps (defScope st)) (len : ∀ vs H Q E, sp vs H Q E → vs.length = ps.length)
    (hb : ∀ (cdv : Value) (A : Around) (outer : List Env) (s : Shared) (H : Hp) (vs : List V) (Q : VK) (E : XK), A.guards = some [] → Room k (A.deeper (envOfC x (defScope st) s.heap.objs.size f cdv)) → sp vs H Q E →
      ∃ t, PSs (cxOf CX P w K mg base N x (defScope st) f cdv A outer s H E) (defBody st) t ∧ t { nx := fun _ H' => Q .non H', rt := Q } (L2.start N vs) H) : GOk P w K mg base CX (k + 1) f fd ps sp := by
  obtain ⟨oc, od, dV, kV, doc, pm, an, cdv, ct, osl, rfl, lk, hcd, _, _⟩ := F.ex
  refine ⟨len, fun A outer s H args us vs Q E hg hr e0 bd rv hsp => ?_⟩
  have kept : ∀ b o, base.get? b = some o → s.heap.get? b = some o := fun b o e => (e0.bs b o e).1
  have KX : K.In s.heap := e0.mod.kin.keeps kept
  have kinds : ∀ y ∈ ps.zip us, (defScope st).names.lookup y.1 = some .local ∨ ((defScope st).names.lookup y.1 = some .cell ∧ ((cellsFrom (s.heap.objs.size + 1) (defScope st).names []).lookup y.1).isSome = true) := fun y hy =>
    (S.par y.1 (List.of_mem_zip (show (y.1, y.2) ∈ ps.zip us from hy)).1).imp id fun q => ⟨q, PySem.W.cellsFrom_some _ _ _ (.inl q)⟩
  refine codeAny_call_function hr.depth (KX _ _ lk) rfl S.co S.gen rfl (PySem.W.codeRec_of KX hcd) (bd _ _ _ _ (wpAny_newFunctionEnv_cells S.kind kinds fun env he s1 x1 => ?_))
  subst he
  refine ⟨(e0.mod.nolimit.keeps kept).keeps x1.toInCall.keep, codeAny_func ?_⟩
  obtain ⟨t, ht, hq⟩ := hb cdv A outer s H vs Q E hg (hr.deeper _) hsp
  have I := inv_start (CX := CX) (E := E) S hr.hd e0 (len _ _ _ _ hsp) rv x1
  refine wpAny_mono (ht.run [] s1 (L2.start N vs) H _ I hq) (fun fl s' hs => ?_) fun e s' hs => hs
  cases fl with
  | ret u =>
    obtain ⟨v, σ', H', J, r', q⟩ := hs
    exact ⟨v, H', J.os, J.bare, J.base, J.hok, r', q⟩
  | next =>
    obtain ⟨σ', H', J, q⟩ := hs
    exact ⟨V.non, H', J.os, J.bare, J.base, J.hok, rfl, q⟩
  | brk =>
    obtain ⟨_, _, _, q⟩ := hs
    exact q.elim
  | cont =>
    obtain ⟨_, _, _, q⟩ := hs
    exact q.elim
/-- the state ahead of the law's call: the script is tracked, or one of the module's own things -/
theorem env_ahead {P : Program} {w : World} {K : PySem.W.Frag} {mg mb : Str → Option Value} {a : Addr} {s : Shared} {vs : List Value} {ns : List Int} (KX : K.In s.heap) (hns : s.heap.Ns mainGlobals mg) (hb : s.heap.Ns builtinsNs mb)
    (hbb : ∀ x : Str, x ≠ "__name__" → mb x = bootBuiltins x) (hlim : s.heap.NoLimit) (hg : s.gens = #[]) (ha : s.heap.get? a = some { cls := .type "list", data := .seq vs.toArray }) (hi : IntsAre vs ns) (hl : ns.length ≤ sizeLine) :
    ∃ H : Hp, Only H ∧ SqL K H a (ns.map V.int) ∧ HOk P w H s.heap ∧ K.In (hidT s.heap H) ∧ (hidT s.heap H).Ns mainGlobals mg ∧ Env0 P w K mg (hidT s.heap H) callerA [] s H := by
  have rv := vals_ints hi
  have go : ∀ H : Hp, Only H → SqL K H a (ns.map V.int) → HOk P w H s.heap → (∀ b, H b ≠ none → b = a ∧ K.lookup a = none) → ∃ H : Hp, Only H ∧ SqL K H a (ns.map V.int) ∧ HOk P w H s.heap ∧ K.In (hidT s.heap H) ∧ (hidT s.heap H).Ns mainGlobals mg ∧ Env0 P w K mg (hidT s.heap H) callerA [] s H := fun H hO hS hok hA => by
    have free : ∀ {b : Addr}, (b = a → False) → H b = none := fun {b} nb => Classical.byContradiction fun z => nb (hA b z).1
    have Kb : K.In (hidT s.heap H) := fun b o e => hidT_get (KX b o e) (Classical.byContradiction fun z => by
      obtain ⟨rfl, n⟩ := hA b z
      rw [n] at e
      cases e)
    have nsb : ∀ {b : Addr} {m : Str → Option Value}, s.heap.Ns b m → (hidT s.heap H).Ns b m := fun {b m} h => by
      obtain ⟨o, es, ep, e, d, r⟩ := h
      refine ⟨o, es, ep, hidT_get e (free fun z => ?_), d, r⟩
      rw [z, ha] at e
      cases e
      cases d
    refine ⟨H, hO, hS, hok, Kb, nsb hns, rfl, ⟨Kb, nsb hns, ⟨mb, nsb hb, hbb⟩, ?_⟩, fun b o e => of_hidT e, Nat.le_of_eq (hidT_size _ _), trivial, fun b z => (by cases z), hok, .of_eq hg⟩
    obtain ⟨mc, h1, h2⟩ := hlim
    exact ⟨mc, nsb h1, h2⟩
  cases hk : K.lookup a with
  | some o =>
    have e := KX a o hk
    rw [ha] at e
    cases e
    exact go (fun _ => none) (fun _ => .inl rfl) (.inr ⟨_, vs.toArray, _, hk, rfl, rfl, rfl, by rw [List.size_toArray, hi.length]; exact hl, by simpa using rv⟩) (fun b u z => by cases z) (fun b z => absurd rfl z)
  | none =>
    refine go (fun b => if b = a then some (.frz { cls := .type "list", data := .seq vs.toArray } (.lst (ns.map V.int))) else none) (fun b => ?_) (.inl (.inr ⟨_, if_pos rfl⟩)) (fun b u z => ?_) (fun b z => ?_)
    · by_cases e : b = a
      · exact .inr ⟨_, _, if_pos e⟩
      · exact .inl (if_neg e)
    · by_cases e : b = a
      · cases (if_pos e).symm.trans z
        subst e
        exact ⟨ha, by rw [List.length_map]; exact hl, vs, _, rv, ha⟩
      · cases (if_neg e).symm.trans z
    · by_cases e : b = a
      · exact ⟨e, hk⟩
      · exact absurd (if_neg e) z
theorem walk_ofG {l : PySem.W.OpenLaw} {n k : Nat} {q : Program} {loose : List Str} {XP : (Str → Option Value) → Heap → Prop} {YP : World → Heap → Prop} {d : DefRec} {x : Str}
    (hn : l.most = some n) (hn2 : n ≤ sizeLine) (hdf : d.params.defaults = []) (hr : Room k callerA)
    (F : ∀ (w : World) (mg : Str → Option Value) (fa : Addr) (h : Heap), YP w h → h.Ns mainGlobals mg → mg d.name = some (.ref fa) →
      ∃ (K : PySem.W.Frag) (fd : FuncData) (sp : Sp), K.In h ∧ (∀ (s : Shared) (u : Value), BindsTo s fd ⟨[u], []⟩ [(x, u)]) ∧
        (∀ (H : Hp) (a : Addr) (ns : List Int), ns.length ≤ n → Only H → SqL K H a (ns.map V.int) → sp [.ref a] H (fun v _ => v = .bl true) fun _ _ _ => False) ∧
        ∀ base : Heap, K.In base → base.Ns mainGlobals mg → GOk l.prog w K mg base CX0 k fa fd [x] sp) :
    PySem.W.WalkO q loose XP YP l.row.toRowW d [] (fun f vs => PySem.call f vs) := by
  refine Att.attach_call hn hdf fun w s₀ s₁ mg mb fa o pm cd doc a vs ns G Y ho hd hcd hmg hobj hints hlen hg => ?_
  obtain ⟨K, fd, sp, KX, hbd, hsp, hF⟩ := F w mg fa _ Y G.T.g hmg
  obtain ⟨H, hO, hS, hok, Kb, nb, e0⟩ := env_ahead (P := l.prog) (w := w) KX G.T.g G.T.b G.T.builtins G.T.nolimit hg hobj hints (Nat.le_trans hlen hn2)
  refine codeAny_mono ((hF _ Kb nb).run callerA [] s₁ H ⟨[.ref a], []⟩ [.ref a] [.ref a] _ _ rfl hr e0 (hbd s₁ (.ref a)) (.cons rfl .nil) (hsp H a ns hlen hO hS)) fun r s' h => ?_
  match r, h with
  | .ok (.ret u), h =>
    obtain ⟨v, H', os, bare, un, hok', r', q⟩ := h
    have q : v = .bl true := q
    subst q
    obtain rfl : u = Value.bool true := r'
    refine ⟨rfl, OldK.of_keep fun b o e => ?_, os, bare⟩
    rcases hO b with z | ⟨ob, xs, z⟩
    · exact un.keep b o e z (by intro y; cases y) (by simp)
    · obtain ⟨e1, _⟩ := hok b _ z
      obtain ⟨e2, _⟩ := hok' b _ (un.frzs b ob _ z)
      rw [e] at e1
      cases e1
      exact e2
  | .ok .next, h => exact False.elim h
  | .ok .brk, h => exact False.elim h
  | .ok .cont, h => exact False.elim h
  | .error e, h => exact False.elim h
/-- repr(x) of a list or tuple -/
def rRepr (K : PySem.W.Frag) : List V → Hp → VK → Prop := fun xs H Q => ∃ a d, xs = [.ref a] ∧ Dp K H (.ref a) d ∧ Sho d ∧ Q (.str d.shown) H
theorem cr_repr {X : Cx} (hg : X.A.guards = some []) (hu : X.A.units + 65 < cLine) : CallR X (.builtin "repr") (rRepr X.K) := by
  intro pins s σ H vs us Q I r h
  obtain ⟨a, d, rfl, hd, ⟨sh, nd, dd, sz⟩, q⟩ := h
  rw [Vals.ref1 r]
  obtain ⟨as, rd⟩ := Dp.reads I d (.ref a) (.ref a) hd rfl
  refine repr_of_reads' rd sh (fun z => by rw [nd] at z; cases z) hg (by omega) (fun _ _ e => e) (fun h' u tk hk => ?_) sz
  exact ⟨.str d.shown, H, I.kept (t' := tk) hk, ⟨_, rfl⟩, q⟩
theorem u65g {k : Nat} {A : Around} (r : Room k A) : A.units + 65 < cLine := by
  have := r.un
  omega
/-! the state ahead of the law's call, with the tables of code objects -/
def ahT (K : PySem.W.Frag) (a : Addr) (ts : List Addr) (o : Obj) (xs : List V) : Hp := fun b => if b = a then (if (K.lookup a).isSome = true then none else some (.frz o (.lst xs))) else if b ∈ ts then some (.tbl #[]) else none
theorem ahT_tab {K : PySem.W.Frag} {a : Addr} {ts : List Addr} {o : Obj} {xs : List V} (na : ¬ a ∈ ts) {b : Addr} (hb : b ∈ ts) : ahT K a ts o xs b = some (.tbl #[]) := by
  unfold ahT
  rw [if_neg (fun z : b = a => na (z ▸ hb)), if_pos hb]
theorem ahT_any {K : PySem.W.Frag} {a : Addr} {ts : List Addr} {o : Obj} {xs : List V} {b : Addr} {u : HO} (h : ahT K a ts o xs b = some u) : (b = a ∧ K.lookup a = none ∧ u = .frz o (.lst xs)) ∨ (b ∈ ts ∧ u = .tbl #[]) := by
  unfold ahT at h
  by_cases e : b = a
  · rw [if_pos e] at h
    cases k : K.lookup a with
    | none =>
      rw [k, if_neg (fun z => by cases z)] at h
      exact .inl ⟨e, rfl, (Option.some.inj h).symm⟩
    | some y =>
      rw [k] at h
      simp at h
  · rw [if_neg e] at h
    by_cases z : b ∈ ts
    · rw [if_pos z] at h
      exact .inr ⟨z, (Option.some.inj h).symm⟩
    · rw [if_neg z] at h
      cases h
/-- a code object, its table, and where they stand -/
structure TbAt (K : PySem.W.Frag) (h : Heap) (q : Addr × Addr) : Prop where
  ob : h.get? q.2 = some { cls := .none, data := .fields #[] }
  nk : K.lookup q.2 = none
  hd : PySem.W.CodeHd h q.1 q.2
theorem env_aheadT {P : Program} {w : World} {K : PySem.W.Frag} {mg mb : Str → Option Value} {a : Addr} {cs : List (Addr × Addr)} {s : Shared} {vs : List Value} {ns : List Int} (KX : K.In s.heap) (gl : s.heap.Ns mainGlobals mg) (bl : s.heap.Ns builtinsNs mb)
    (bb : ∀ x : Str, x ≠ "__name__" → mb x = bootBuiltins x) (nl : s.heap.NoLimit) (hg : s.gens = #[]) (tb : ∀ q, q ∈ cs → TbAt K s.heap q)
    (bm : ∃ (m : Addr) (om : Obj), mg "__builtins__" = some (.ref m) ∧ m ≠ builtinsNs ∧ s.heap.get? m = some om ∧ om.cls = .type "module" ∧ om.dict = some builtinsNs ∧ om.data = .plain)
    (ha : s.heap.get? a = some { cls := .type "list", data := .seq vs.toArray }) (hi : IntsAre vs ns) (hl : ns.length ≤ sizeLine) :
    ∃ H : Hp, (∀ q, q ∈ cs → H q.2 = some (.tbl #[])) ∧ (∀ b u, H b = some u → (∃ o xs, u = .frz o (.lst xs)) ∨ b ∈ cs.map Prod.snd) ∧ SqL K H a (ns.map V.int) ∧ HOk P w H s.heap ∧ K.In (hidT s.heap H) ∧ (hidT s.heap H).Ns mainGlobals mg ∧ (∀ q, q ∈ cs → GxR.TabB (hidT s.heap H) mg q.1 q.2) ∧ Env0 P w K mg (hidT s.heap H) callerA [] s H := by
  have tin : ∀ b, b ∈ cs.map Prod.snd → ∃ q, q ∈ cs ∧ q.2 = b := fun b h => List.mem_map.mp h
  have tob : ∀ b, b ∈ cs.map Prod.snd → s.heap.get? b = some { cls := .none, data := .fields #[] } := fun b h => by
    obtain ⟨q, hq, rfl⟩ := tin b h
    exact (tb q hq).ob
  have na : ¬ a ∈ cs.map Prod.snd := fun z => by
    have y := (tob a z).symm.trans ha
    cases y
  obtain ⟨H, eH⟩ : ∃ H : Hp, H = ahT K a (cs.map Prod.snd) { cls := .type "list", data := .seq vs.toArray } (ns.map V.int) := ⟨_, rfl⟩
  have any : ∀ {b u}, H b = some u → (b = a ∧ K.lookup a = none ∧ u = .frz { cls := .type "list", data := .seq vs.toArray } (.lst (ns.map V.int))) ∨ (b ∈ cs.map Prod.snd ∧ u = .tbl #[]) := fun {b u} h => ahT_any (by rw [← eH]; exact h)
  have ta : ∀ q, q ∈ cs → H q.2 = some (.tbl #[]) := fun q hq => by
    rw [eH]
    exact ahT_tab na (List.mem_map.mpr ⟨q, hq, rfl⟩)
  have hS : SqL K H a (ns.map V.int) := by
    cases k : K.lookup a with
    | none =>
      refine .inl (.inr ⟨{ cls := .type "list", data := .seq vs.toArray }, ?_⟩)
      rw [eH]
      unfold ahT
      rw [if_pos rfl, k]
      rfl
    | some o =>
      have e := KX a o k
      rw [ha] at e
      cases e
      exact .inr ⟨_, vs.toArray, _, k, rfl, rfl, rfl, by rw [List.size_toArray, hi.length]; exact hl, by simpa using vals_ints hi⟩
  -- what is neither a sequence nor a table stands untouched
  have free : ∀ {b : Addr} {o : Obj}, s.heap.get? b = some o → (∀ ys n, o.data ≠ .seq ys n) → o.data ≠ .fields #[] → H b = none := fun {b o} e n1 n2 => by
    cases k : H b with
    | none => rfl
    | some u =>
      rcases any k with ⟨rfl, _⟩ | ⟨z, _⟩
      · rw [ha] at e
        cases e
        exact absurd rfl (n1 _ _)
      · rw [tob b z] at e
        cases e
        exact absurd rfl n2
  have nsb : ∀ {b : Addr} {m : Str → Option Value}, s.heap.Ns b m → (hidT s.heap H).Ns b m := fun {b m} h => by
    obtain ⟨o, es, ep, e, d, r⟩ := h
    exact ⟨o, es, ep, hidT_get e (free e (fun ys n z => by rw [d] at z; cases z) (fun z => by rw [d] at z; cases z)), d, r⟩
  have Kb : K.In (hidT s.heap H) := fun b o e => hidT_get (KX b o e) (by
    cases k : H b with
    | none => rfl
    | some u =>
      rcases any k with ⟨rfl, n, _⟩ | ⟨z, _⟩
      · rw [n] at e
        cases e
      · obtain ⟨q, hq, rfl⟩ := tin b z
        rw [(tb q hq).nk] at e
        cases e)
  have hok : HOk P w H s.heap := fun b u z => by
    rcases any z with ⟨rfl, _, rfl⟩ | ⟨y, rfl⟩
    · exact ⟨ha, by rw [List.length_map]; exact hl, vs, _, vals_ints hi, ha⟩
    · exact tob b y
  refine ⟨H, ta, fun b u z => ?_, hS, hok, Kb, nsb gl, fun q hq => ⟨?_, ?_, fun z => ?_⟩, rfl, ⟨Kb, nsb gl, ⟨mb, nsb bl, bb⟩, ?_⟩, fun b o e => of_hidT e, Nat.le_of_eq (hidT_size _ _), trivial, fun b z => (by cases z), hok, .of_eq hg⟩
  · rcases any z with ⟨_, _, rfl⟩ | ⟨y, _⟩
    · exact .inl ⟨_, _, rfl⟩
    · exact .inr y
  · obtain ⟨o, us, fl, tf, gs, tg, iF, tx, tt, e1, r1, r2, r3, rest⟩ := (tb q hq).hd
    refine ⟨o, us, fl, tf, gs, tg, iF, tx, tt, hidT_get e1 (free e1 (fun ys n z => by rw [r2] at z; cases z) (fun z => ?_)), r1, r2, r3, rest⟩
    rw [r2] at z
    cases z
    simp at r3
  · obtain ⟨m, om, b1, b2, b3, b4, b5, b6⟩ := bm
    refine ⟨m, om, b1, b2, fun z => ?_, fun z => ?_, hidT_get b3 (free b3 (fun ys n z => by rw [b6] at z; cases z) (fun z => by rw [b6] at z; cases z)), b4, b5, b6⟩
    · obtain ⟨o, es, ep, e, d, _⟩ := gl
      rw [z, e] at b3
      cases b3
      rw [d] at b6
      cases b6
    · have y := (tb q hq).ob
      rw [← z, b3] at y
      cases y
      cases b6
  · obtain ⟨o, es, ep, e, d, _⟩ := gl
    rw [z, (tb q hq).ob] at e
    cases e
    cases d
  · obtain ⟨mc, h1, h2⟩ := nl
    exact ⟨mc, nsb h1, h2⟩
theorem walk_ofGT {l : PySem.W.OpenLaw} {n k : Nat} {q : Program} {loose : List Str} {XP : (Str → Option Value) → Heap → Prop} {YP : World → Heap → Prop} {d : DefRec} {x : Str}
    (hn : l.most = some n) (hn2 : n ≤ sizeLine) (hdf : d.params.defaults = []) (hr : Room k callerA)
    (F : ∀ (w : World) (mg : Str → Option Value) (fa : Addr) (h : Heap), YP w h → h.Ns mainGlobals mg → mg d.name = some (.ref fa) →
      ∃ (K : PySem.W.Frag) (fd : FuncData) (cs : List (Addr × Addr)) (sp : Sp), K.In h ∧ (∀ q, q ∈ cs → TbAt K h q) ∧ (∀ (s : Shared) (u : Value), BindsTo s fd ⟨[u], []⟩ [(x, u)]) ∧
        (∀ (H : Hp) (a : Addr) (ns : List Int), ns.length ≤ n → (∀ q, q ∈ cs → H q.2 = some (.tbl #[])) → SqL K H a (ns.map V.int) → sp [.ref a] H (fun v _ => v = .bl true) fun _ _ _ => False) ∧
        ∀ base : Heap, K.In base → base.Ns mainGlobals mg → (∀ q, q ∈ cs → GxR.TabB base mg q.1 q.2) → GOk l.prog w K mg base CX0 k fa fd [x] sp) :
    PySem.W.WalkO q loose XP YP l.row.toRowW d [] (fun f vs => PySem.call f vs) := by
  refine Att.attach_call hn hdf fun w s₀ s₁ mg mb fa o pm cd doc a vs ns G Y ho hd hcd hmg hobj hints hlen hg => ?_
  obtain ⟨K, fd, cs, sp, KX, tb, hbd, hsp, hF⟩ := F w mg fa _ Y G.T.g hmg
  obtain ⟨H, ta, hO, hS, hok, Kb, nb, TB, e0⟩ := env_aheadT (P := l.prog) (w := w) KX G.T.g G.T.b G.T.builtins G.T.nolimit hg tb G.T.bmain hobj hints (Nat.le_trans hlen hn2)
  refine codeAny_mono ((hF _ Kb nb TB).run callerA [] s₁ H ⟨[.ref a], []⟩ [.ref a] [.ref a] _ _ rfl hr e0 (hbd s₁ (.ref a)) (.cons rfl .nil) (hsp H a ns hlen ta hS)) fun r s' h => ?_
  match r, h with
  | .ok (.ret u), h =>
    obtain ⟨v, H', os, bare, un, hok', r', q⟩ := h
    have q : v = .bl true := q
    subst q
    obtain rfl : u = Value.bool true := r'
    have grow : ∀ t, t ∈ cs → ∃ more : Array Value, s'.heap.get? t.2 = some { cls := .none, data := .fields more } := fun t ht => by
      obtain ⟨more, z⟩ := un.tbls _ _ (ta t ht)
      exact ⟨_, hok' _ _ z⟩
    have stay : ∀ b o, ¬ b ∈ cs.map Prod.snd → s₁.heap.get? b = some o → s'.heap.get? b = some o := fun b o nb e => by
      cases k : H b with
      | none => exact un.keep b o e k (by intro y; cases y) (by simp)
      | some u =>
        rcases hO b u k with ⟨ob, xs, rfl⟩ | z
        · obtain ⟨e1, _⟩ := hok b _ k
          obtain ⟨e2, _⟩ := hok' b _ (un.frzs b ob _ k)
          rw [e] at e1
          cases e1
          exact e2
        · exact absurd z nb
    refine ⟨rfl, ⟨fun b o e => ?_, fun b o e => ?_⟩, os, bare⟩
    · by_cases z : b ∈ cs.map Prod.snd
      · obtain ⟨t, ht, rfl⟩ := List.mem_map.mp z
        obtain ⟨more, gm⟩ := grow t ht
        have y := (tb t ht).ob
        rw [e] at y
        cases y
        exact .inr (.inl ⟨((tb t ht).hd.tab (tb t ht).ob).isCodeTable, rfl, #[], more, rfl, by rw [Array.empty_append]; exact gm⟩)
      · exact .inl (stay b o z e)
    · by_cases z : b ∈ cs.map Prod.snd
      · obtain ⟨t, ht, rfl⟩ := List.mem_map.mp z
        obtain ⟨more, gm⟩ := grow t ht
        exact ⟨_, gm⟩
      · exact ⟨o, stay b o z e⟩
  | .ok .next, h => exact False.elim h
  | .ok .brk, h => exact False.elim h
  | .ok .cont, h => exact False.elim h
  | .error e, h => exact False.elim h
/-! things that are small enough -/
mutual
def gd (k : Nat) : PyData → Bool
  | .none | .bool _ => true
  | .int i => decide (i.natAbs < 10 ^ k)
  | .str x => PyData.strOk x
  | .list xs | .tuple xs => gdA k xs
  | .dict _ => false
def gdA (k : Nat) : List PyData → Bool
  | [] => true
  | x :: xs => gd k x && gdA k xs
end
mutual
theorem gd_lvs {k : Nat} : ∀ d : PyData, gd k d = true → lvs k d = true ∧ d.canLay0 = true
  | .none, _ => ⟨rfl, rfl⟩
  | .bool b, _ => ⟨rfl, rfl⟩
  | .int i, h => ⟨by simpa only [lvs, gd] using h, rfl⟩
  | .str x, h => by
    have h1 : PyData.strOk x = true := by simpa only [gd] using h
    refine ⟨?_, by simpa only [PyData.canLay0] using h1⟩
    simp only [lvs, List.all_eq_true, decide_eq_true_eq]
    intro c hc
    unfold PyData.strOk at h1
    have := Array.all_eq_true_iff_forall_mem.mp h1 c (Array.mem_toList_iff.mp hc)
    have : c < 0x110000 := by simpa using this
    exact Nat.lt_trans this (by decide)
  | .list xs, h => by
    have := gdA_lvs xs (by simpa only [gd] using h)
    simpa only [lvs, PyData.canLay0] using this
  | .tuple xs, h => by
    have := gdA_lvs xs (by simpa only [gd] using h)
    simpa only [lvs, PyData.canLay0] using this
  | .dict _, h => by simp only [gd] at h; exact nomatch h
theorem gdA_lvs {k : Nat} : ∀ xs : List PyData, gdA k xs = true → lvsA k xs = true ∧ PyData.canLayAll0 xs = true
  | [], _ => ⟨rfl, rfl⟩
  | x :: xs, h => by
    have h' : gd k x = true ∧ gdA k xs = true := by simpa only [gdA, Bool.and_eq_true] using h
    have a := gd_lvs x h'.1
    have b := gdA_lvs xs h'.2
    simp only [lvsA, PyData.canLayAll0, a.1, a.2, b.1, b.2]
    exact ⟨rfl, rfl⟩
end
theorem gdA_all {k : Nat} : ∀ {xs : List PyData}, gdA k xs = true ↔ ∀ x, x ∈ xs → gd k x = true
  | [] => ⟨fun _ x hx => (by cases hx), fun _ => rfl⟩
  | x :: xs => by
    simp only [gdA, Bool.and_eq_true, gdA_all (xs := xs)]
    exact ⟨fun h y hy => by
      rcases List.mem_cons.mp hy with rfl | hy
      · exact h.1
      · exact h.2 y hy, fun h => ⟨h x List.mem_cons_self, fun y hy => h y (List.mem_cons_of_mem _ hy)⟩⟩
mutual
theorem gd_mono {k m : Nat} (h : k ≤ m) : ∀ d : PyData, gd k d = true → gd m d = true
  | .none, _ => rfl
  | .bool b, _ => rfl
  | .int i, g => by
    simp only [gd, decide_eq_true_eq] at g ⊢
    exact Nat.lt_of_lt_of_le g (Nat.pow_le_pow_right (by decide) h)
  | .str x, g => by simpa only [gd] using g
  | .list xs, g => by
    have := gdA_mono h xs (by simpa only [gd] using g)
    simpa only [gd] using this
  | .tuple xs, g => by
    have := gdA_mono h xs (by simpa only [gd] using g)
    simpa only [gd] using this
  | .dict _, g => by simp only [gd] at g; exact nomatch g
theorem gdA_mono {k m : Nat} (h : k ≤ m) : ∀ xs : List PyData, gdA k xs = true → gdA m xs = true
  | [], _ => rfl
  | x :: xs, g => by
    have h' : gd k x = true ∧ gdA k xs = true := by simpa only [gdA, Bool.and_eq_true] using g
    simp only [gdA, gd_mono h x h'.1, gdA_mono h xs h'.2]
    rfl
end
structure Bd (k n w : Nat) (d : PyData) : Prop where
  g : gd k d = true
  dp : d.depth ≤ n
  wt : d.weight ≤ w
theorem Bd.mono {k n w m v j : Nat} {d : PyData} (h : Bd k n w d) (c : k ≤ j) (a : n ≤ m) (b : w ≤ v) : Bd j m v d := ⟨gd_mono c d h.g, Nat.le_trans h.dp a, Nat.le_trans h.wt b⟩
theorem Bd.shs {k n w : Nat} {d : PyData} (h : Bd k n w d) : Shs k n w d := ⟨(gd_lvs d h.g).1, h.dp, h.wt⟩
theorem Bd.shaped {k n w : Nat} {d : PyData} (h : Bd k n w d) (hn : n ≤ 64) : SeqAt.shaped d = true := by
  unfold SeqAt.shaped
  rw [(gd_lvs d h.g).2, decide_eq_true (Nat.le_trans h.dp hn)]
  rfl
theorem depA_mem {n : Nat} : ∀ {ds : List PyData} {d : PyData}, d ∈ ds → PyData.depthAll ds ≤ n → d.depth ≤ n
  | x :: xs, d, hd, h => by
    simp only [PyData.depthAll] at h
    rcases List.mem_cons.mp hd with rfl | hd
    · omega
    · exact depA_mem hd (by omega)
theorem weiA_mem : ∀ {ds : List PyData} {d : PyData}, d ∈ ds → d.weight + 1 ≤ PyData.weightAll ds
  | x :: xs, d, hd => by
    simp only [PyData.weightAll]
    rcases List.mem_cons.mp hd with rfl | hd
    · omega
    · have := weiA_mem hd
      omega
/-- the items of a list or tuple that is small enough -/
structure BdA (k n w : Nat) (ds : List PyData) : Prop where
  g : gdA k ds = true
  dp : PyData.depthAll ds ≤ n
  wt : PyData.weightAll ds ≤ w
theorem BdA.get {k n w : Nat} {ds : List PyData} (h : BdA k n w ds) {d : PyData} (hd : d ∈ ds) : Bd k n w d := ⟨gdA_all.mp h.g d hd, depA_mem hd h.dp, by have := weiA_mem hd; have := h.wt; omega⟩
theorem BdA.tup {k n w : Nat} {ds : List PyData} (h : BdA k n w ds) : Bd k (n + 1) w (.tuple ds) := ⟨by simpa only [gd] using h.g, by have := h.dp; simp only [PyData.depth]; omega, by simpa only [PyData.weight] using h.wt⟩
theorem BdA.lst {k n w : Nat} {ds : List PyData} (h : BdA k n w ds) : Bd k (n + 1) w (.list ds) := ⟨by simpa only [gd] using h.g, by have := h.dp; simp only [PyData.depth]; omega, by simpa only [PyData.weight] using h.wt⟩
theorem Bd.itemsT {k n w : Nat} {ds : List PyData} (h : Bd k n w (.tuple ds)) : 1 ≤ n ∧ BdA k (n - 1) w ds := by
  have := h.dp
  simp only [PyData.depth] at this
  exact ⟨by omega, ⟨by simpa only [gd] using h.g, by omega, by simpa only [PyData.weight] using h.wt⟩⟩
theorem Bd.itemsL {k n w : Nat} {ds : List PyData} (h : Bd k n w (.list ds)) : 1 ≤ n ∧ BdA k (n - 1) w ds := by
  have := h.dp
  simp only [PyData.depth] at this
  exact ⟨by omega, ⟨by simpa only [gd] using h.g, by omega, by simpa only [PyData.weight] using h.wt⟩⟩
theorem weiA_app : ∀ (xs ys : List PyData), PyData.weightAll (xs ++ ys) = PyData.weightAll xs + PyData.weightAll ys
  | [], ys => by simp [PyData.weightAll]
  | x :: xs, ys => by
    simp only [List.cons_append, PyData.weightAll, weiA_app xs ys]
    omega
theorem depA_app : ∀ (xs ys : List PyData), PyData.depthAll (xs ++ ys) = max (PyData.depthAll xs) (PyData.depthAll ys)
  | [], ys => by simp [PyData.depthAll]
  | x :: xs, ys => by
    simp only [List.cons_append, PyData.depthAll, depA_app xs ys]
    omega
theorem BdA.app {k n w m v : Nat} {xs ys : List PyData} (h : BdA k n w xs) (g : BdA k m v ys) : BdA k (max n m) (w + v) (xs ++ ys) := by
  refine ⟨gdA_all.mpr fun x hx => ?_, ?_, ?_⟩
  · rcases List.mem_append.mp hx with hx | hx
    · exact gdA_all.mp h.g x hx
    · exact gdA_all.mp g.g x hx
  · have := h.dp
    have := g.dp
    rw [depA_app]
    omega
  · have := h.wt
    have := g.wt
    rw [weiA_app]
    omega
theorem BdA.one {k n w : Nat} {x : PyData} (h : Bd k n w x) : BdA k n (w + 1) [x] := ⟨by simp only [gdA, h.g]; rfl, by have := h.dp; simp only [PyData.depthAll]; omega, by have := h.wt; simp only [PyData.weightAll]; omega⟩
/-- part of the items -/
theorem BdA.part {k n w : Nat} {xs ys zs : List PyData} (h : BdA k n w (xs ++ ys ++ zs)) : BdA k n (PyData.weightAll xs) xs ∧ BdA k n (PyData.weightAll ys) ys ∧ BdA k n (PyData.weightAll zs) zs ∧ PyData.weightAll xs + PyData.weightAll ys + PyData.weightAll zs ≤ w := by
  have a := h.dp
  have b := h.wt
  rw [depA_app, depA_app] at a
  rw [weiA_app, weiA_app] at b
  have c := gdA_all.mp h.g
  exact ⟨⟨gdA_all.mpr fun x hx => c x (List.mem_append_left _ (List.mem_append_left _ hx)), by omega, Nat.le_refl _⟩,
    ⟨gdA_all.mpr fun x hx => c x (List.mem_append_left _ (List.mem_append_right _ hx)), by omega, Nat.le_refl _⟩,
    ⟨gdA_all.mpr fun x hx => c x (List.mem_append_right _ hx), by omega, Nat.le_refl _⟩, b⟩
theorem BdA.mono {k n w m v j : Nat} {d : List PyData} (h : BdA k n w d) (c : k ≤ j) (a : n ≤ m) (b : w ≤ v) : BdA j m v d := ⟨gdA_mono c d h.g, Nat.le_trans h.dp a, Nat.le_trans h.wt b⟩
/-- repr(x) of any thing -/
def rReprX (K : PySem.W.Frag) : List V → Hp → VK → Prop := fun xs H Q => ∃ v d, xs = [v] ∧ Dp K H v d ∧ Sho d ∧ Q (.str d.shown) H
theorem cr_reprX {X : Cx} (hg : X.A.guards = some []) (hu : X.A.units + 65 < cLine) : CallR X (.builtin "repr") (rReprX X.K) := by
  intro pins s σ H vs us Q I r h
  obtain ⟨v, d, rfl, hd, sh, q⟩ := h
  cases hd with
  | non =>
    obtain ⟨u, rfl, r1⟩ := vals1 r
    cases r1
    exact PySem.P.repr_of_none ⟨.str _, H, I.tok _, ⟨_, rfl⟩, q⟩
  | bl b =>
    obtain ⟨u, rfl, r1⟩ := vals1 r
    cases r1
    exact PySem.P.repr_of_bool ⟨.str _, H, I.tok _, ⟨_, rfl⟩, by cases b <;> exact q⟩
  | int i =>
    obtain ⟨u, rfl, t, rfl⟩ := vals1 r
    have hs := sh.s
    simp only [PyData.showable] at hs
    exact PySem.P.repr_of_int (of_decide_eq_true hs) ⟨.str _, H, I.tok _, ⟨_, rfl⟩, q⟩
  | str z =>
    obtain ⟨u, rfl, t, rfl⟩ := vals1 r
    exact PySem.P.repr_of_str ⟨.str _, H, I.tok _, ⟨_, rfl⟩, q⟩ sh.len
  | lst h1 h2 => exact cr_repr hg hu pins s σ H _ us Q I r ⟨_, _, rfl, .lst h1 h2, sh, q⟩
  | tup h1 h2 => exact cr_repr hg hu pins s σ H _ us Q I r ⟨_, _, rfl, .tup h1 h2, sh, q⟩
/-! things, standing away from some lists -/
mutual
inductive Tg (p : Addr → Prop) (H : Hp) : V → PyData → Prop
  | non : Tg p H .non .none
  | bl (b : Bool) : Tg p H (.bl b) (.bool b)
  | int (i : Int) : Tg p H (.int i) (.int i)
  | str (x : Str) : Tg p H (.str x) (.str x)
  | lst {a : Addr} {xs : List V} {ds : List PyData} : ¬ p a → H a = some (.lst xs) → TgA p H xs ds → Tg p H (.ref a) (.list ds)
  | tup {a : Addr} {xs : List V} {ds : List PyData} : ¬ p a → H a = some (.tup xs) → TgA p H xs ds → Tg p H (.ref a) (.tuple ds)
inductive TgA (p : Addr → Prop) (H : Hp) : List V → List PyData → Prop
  | nil : TgA p H [] []
  | cons {v : V} {vs : List V} {d : PyData} {ds : List PyData} : Tg p H v d → TgA p H vs ds → TgA p H (v :: vs) (d :: ds)
end
mutual
theorem Tg.to {p q : Addr → Prop} {H H' : Hp} (s : ∀ a o, ¬ p a → H a = some o → H' a = some o ∧ ¬ q a) : ∀ (d : PyData) (v : V), Tg p H v d → Tg q H' v d
  | .none, _, h => by cases h; exact .non
  | .bool b, _, h => by cases h; exact .bl b
  | .int i, _, h => by cases h; exact .int i
  | .str x, _, h => by cases h; exact .str x
  | .list ds, _, h => by
    cases h with
    | lst n e t => exact .lst (s _ _ n e).2 (s _ _ n e).1 (TgA.to s ds _ t)
  | .tuple ds, _, h => by
    cases h with
    | tup n e t => exact .tup (s _ _ n e).2 (s _ _ n e).1 (TgA.to s ds _ t)
  | .dict _, _, h => by cases h
theorem TgA.to {p q : Addr → Prop} {H H' : Hp} (s : ∀ a o, ¬ p a → H a = some o → H' a = some o ∧ ¬ q a) : ∀ (ds : List PyData) (vs : List V), TgA p H vs ds → TgA q H' vs ds
  | [], _, h => by cases h; exact .nil
  | d :: ds, _, h => by
    cases h with
    | cons a b => exact .cons (Tg.to s d _ a) (TgA.to s ds _ b)
end
theorem Tg.keep {p : Addr → Prop} {H H' : Hp} {v : V} {d : PyData} (h : Tg p H v d) (s : ∀ a o, ¬ p a → H a = some o → H' a = some o) : Tg p H' v d := h.to fun a o n e => ⟨s a o n e, n⟩
theorem TgA.keep {p : Addr → Prop} {H H' : Hp} {v : List V} {d : List PyData} (h : TgA p H v d) (s : ∀ a o, ¬ p a → H a = some o → H' a = some o) : TgA p H' v d := h.to fun a o n e => ⟨s a o n e, n⟩
theorem Tg.but {l : Addr} {H H' : Hp} {v : V} {d : PyData} (h : Tg (· = l) H v d) (s : But l H H') : Tg (· = l) H' v d := h.keep s
theorem Tg.same {p : Addr → Prop} {H H' : Hp} {v : V} {d : PyData} (h : Tg p H v d) (s : Same H H') : Tg p H' v d := h.keep fun a o _ e => s a o e
theorem TgA.same {p : Addr → Prop} {H H' : Hp} {v : List V} {d : List PyData} (h : TgA p H v d) (s : Same H H') : TgA p H' v d := h.keep fun a o _ e => s a o e
theorem TgA.but {l : Addr} {H H' : Hp} {v : List V} {d : List PyData} (h : TgA (· = l) H v d) (s : But l H H') : TgA (· = l) H' v d := h.keep s
/-- away from a list that is new -/
theorem Tg.new {p : Addr → Prop} {l : Addr} {H : Hp} {v : V} {d : PyData} {o : HO} (h : Tg p H v d) (n : H l = none) : Tg (· = l) (upd H l o) v d := h.to fun a x _ e => ⟨same_upd n a x e, ne_of_none e n⟩
mutual
theorem Tg.dp {K : PySem.W.Frag} {p : Addr → Prop} {H : Hp} : ∀ (d : PyData) (v : V), Tg p H v d → Dp K H v d
  | .none, _, h => by cases h; exact .non
  | .bool b, _, h => by cases h; exact .bl b
  | .int i, _, h => by cases h; exact .int i
  | .str x, _, h => by cases h; exact .str x
  | .list ds, _, h => by
    cases h with
    | lst n e t => exact .lst (SqL.mk e) (TgA.dp ds _ t)
  | .tuple ds, _, h => by
    cases h with
    | tup n e t => exact .tup (SqT.mk e) (TgA.dp ds _ t)
  | .dict _, _, h => by cases h
theorem TgA.dp {K : PySem.W.Frag} {p : Addr → Prop} {H : Hp} : ∀ (ds : List PyData) (vs : List V), TgA p H vs ds → DpAll K H vs ds
  | [], _, h => by cases h; exact .nil
  | d :: ds, _, h => by
    cases h with
    | cons a b => exact .cons (Tg.dp d _ a) (TgA.dp ds _ b)
end
theorem TgA.len {p : Addr → Prop} {H : Hp} : ∀ {ds : List PyData} {vs : List V}, TgA p H vs ds → vs.length = ds.length
  | [], _, h => by cases h; rfl
  | d :: ds, _, h => by
    cases h with
    | cons a b => rw [List.length_cons, List.length_cons, TgA.len b]
theorem TgA.get {p : Addr → Prop} {H : Hp} : ∀ {ds : List PyData} {vs : List V}, TgA p H vs ds → ∀ {i : Nat} {v : V}, vs[i]? = some v → ∃ d, ds[i]? = some d ∧ Tg p H v d
  | [], _, h, i, v, e => by cases h; cases e
  | d :: ds, _, h, i, v, e => by
    cases h with
    | cons a b =>
      cases i with
      | zero => cases e; exact ⟨d, rfl, a⟩
      | succ i => exact TgA.get b (by simpa using e)
theorem TgA.app {p : Addr → Prop} {H : Hp} {ds es : List PyData} {vs us : List V} (h : TgA p H vs ds) (g : TgA p H us es) : TgA p H (vs ++ us) (ds ++ es) := by
  induction ds generalizing vs with
  | nil => cases h; exact g
  | cons d ds ih =>
    cases h with
    | cons a b => exact .cons a (ih b)
theorem TgA.split {p : Addr → Prop} {H : Hp} : ∀ {ds : List PyData} {vs : List V}, TgA p H vs ds → ∀ i : Nat, TgA p H (vs.take i) (ds.take i) ∧ TgA p H (vs.drop i) (ds.drop i)
  | [], _, h, i => by cases h; simp only [List.take_nil, List.drop_nil]; exact ⟨.nil, .nil⟩
  | d :: ds, _, h, i => by
    cases h with
    | cons a b =>
      cases i with
      | zero => exact ⟨.nil, .cons a b⟩
      | succ i => exact ⟨.cons a (TgA.split b i).1, (TgA.split b i).2⟩
def isIntD : PyData → Bool
  | .int _ => true
  | _ => false
def isBlD : PyData → Bool
  | .bool _ => true
  | _ => false
def isStrD : PyData → Bool
  | .str _ => true
  | _ => false
def isTupD : PyData → Bool
  | .tuple _ => true
  | _ => false
def isLstD : PyData → Bool
  | .list _ => true
  | _ => false
theorem kit2 {K : PySem.W.Frag} {t : String} {a b : Bool} (h1 : kitB t "tuple" = some a) (h2 : kitB t "list" = some b) : PySem.W.kitAny K (.type t) [.type "tuple", .type "list"] = some (a || b) :=
  kitAny_cons (kit_ty h1) (fun e => by subst e; exact kitAny_cons (r := b) (kit_ty h2) (fun e => by subst e; exact kitAny_nil) (fun e => e)) (fun e => by rw [e]; rfl)
theorem Tg.ty {K : PySem.W.Frag} {p : Addr → Prop} {H : Hp} {v : V} {d : PyData} (h : Tg p H v d) : ∃ t, TyX K H v t ∧ PySem.W.kitOne K t (.type "int") = some (isIntD d || isBlD d) ∧ PySem.W.kitOne K t (.type "bool") = some (isBlD d) ∧ PySem.W.kitOne K t (.type "tuple") = some (isTupD d) ∧
    PySem.W.kitOne K t (.type "str") = some (isStrD d) ∧ PySem.W.kitAny K t [.type "tuple", .type "list"] = some (isTupD d || isLstD d) := by
  cases h with
  | non => exact ⟨_, .base .non, kit_ty (by show _ = some false; decide +kernel), kit_ty (by show _ = some false; decide +kernel), kit_ty (by show _ = some false; decide +kernel), kit_ty (by show _ = some false; decide +kernel), kit2 (a := false) (b := false) (by decide +kernel) (by decide +kernel)⟩
  | bl b => exact ⟨_, .base (.bl b), kit_ty (by show _ = some true; decide +kernel), kit_ty (by show _ = some true; decide +kernel), kit_ty (by show _ = some false; decide +kernel), kit_ty (by show _ = some false; decide +kernel), kit2 (a := false) (b := false) (by decide +kernel) (by decide +kernel)⟩
  | int b => exact ⟨_, .base (.int b), kit_ty (by show _ = some true; decide +kernel), kit_ty (by show _ = some false; decide +kernel), kit_ty (by show _ = some false; decide +kernel), kit_ty (by show _ = some false; decide +kernel), kit2 (a := false) (b := false) (by decide +kernel) (by decide +kernel)⟩
  | str b => exact ⟨_, .base (.str b), kit_ty (by show _ = some false; decide +kernel), kit_ty (by show _ = some false; decide +kernel), kit_ty (by show _ = some false; decide +kernel), kit_ty (by show _ = some true; decide +kernel), kit2 (a := false) (b := false) (by decide +kernel) (by decide +kernel)⟩
  | lst ne h => exact ⟨_, .base (.lst h), kit_ty (by show _ = some false; decide +kernel), kit_ty (by show _ = some false; decide +kernel), kit_ty (by show _ = some false; decide +kernel), kit_ty (by show _ = some false; decide +kernel), kit2 (a := false) (b := true) (by decide +kernel) (by decide +kernel)⟩
  | tup ne h => exact ⟨_, .base (.tup h), kit_ty (by show _ = some false; decide +kernel), kit_ty (by show _ = some false; decide +kernel), kit_ty (by show _ = some true; decide +kernel), kit_ty (by show _ = some false; decide +kernel), kit2 (a := true) (b := false) (by decide +kernel) (by decide +kernel)⟩
def sp_is_number (K : PySem.W.Frag) : Sp := fun vs H Q _ => ∃ (p : Addr → Prop) (x : V) (d : PyData), vs = [x] ∧ Tg p H x d ∧ Q (.bl (isIntD d)) H
theorem ok_is_number (T : Defs K mg) (TT : Tabs T base) : FnOk P w K mg base CX0 1 T.f_is_number T.fd_is_number ["thing"] (sp_is_number K) := by
  refine T.F_is_number.ok sc_is_number (fun vs H Q E h => ?_) (fun cdv A outer s H vs Q E hr h => ?_)
  · obtain ⟨p, x, d, rfl, hx, q⟩ := h
    rfl
  · obtain ⟨p, x, d, rfl, hx, q⟩ := h
    refine ⟨_, PSs.nox (pss_one (ps_ret (pe_and (pe_callB call_isi (by rfl) T.m_isinstance bt_isinstance (pa_cons (pv 0) (pa_cons (pe_bltn (v := .ty "int") (by rfl) T.m_int bt_int rfl) pa_nil))) (pe_one (pe_not (pe_callB call_isi (by rfl) T.m_isinstance bt_isinstance (pa_cons (pv 0) (pa_cons (pe_bltn (v := .ty "bool") (by rfl) T.m_bool bt_bool rfl) pa_nil)))))))), ?_⟩
    obtain ⟨t, ty, ki, kb, _⟩ := hx.ty (K := K)
    refine ⟨x, rfl, _, _, _, _, _, rfl, .ty "int", ty, ki, _, rfl, ?_⟩
    refine ite2 (fun e => ?_) (fun e => ?_)
    · refine ⟨x, rfl, _, _, _, _, _, rfl, .ty "bool", ty, kb, _, rfl, ?_⟩
      have ee : (!isBlD d) = isIntD d := by
        cases d <;> first | rfl | cases e
      rw [ee]
      exact q
    · have ee : isIntD d = false := by
        cases d <;> first | rfl | exact absurd rfl e
      rw [ee] at q
      exact q
def withinD (d : PyData) (lo hi : Int) : Bool := match d with
  | .int i => decide (lo ≤ i ∧ i ≤ hi)
  | _ => false
def sp_is_within (K : PySem.W.Frag) : Sp := fun vs H Q _ => ∃ (p : Addr → Prop) (x : V) (d : PyData) (lo hi : Int), vs = [x, .int lo, .int hi] ∧ Tg p H x d ∧ Q (.bl (withinD d lo hi)) H
theorem ok_is_within (T : Defs K mg) (TT : Tabs T base) : FnOk P w K mg base CX0 2 T.f_is_within T.fd_is_within ["thing", "least", "greatest"] (sp_is_within K) := by
  have G_is_number : FnOk P w K mg base CX0 1 T.f_is_number T.fd_is_number ["thing"] (sp_is_number K) := ok_is_number T TT
  refine T.F_is_within.ok sc_is_within (fun vs H Q E h => ?_) (fun cdv A outer s H vs Q E hr h => ?_)
  · obtain ⟨p, x, d, lo, hi, rfl, hx, q⟩ := h
    rfl
  · obtain ⟨p, x, d, lo, hi, rfl, hx, q⟩ := h
    refine ⟨_, PSs.nox (pss_one (ps_ret (pe_and (pe_call G_is_number (hr.mono (by decide)) (by rfl) T.g_is_number T.F_is_number.kp T.b_is_number .nil pass0 (pa_cons (pv 0) pa_nil)) (pe_one (pe_chain op_le op_le (pv 1) (pv 0) (pv 2)))))), ?_⟩
    refine ⟨x, rfl, p, x, d, rfl, hx, _, rfl, ?_⟩
    cases hx with
    | int i =>
      refine iteT ⟨_, rfl, _, rfl, _, _, rfl, rfl, _, rfl, ?_⟩
      by_cases z : lo ≤ i
      · rw [decide_eq_true z]
        refine iteT ⟨_, rfl, _, _, rfl, rfl, ?_⟩
        have e : decide (i ≤ hi) = withinD (.int i) lo hi := decide_eq_decide.mpr ⟨fun y => ⟨z, y⟩, fun y => y.2⟩
        show Q (.bl (decide (i ≤ hi))) H
        rw [e]
        exact q
      · rw [decide_eq_false z]
        refine iteF ?_
        have e : withinD (.int i) lo hi = false := decide_eq_false (fun y => z y.1)
        rw [e] at q
        exact q
    | _ => exact iteF q
/-! tuples joined, cut, repeated: one way on -/
def rCatS (_ : PySem.W.Frag) : R2 := fun x y H Q => ∃ a b xs ys, x = .ref a ∧ y = .ref b ∧ H a = some (.tup xs) ∧ H b = some (.tup ys) ∧ xs.length + ys.length ≤ sizeLine ∧ ∀ G c, Same H G → G c = some (.tup (xs ++ ys)) → Q (.ref c) G
theorem op_catS {X : Cx} : OpR X (binaryOp .Add) (rCatS X.K) := by
  intro pins s σ H x y v u Q I rx ry h
  obtain ⟨a, b, xs, ys, rfl, rfl, ha, hb, hz, q⟩ := h
  refine op_catA pins s σ H _ _ v u Q I rx ry ⟨a, b, xs, ys, rfl, rfl, SqT.mk ha, SqT.mk hb, hz, fun e => ?_, fun _ e => ?_, fun _ _ p np => ?_⟩
  · subst e
    exact q H b (Same.refl H) hb
  · subst e
    exact q H a (Same.refl H) (by rw [List.append_nil]; exact ha)
  · exact q _ p (same_upd np) upd_same
def rSlS (_ : PySem.W.Frag) : V → Option Int → Option Int → Hp → VK → Prop := fun x lo hi H Q => ∃ a xs, x = .ref a ∧ H a = some (.tup xs) ∧ ∀ G c, Same H G → G c = some (.tup (cutV xs lo hi)) → Q (.ref c) G
theorem sl_tupS {X : Cx} : SlR X (rSlS X.K) := by
  intro pins s σ H x v vl vu lo hi sl Q I rx hs pl pu h
  obtain ⟨a, xs, rfl, ha, q⟩ := h
  refine sl_tupA pins s σ H _ v vl vu lo hi sl Q I rx hs pl pu ⟨a, xs, rfl, SqT.mk ha, fun e => ?_, fun _ p np => ?_⟩
  · refine q H a (Same.refl H) ?_
    unfold cutV
    rw [e.1, e.2, List.drop_zero, Nat.sub_zero, List.take_length]
    exact ha
  · exact q _ p (same_upd np) upd_same
def rRepS (_ : PySem.W.Frag) : R2 := fun x y H Q => ∃ (l : Addr) (k : Nat) (v : V), x = .ref l ∧ y = .int (k : Nat) ∧ H l = some (.tup [v]) ∧ k ≤ 1000000 ∧ ∀ G c, Same H G → G c = some (.tup (List.replicate k v)) → Q (.ref c) G
theorem rep_flat {α : Type} (v : α) : ∀ k : Nat, (List.replicate k [v]).flatten = List.replicate k v
  | 0 => rfl
  | k + 1 => by rw [List.replicate_succ, List.flatten_cons, rep_flat v k, List.replicate_succ]; rfl
theorem op_repS {X : Cx} : OpR X (binaryOp .Mult) (rRepS X.K) := by
  intro pins s σ H x y v u Q I rx ry h
  obtain ⟨l, k, z, rfl, rfl, hl, hk, q⟩ := h
  refine op_repB pins s σ H _ _ v u Q I rx ry ⟨l, k, [z], rfl, rfl, SqT.mk hl, by simp, by simpa using hk, fun e => ?_, fun _ p np => ?_⟩
  · refine q H l (Same.refl H) ?_
    rw [e]
    exact hl
  · refine q _ p (same_upd np) ?_
    rw [rep_flat]
    exact upd_same
theorem cut_lo (xs : List V) (m : Nat) (h : m ≤ xs.length) : cutV xs none (some (m : Nat)) = xs.take m := by
  unfold cutV
  show (xs.drop 0).take _ = _
  rw [HT.sIx_nat, List.drop_zero, show HT.sIx xs.length 0 none = 0 from rfl, Nat.sub_zero, Nat.min_eq_left h]
theorem cut_hi (xs : List V) (m : Nat) : cutV xs (some (m : Nat)) none = xs.drop m := by
  unfold cutV
  rw [HT.sIx_nat, show HT.sIx xs.length xs.length none = xs.length from rfl]
  by_cases h : m ≤ xs.length
  · rw [Nat.min_eq_left h]
    exact List.take_of_length_le (by rw [List.length_drop]; exact Nat.le_refl _)
  · rw [Nat.min_eq_right (by omega), List.drop_of_length_le (Nat.le_refl _), List.drop_of_length_le (by omega), List.take_nil]
/-! str(x) of any thing -/
def strD (d : PyData) : Str := match d with
  | .str z => z
  | d => d.shown
def rStrX (K : PySem.W.Frag) : List V → Hp → VK → Prop := fun xs H Q => ∃ v d, xs = [v] ∧ Dp K H v d ∧ ((∃ z, d = .str z) ∨ Sho d) ∧ Q (.str (strD d)) H
theorem u70g {k : Nat} {A : Around} (r : Room k A) : A.units + 70 < cLine := by
  have := r.un
  omega
theorem call_strX {X : Cx} (hg : X.A.guards = some []) (hu : X.A.units + 70 < cLine) : CallR X (.type "str") (rStrX X.K) := by
  intro pins s σ H vs us Q I r h
  obtain ⟨v, d, rfl, hd, sh, q⟩ := h
  cases hd with
  | non =>
    obtain ⟨u, rfl, r1⟩ := vals1 r
    cases r1
    exact PySem.P.str_of_none ⟨.str _, H, I.tok _, ⟨_, rfl⟩, q⟩
  | bl b =>
    obtain ⟨u, rfl, r1⟩ := vals1 r
    cases r1
    exact PySem.P.str_of_bool ⟨.str _, H, I.tok _, ⟨_, rfl⟩, by cases b <;> exact q⟩
  | int i =>
    obtain ⟨u, rfl, t, rfl⟩ := vals1 r
    rcases sh with ⟨z, e⟩ | sh
    · cases e
    have hs := sh.s
    simp only [PyData.showable] at hs
    exact PySem.P.str_of_int (of_decide_eq_true hs) ⟨.str _, H, I.tok _, ⟨_, rfl⟩, q⟩
  | str z =>
    obtain ⟨u, rfl, t, rfl⟩ := vals1 r
    exact PySem.P.str_of_str ⟨.str _, H, I, ⟨_, rfl⟩, q⟩
  | lst h1 h2 =>
    rcases sh with ⟨z, e⟩ | sh
    · cases e
    obtain ⟨shs, nd, dd, sz⟩ := sh
    rw [Vals.ref1 r]
    obtain ⟨as, rd⟩ := Dp.reads I _ (.ref _) (.ref _) (Dp.lst h1 h2) rfl
    refine str_of_reads rd shs (fun z => by rw [nd] at z; cases z) hg (by omega) (fun _ _ e => e) (fun h' u tk hk => ?_) sz
    exact ⟨.str _, H, I.kept (t' := tk) hk, ⟨_, rfl⟩, q⟩
  | tup h1 h2 =>
    rcases sh with ⟨z, e⟩ | sh
    · cases e
    obtain ⟨shs, nd, dd, sz⟩ := sh
    rw [Vals.ref1 r]
    obtain ⟨as, rd⟩ := Dp.reads I _ (.ref _) (.ref _) (Dp.tup h1 h2) rfl
    refine str_of_reads rd shs (fun z => by rw [nd] at z; cases z) hg (by omega) (fun _ _ e => e) (fun h' u tk hk => ?_) sz
    exact ⟨.str _, H, I.kept (t' := tk) hk, ⟨_, rfl⟩, q⟩
/-! things with tables about -/
mutual
theorem Tg.kp {p q : Addr → Prop} {H H' : Hp} (s1 : ∀ a xs, ¬ p a → H a = some (.lst xs) → H' a = some (.lst xs) ∧ ¬ q a) (s2 : ∀ a xs, ¬ p a → H a = some (.tup xs) → H' a = some (.tup xs) ∧ ¬ q a) : ∀ (d : PyData) (v : V), Tg p H v d → Tg q H' v d
  | .none, _, h => by cases h; exact .non
  | .bool b, _, h => by cases h; exact .bl b
  | .int i, _, h => by cases h; exact .int i
  | .str x, _, h => by cases h; exact .str x
  | .list ds, _, h => by
    cases h with
    | lst n e t => exact .lst (s1 _ _ n e).2 (s1 _ _ n e).1 (TgA.kp s1 s2 ds _ t)
  | .tuple ds, _, h => by
    cases h with
    | tup n e t => exact .tup (s2 _ _ n e).2 (s2 _ _ n e).1 (TgA.kp s1 s2 ds _ t)
  | .dict _, _, h => by cases h
theorem TgA.kp {p q : Addr → Prop} {H H' : Hp} (s1 : ∀ a xs, ¬ p a → H a = some (.lst xs) → H' a = some (.lst xs) ∧ ¬ q a) (s2 : ∀ a xs, ¬ p a → H a = some (.tup xs) → H' a = some (.tup xs) ∧ ¬ q a) : ∀ (ds : List PyData) (vs : List V), TgA p H vs ds → TgA q H' vs ds
  | [], _, h => by cases h; exact .nil
  | d :: ds, _, h => by
    cases h with
    | cons a b => exact .cons (Tg.kp s1 s2 d _ a) (TgA.kp s1 s2 ds _ b)
end
theorem Tg.sam {p : Addr → Prop} {H H' : Hp} {v : V} {d : PyData} (h : Tg p H v d) (s : Sam H H') : Tg p H' v d := h.kp (fun a xs n e => ⟨s.lst e, n⟩) (fun a xs n e => ⟨s.tup e, n⟩)
theorem TgA.sam {p : Addr → Prop} {H H' : Hp} {v : List V} {d : List PyData} (h : TgA p H v d) (s : Sam H H') : TgA p H' v d := h.kp (fun a xs n e => ⟨s.lst e, n⟩) (fun a xs n e => ⟨s.tup e, n⟩)
theorem tg_ints {p : Addr → Prop} {H : Hp} : ∀ rs : List Int, TgA p H (rs.map V.int) (rs.map PyData.int)
  | [] => .nil
  | x :: rs => .cons (.int x) (tg_ints rs)
/-! texts and numbers -/
theorem op_addS {X : Cx} : OpR X (binaryOp .Add) (fun x y H Q => ∃ a b, x = .str a ∧ y = .str b ∧ a.length + b.length ≤ sizeLine ∧ Q (.str (a ++ b)) H) := by
  intro pins s σ H x y v u Q I rx ry h
  obtain ⟨a, b, rfl, rfl, hz, q⟩ := h
  obtain ⟨t, rfl⟩ := rx
  obtain ⟨t', rfl⟩ := ry
  exact add_str (fun t' tk => ⟨.str _, H, I.tok _, ⟨_, rfl⟩, q⟩) hz
theorem op_mulS {X : Cx} : OpR X (binaryOp .Mult) (fun x y H Q => ∃ a i, x = .str a ∧ y = .int i ∧ (i = 0 ∨ i = 1) ∧ ∀ b, (b = Str.empty ∨ b = a) → Q (.str b) H) := by
  intro pins s σ H x y v u Q I rx ry h
  obtain ⟨a, i, rfl, rfl, h, q⟩ := h
  obtain ⟨t, rfl⟩ := rx
  obtain ⟨t', rfl⟩ := ry
  rcases h with rfl | rfl
  · exact PySem.P.mul_str_none (by decide) (by decide) ⟨.str _, H, I.tok _, ⟨_, rfl⟩, q _ (.inl rfl)⟩
  · refine PySem.P.mul_str (by decide) (fun _ h => ?_) (fun _ h => ?_) ?_
    · simp at h
    · simp at h
    · rw [if_neg (by decide), if_pos (by rfl)]
      exact ⟨.str _, H, I, ⟨_, rfl⟩, q _ (.inr rfl)⟩
def numV (v : V) (i : Int) : Prop := v = .int i ∨ ∃ b, v = .bl b ∧ i = if b = true then 1 else 0
theorem op_addN1 {X : Cx} : OpR X (binaryOp .Add) (fun x y H Q => ∃ i j, numV x i ∧ y = .int j ∧ Q (.int (i + j)) H) := by
  intro pins s σ H x y v u Q I rx ry h
  obtain ⟨i, j, hx, rfl, q⟩ := h
  obtain ⟨t', rfl⟩ := ry
  rcases hx with rfl | ⟨b, rfl, rfl⟩
  · obtain ⟨t, rfl⟩ := rx
    exact add_int ⟨.int _, H, I.tok _, ⟨_, rfl⟩, q⟩
  · cases rx
    exact PySem.IntBool.add_bool_int ⟨.int _, H, I.tok _, ⟨_, rfl⟩, q⟩
theorem op_subN1 {X : Cx} : OpR X (binaryOp .Sub) (fun x y H Q => ∃ i j, numV x i ∧ y = .int j ∧ Q (.int (i - j)) H) := by
  intro pins s σ H x y v u Q I rx ry h
  obtain ⟨i, j, hx, rfl, q⟩ := h
  obtain ⟨t', rfl⟩ := ry
  rcases hx with rfl | ⟨b, rfl, rfl⟩
  · obtain ⟨t, rfl⟩ := rx
    exact sub_int ⟨.int _, H, I.tok _, ⟨_, rfl⟩, q⟩
  · cases rx
    exact PySem.IntBool.sub_bool_int ⟨.int _, H, I.tok _, ⟨_, rfl⟩, q⟩
theorem op_subN2 {X : Cx} : OpR X (binaryOp .Sub) (fun x y H Q => ∃ i j, x = .int i ∧ numV y j ∧ Q (.int (i - j)) H) := by
  intro pins s σ H x y v u Q I rx ry h
  obtain ⟨i, j, rfl, hy, q⟩ := h
  obtain ⟨t, rfl⟩ := rx
  rcases hy with rfl | ⟨b, rfl, rfl⟩
  · obtain ⟨t', rfl⟩ := ry
    exact sub_int ⟨.int _, H, I.tok _, ⟨_, rfl⟩, q⟩
  · cases ry
    exact PySem.IntBool.sub_int_bool ⟨.int _, H, I.tok _, ⟨_, rfl⟩, q⟩
theorem call_strN {X : Cx} : CallR X (.type "str") (fun xs H Q => ∃ x i, xs = [x] ∧ numV x i ∧ i.natAbs.log2 < 1920 ∧ ∀ z : Str, (z = Str.ofString (toString i) ∨ z = "True" ∨ z = "False") → Q (.str z) H) := by
  intro pins s σ H xs us Q I r h
  obtain ⟨x, i, rfl, hx, hz, q⟩ := h
  rcases hx with rfl | ⟨b, rfl, _⟩
  · obtain ⟨u, rfl, t, rfl⟩ := vals1 r
    exact PySem.P.str_of_int hz ⟨.str _, H, I.tok _, ⟨_, rfl⟩, q _ (.inl rfl)⟩
  · obtain ⟨u, rfl, r1⟩ := vals1 r
    cases r1
    exact PySem.P.str_of_bool ⟨.str _, H, I.tok _, ⟨_, rfl⟩, q _ (by cases b <;> simp)⟩
theorem call_lenX {X : Cx} : CallR X (.builtin "len") (fun xs H Q => (∃ z, xs = [.str z] ∧ z.length ≤ sizeLine ∧ Q (.int z.length) H) ∨ ∃ p ys, xs = [.ref p] ∧ (SqL X.K H p ys ∨ SqT X.K H p ys) ∧ Q (.int ys.length) H) := by
  intro pins s σ H xs us Q I r h
  rcases h with h | h
  · exact call_len_str pins s σ H xs us Q I r h
  · exact call_len_seq pins s σ H xs us Q I r h
/-! texts and things that are small -/
theorem ok_iff {x : Str} : PyData.strOk x = true ↔ ∀ c, c ∈ x.cps.toList → c < 0x110000 := by
  unfold PyData.strOk
  rw [Array.all_eq_true_iff_forall_mem]
  exact ⟨fun h c hc => by simpa using h c (Array.mem_toList_iff.mp hc), fun h c hc => by simpa using h c (Array.mem_toList_iff.mpr hc)⟩
theorem ok_app {a b : Str} (h : PyData.strOk a = true) (g : PyData.strOk b = true) : PyData.strOk (a ++ b) = true := by
  refine ok_iff.mpr fun c hc => ?_
  have hc : c ∈ (a.cps ++ b.cps).toList := hc
  rw [Array.toList_append] at hc
  rcases List.mem_append.mp hc with hc | hc
  · exact ok_iff.mp h c hc
  · exact ok_iff.mp g c hc
theorem ok_cut {a : Str} (lo hi : Option Int) (h : PyData.strOk a = true) : PyData.strOk (cutS a lo hi) = true := by
  refine ok_iff.mpr fun c hc => ?_
  have hc : c ∈ ((a.cps.toList.drop (HT.sIx a.length 0 lo)).take (HT.sIx a.length a.length hi - HT.sIx a.length 0 lo)).toArray.toList := hc
  rw [List.toList_toArray] at hc
  exact ok_iff.mp h c (List.mem_of_mem_drop (List.mem_of_mem_take hc))
theorem ok_of (s : String) : PyData.strOk (Str.ofString s) = true := by
  refine ok_iff.mpr fun c hc => ?_
  rw [Str.ofString_eq_toList] at hc
  simp only [List.toList_toArray, List.mem_map] at hc
  obtain ⟨x, _, rfl⟩ := hc
  have := x.valid
  rcases this with h | ⟨_, h⟩
  · show x.val.toNat < _
    omega
  · exact h
theorem bd_int {k : Nat} {i : Int} (h : i.natAbs < 10 ^ k) : Bd k 0 (4 * k + 1) (.int i) := ⟨by simp only [gd]; exact decide_eq_true h, (shs_int h).dp, (shs_int h).wt⟩
theorem bd_str {k : Nat} {z : Str} (h : PyData.strOk z = true) : Bd k 0 z.length (.str z) := ⟨by simpa only [gd] using h, by simp only [PyData.depth]; decide, by simp only [PyData.weight]; exact Nat.le_refl _⟩
theorem bd_bl {k : Nat} {b : Bool} : Bd k 0 0 (.bool b) := ⟨rfl, by simp only [PyData.depth]; decide, by simp only [PyData.weight]; decide⟩
theorem bd_len {k n w : Nat} {z : Str} (h : Bd k n w (.str z)) : PyData.strOk z = true ∧ z.length ≤ w := ⟨by simpa only [gd] using h.g, by have := h.wt; simp only [PyData.weight] at this; exact this⟩
theorem pow_t {k : Nat} (h : 2 ≤ k) : 100 ≤ 10 ^ k ∧ 10 ^ (k + 1) = 10 * 10 ^ k := ⟨Nat.le_trans (by decide) (Nat.pow_le_pow_right (n := 10) (by decide) h), by rw [Nat.pow_succ]; omega⟩
/-- six numbers and texts near a number -/
theorem num_bd {k : Nat} {i : Int} {b0 : Bool} {z : Str} (hk : 2 ≤ k) (k20 : k ≤ 20) (hi : i.natAbs < 10 ^ k) (hz : z = Str.ofString (toString i) ∨ z = "True" ∨ z = "False") : ∀ d, d ∈ [PyData.int (i + 1), .int (i - 1), .bool b0, .int 6, .str z, .int (5 - i)] → Bd (k + 1) 0 100 d := by
  obtain ⟨t1, t2⟩ := pow_t hk
  have ok : PyData.strOk z = true ∧ z.length ≤ 100 := by
    rcases hz with rfl | rfl | rfl
    · refine ⟨ok_of _, ?_⟩
      rw [PySem.ofString_length]
      have := int_text_length_le10 (k := k) (by omega) hi
      omega
    · exact ⟨ok_of _, by decide +kernel⟩
    · exact ⟨ok_of _, by decide +kernel⟩
  intro d hd
  simp only [List.mem_cons, List.not_mem_nil, or_false] at hd
  rcases hd with rfl | rfl | rfl | rfl | rfl | rfl
  · exact (bd_int (by omega)).mono (Nat.le_refl _) (Nat.le_refl _) (by omega)
  · exact (bd_int (by omega)).mono (Nat.le_refl _) (Nat.le_refl _) (by omega)
  · exact bd_bl.mono (Nat.le_refl _) (Nat.le_refl _) (by omega)
  · exact (bd_int (by omega)).mono (Nat.le_refl _) (Nat.le_refl _) (by omega)
  · exact (bd_str ok.1).mono (Nat.le_refl _) (Nat.le_refl _) ok.2
  · exact (bd_int (by omega)).mono (Nat.le_refl _) (Nat.le_refl _) (by omega)
theorem ix_at {n j : Nat} (h : j < n) : ixN n (j : Int) = some j := by
  unfold ixN
  rw [if_pos (by omega), if_pos (by omega)]
  simp
theorem ix_prev {n j : Nat} (h : j < n) : ∃ m, ixN n ((j : Int) - 1) = some m ∧ m < n := by
  by_cases z : j = 0
  · subst z
    exact ⟨n - 1, by unfold ixN; rw [if_neg (by omega), if_pos (by omega)]; exact congrArg some (by omega), by omega⟩
  · exact ⟨j - 1, by rw [show (j : Int) - 1 = ((j - 1 : Nat) : Int) by omega]; exact ix_at (by omega), by omega⟩
theorem weiA_set : ∀ {ds : List PyData} {i : Nat} {d x : PyData}, ds[i]? = some d → PyData.weightAll (ds.set i x) + d.weight = PyData.weightAll ds + x.weight
  | y :: ds, 0, d, x, h => by
    cases h
    simp only [List.set_cons_zero, PyData.weightAll]
    omega
  | y :: ds, i + 1, d, x, h => by
    have := weiA_set (ds := ds) (i := i) (d := d) (x := x) (by simpa using h)
    simp only [List.set_cons_succ, PyData.weightAll]
    omega
theorem weiA_erase : ∀ (ds : List PyData) (i : Nat), PyData.weightAll (ds.eraseIdx i) ≤ PyData.weightAll ds
  | [], _ => by simp
  | y :: ds, 0 => by
    simp only [List.eraseIdx_cons_zero, PyData.weightAll]
    omega
  | y :: ds, i + 1 => by
    have := weiA_erase ds i
    simp only [List.eraseIdx_cons_succ, PyData.weightAll]
    omega
theorem BdA.of {k n w : Nat} {ds : List PyData} (h : ∀ d, d ∈ ds → gd k d = true ∧ d.depth ≤ n) (l : PyData.weightAll ds ≤ w) : BdA k n w ds := ⟨gdA_all.mpr fun d hd => (h d hd).1, depA_of ds fun d hd => (h d hd).2, l⟩
theorem BdA.each {k n w : Nat} {ds : List PyData} (h : BdA k n w ds) {d : PyData} (hd : d ∈ ds) : gd k d = true ∧ d.depth ≤ n := ⟨gdA_all.mp h.g d hd, depA_mem hd h.dp⟩
theorem BdA.erase {k n w : Nat} {ds : List PyData} (h : BdA k n w ds) (i : Nat) : BdA k n w (ds.eraseIdx i) := .of (fun _ hd => h.each (List.mem_of_mem_eraseIdx hd)) (Nat.le_trans (weiA_erase ds i) h.wt)
theorem BdA.set {k n w v : Nat} {ds : List PyData} (h : BdA k n w ds) {i : Nat} {d x : PyData} (hd : ds[i]? = some d) (g : gd k x = true) (p : x.depth ≤ n) (l : PyData.weightAll ds + x.weight ≤ v + d.weight) : BdA k n v (ds.set i x) := .of (fun y hy => by
  rcases List.mem_or_eq_of_mem_set hy with hy | rfl
  · exact h.each hy
  · exact ⟨g, p⟩) (by have := weiA_set (x := x) hd; omega)
theorem weiA_ins (ds : List PyData) (i : Nat) (x : PyData) : PyData.weightAll (ds.take i ++ [x] ++ ds.drop i) = PyData.weightAll ds + x.weight + 1 := by
  have := weiA_app (ds.take i) (ds.drop i)
  rw [List.take_append_drop] at this
  rw [weiA_app, weiA_app, this]
  simp only [PyData.weightAll]
  omega
theorem BdA.ins {k n w v : Nat} {ds : List PyData} (h : BdA k n w ds) (i : Nat) {x : PyData} (g : gd k x = true) (p : x.depth ≤ n) (l : w + x.weight + 1 ≤ v) : BdA k n v (ds.take i ++ [x] ++ ds.drop i) := .of (fun y hy => by
  rcases List.mem_append.mp hy with hy | hy
  · rcases List.mem_append.mp hy with hy | hy
    · exact h.each (List.mem_of_mem_take hy)
    · rw [List.mem_singleton.mp hy]
      exact ⟨g, p⟩
  · exact h.each (List.mem_of_mem_drop hy)) (by rw [weiA_ins]; have := h.wt; omega)
theorem TgA.set {p : Addr → Prop} {H : Hp} {x : V} {d : PyData} (hx : Tg p H x d) : ∀ {ds : List PyData} {vs : List V}, TgA p H vs ds → ∀ i : Nat, TgA p H (vs.set i x) (ds.set i d)
  | [], _, h, i => by cases h; exact .nil
  | e :: ds, _, h, i => by
    cases h with
    | cons a b =>
      cases i with
      | zero => exact .cons hx b
      | succ i => exact .cons a (TgA.set hx b i)
theorem TgA.erase {p : Addr → Prop} {H : Hp} : ∀ {ds : List PyData} {vs : List V}, TgA p H vs ds → ∀ i : Nat, TgA p H (vs.eraseIdx i) (ds.eraseIdx i)
  | [], _, h, i => by cases h; exact .nil
  | e :: ds, _, h, i => by
    cases h with
    | cons a b =>
      cases i with
      | zero => exact b
      | succ i => exact .cons a (TgA.erase b i)
theorem TgA.ins {p : Addr → Prop} {H : Hp} {ds : List PyData} {vs : List V} (h : TgA p H vs ds) {x : V} {d : PyData} (hx : Tg p H x d) (i : Nat) : TgA p H (vs.take i ++ [x] ++ vs.drop i) (ds.take i ++ [d] ++ ds.drop i) := ((h.split i).1.app (.cons hx .nil)).app (h.split i).2
theorem at_menuV {Pr : V → Prop} {xs : List V} {r : Int} (h0 : 0 ≤ r) (h1 : r < xs.length) (hx : ∀ x, x ∈ xs → Pr x) : ∃ v, atI xs r = some v ∧ Pr v := by
  obtain ⟨j, rfl⟩ := Int.eq_ofNat_of_zero_le h0
  have hj : j < xs.length := by omega
  exact ⟨xs[j], atI_nat (List.getElem?_eq_getElem hj), hx _ (List.getElem_mem hj)⟩
theorem len_wei : ∀ ds : List PyData, ds.length ≤ PyData.weightAll ds
  | [] => Nat.zero_le _
  | x :: ds => by
    have := len_wei ds
    simp only [List.length_cons, PyData.weightAll]
    omega
theorem Bx.upd {H : Hp} {p l : Addr} {n : Nat} {o : HO} (B : Bx H p n) (h : l ≠ p) : Bx (upd H l o) p n := by
  obtain ⟨a, b, c, e, r⟩ := B
  exact ⟨a, b, c, (upd_ne h.symm).trans e, r⟩
/-- lists that stand -/
def Sts (E : Addr → Prop) (H : Hp) : Prop := ∀ q, E q → H q ≠ none
theorem Sts.not {E : Addr → Prop} {H : Hp} {t : Addr} (h : Sts E H) (n : H t = none) : ¬ E t := fun e => h t e n
theorem Sts.same {E : Addr → Prop} {H H' : Hp} (h : Sts E H) (s : Same H H') : Sts E H' := fun q e n => by
  cases z : H q with
  | none => exact h q e z
  | some o =>
    rw [s _ _ z] at n
    cases n
theorem Bx.some {H : Hp} {p : Addr} {n : Nat} (B : Bx H p n) : H p ≠ none := by
  obtain ⟨a, b, c, h, _⟩ := B
  rw [h]
  exact fun z => by cases z
theorem Sts.but {E : Addr → Prop} {H H' : Hp} {p : Addr} {n : Nat} (h : Sts E H) (s : But p H H') (B : Bx H' p n) : Sts E H' := fun q e z => by
  by_cases qp : q = p
  · subst qp
    exact B.some z
  · cases y : H q with
    | none => exact h q e y
    | some o =>
      rw [s _ _ qp y] at z
      cases z
theorem Tg.bt {E : Addr → Prop} {H H' : Hp} {v : V} {d : PyData} {p : Addr} (h : Tg E H v d) (e : E p) (s : But p H H') : Tg E H' v d := h.keep fun a o n q => s a o (fun z => n (z ▸ e)) q
theorem TgA.bt {E : Addr → Prop} {H H' : Hp} {v : List V} {d : List PyData} {p : Addr} (h : TgA E H v d) (e : E p) (s : But p H H') : TgA E H' v d := h.keep fun a o n q => s a o (fun z => n (z ▸ e)) q
/-! slices of lists and tuples alike; numbers times things -/
def rSlU (K : PySem.W.Frag) : V → Option Int → Option Int → Hp → VK → Prop := fun x lo hi H Q => ∃ a xs, x = .ref a ∧ (H a = some (.lst xs) ∨ H a = some (.tup xs)) ∧ ∀ G c, Same H G → (SqL K G c (cutV xs lo hi) ∨ SqT K G c (cutV xs lo hi)) → Q (.ref c) G
theorem sl_any {X : Cx} : SlR X (rSlU X.K) := by
  intro pins s σ H x v vl vu lo hi sl Q I rx hs pl pu h
  obtain ⟨a, xs, rfl, ha, q⟩ := h
  rcases ha with ha | ha
  · exact sl_list pins s σ H _ v vl vu lo hi sl Q I rx hs pl pu ⟨a, xs, rfl, SqL.mk ha, fun p np => q _ p (same_upd np) (.inl (SqL.mk upd_same))⟩
  · exact sl_tupS pins s σ H _ v vl vu lo hi sl Q I rx hs pl pu ⟨a, xs, rfl, ha, fun G c sG hc => q G c sG (.inr (SqT.mk hc))⟩
theorem cut_mid (xs : List V) (j : Nat) (x : V) (h : xs[j]? = some x) : cutV xs (some (j : Nat)) (some ((j : Nat) + 1)) = [x] := by
  have jl := (List.getElem?_eq_some_iff.mp h).1
  unfold cutV
  rw [show ((j : Int) + 1) = ((j + 1 : Nat) : Int) by omega]
  have e1 : HT.sIx xs.length 0 (some ((j : Nat) : Int)) = j := by
    rw [HT.sIx_nat]
    omega
  have e2 : HT.sIx xs.length xs.length (some ((j + 1 : Nat) : Int)) = j + 1 := by
    rw [HT.sIx_nat]
    omega
  rw [e1, e2, show j + 1 - j = 1 by omega, List.drop_eq_getElem_cons jl]
  simp only [List.take_succ_cons, List.take_zero]
  rw [(List.getElem?_eq_some_iff.mp h).2]
theorem split_at {α : Type} (xs : List α) (j : Nat) (x : α) (h : xs[j]? = some x) : xs = xs.take j ++ [x] ++ xs.drop (j + 1) := by
  have jl := (List.getElem?_eq_some_iff.mp h).1
  have e := (List.getElem?_eq_some_iff.mp h).2
  have := List.take_append_drop j xs
  rw [List.drop_eq_getElem_cons jl, e] at this
  rw [List.append_assoc]
  exact this.symm
theorem op_mulN2 {X : Cx} : OpR X (binaryOp .Mult) (fun x y H Q => ∃ i j, x = .int i ∧ numV y j ∧ Builtin.Int.intBits i ≤ 64 ∧ Q (.int (i * j)) H) := by
  intro pins s σ H x y v u Q I rx ry h
  obtain ⟨i, j, rfl, hy, hb, q⟩ := h
  obtain ⟨t, rfl⟩ := rx
  rcases hy with rfl | ⟨b, rfl, rfl⟩
  · obtain ⟨t', rfl⟩ := ry
    exact mul_int ⟨.int _, H, I.tok _, ⟨_, rfl⟩, q⟩ (IntMulOk.of_left hb)
  · cases ry
    exact PySem.IntBool.mul_int_bool ⟨.int _, H, I.tok _, ⟨_, rfl⟩, q⟩
/-! makers as things -/
theorem Tg.tupv {p : Addr → Prop} {H : Hp} {v : V} {ds : List PyData} (h : Tg p H v (.tuple ds)) : ∃ a xs, v = .ref a ∧ ¬ p a ∧ H a = some (.tup xs) ∧ TgA p H xs ds := by
  cases h with
  | tup np ha hx => exact ⟨_, _, rfl, np, ha, hx⟩
theorem Tg.intv {p : Addr → Prop} {H : Hp} {v : V} {i : Int} (h : Tg p H v (.int i)) : v = .int i := by
  cases h
  rfl
theorem Tg.strv {p : Addr → Prop} {H : Hp} {v : V} {z : Str} (h : Tg p H v (.str z)) : v = .str z := by
  cases h
  rfl
theorem TgA.ints {p : Addr → Prop} {H : Hp} : ∀ {ns : List Int} {xs : List V}, TgA p H xs (ns.map PyData.int) → xs = ns.map V.int
  | [], _, h => by cases h; rfl
  | n :: ns, _, h => by
    cases h with
    | cons a b => rw [a.intv, TgA.ints b]; rfl
theorem TgA.of_ints {p : Addr → Prop} {H : Hp} : ∀ (ns : List Int), TgA p H (ns.map V.int) (ns.map PyData.int)
  | [] => .nil
  | n :: ns => .cons (.int n) (TgA.of_ints ns)
theorem TgA.two {p : Addr → Prop} {H : Hp} {xs : List V} {a b : PyData} (h : TgA p H xs [a, b]) : ∃ x y, xs = [x, y] ∧ Tg p H x a ∧ Tg p H y b := by
  cases h with
  | cons h1 h =>
    cases h with
    | cons h2 h => cases h; exact ⟨_, _, rfl, h1, h2⟩
theorem TgA.three {p : Addr → Prop} {H : Hp} {xs : List V} {a b c : PyData} (h : TgA p H xs [a, b, c]) : ∃ x y z, xs = [x, y, z] ∧ Tg p H x a ∧ Tg p H y b ∧ Tg p H z c := by
  cases h with
  | cons h1 h =>
    obtain ⟨x, y, rfl, h2, h3⟩ := h.two
    exact ⟨_, _, _, rfl, h1, h2, h3⟩
theorem TgA.four {p : Addr → Prop} {H : Hp} {xs : List V} {a b c d : PyData} (h : TgA p H xs [a, b, c, d]) : ∃ x y z w, xs = [x, y, z, w] ∧ Tg p H x a ∧ Tg p H y b ∧ Tg p H z c ∧ Tg p H w d := by
  cases h with
  | cons h1 h =>
    obtain ⟨x, y, z, rfl, h2, h3, h4⟩ := h.three
    exact ⟨_, _, _, _, rfl, h1, h2, h3, h4⟩
def mkd : Mk → PyData
  | .counter r s t => .tuple [.str "counter", .int (r : Nat), .int (s : Nat), .int (t : Nat)]
  | .table ns => .tuple [.str "table", .tuple (ns.map PyData.int)]
  | .turned w s => .tuple [.str "turned", .int (w : Nat), .int (s : Nat)]
  | .register w p s => .tuple [.str "register", .int (w : Nat), .int (p : Nat), .int (s : Nat)]
  | .slow n m => .tuple [.str "slow", .int (n : Nat), mkd m]
  | .slip n m => .tuple [.str "slip", .int (n : Nat), mkd m]
  | .late n m => .tuple [.str "late", .int (n : Nat), mkd m]
theorem tg_mk {p : Addr → Prop} {H : Hp} : ∀ {m : Mk} {v : V}, Tg p H v (mkd m) → MkAt H m v
  | .counter r s t, _, h => by
    obtain ⟨a, xs, rfl, _, ha, hx⟩ := Tg.tupv h
    obtain ⟨x, y, z, w, rfl, h1, h2, h3, h4⟩ := hx.four
    exact ⟨a, rfl, by rw [ha, h1.strv, h2.intv, h3.intv, h4.intv]⟩
  | .table ns, _, h => by
    obtain ⟨a, xs, rfl, _, ha, hx⟩ := Tg.tupv h
    obtain ⟨x, y, rfl, h1, h2⟩ := hx.two
    obtain ⟨b, ys, rfl, _, hb, hy⟩ := Tg.tupv h2
    exact ⟨a, b, rfl, by rw [ha, h1.strv], by rw [hb, hy.ints]⟩
  | .turned w s, _, h => by
    obtain ⟨a, xs, rfl, _, ha, hx⟩ := Tg.tupv h
    obtain ⟨x, y, z, rfl, h1, h2, h3⟩ := hx.three
    exact ⟨a, rfl, by rw [ha, h1.strv, h2.intv, h3.intv]⟩
  | .register w q s, _, h => by
    obtain ⟨a, xs, rfl, _, ha, hx⟩ := Tg.tupv h
    obtain ⟨x, y, z, w, rfl, h1, h2, h3, h4⟩ := hx.four
    exact ⟨a, rfl, by rw [ha, h1.strv, h2.intv, h3.intv, h4.intv]⟩
  | .slow n m, _, h => by
    obtain ⟨a, xs, rfl, _, ha, hx⟩ := Tg.tupv h
    obtain ⟨x, y, z, rfl, h1, h2, h3⟩ := hx.three
    exact ⟨a, z, rfl, by rw [ha, h1.strv, h2.intv], tg_mk h3⟩
  | .slip n m, _, h => by
    obtain ⟨a, xs, rfl, _, ha, hx⟩ := Tg.tupv h
    obtain ⟨x, y, z, rfl, h1, h2, h3⟩ := hx.three
    exact ⟨a, z, rfl, by rw [ha, h1.strv, h2.intv], tg_mk h3⟩
  | .late n m, _, h => by
    obtain ⟨a, xs, rfl, _, ha, hx⟩ := Tg.tupv h
    obtain ⟨x, y, z, rfl, h1, h2, h3⟩ := hx.three
    exact ⟨a, z, rfl, by rw [ha, h1.strv, h2.intv], tg_mk h3⟩
theorem mk_tg {p : Addr → Prop} {H : Hp} (np : ∀ a xs, H a = some (.tup xs) → ¬ p a) : ∀ {m : Mk} {v : V}, MkAt H m v → Tg p H v (mkd m)
  | .counter r s t, _, ⟨a, e, h⟩ => by rw [e]; exact .tup (np _ _ h) h (.cons (.str _) (.cons (.int _) (.cons (.int _) (.cons (.int _) .nil))))
  | .table ns, _, ⟨a, b, e, h, k⟩ => by rw [e]; exact .tup (np _ _ h) h (.cons (.str _) (.cons (.tup (np _ _ k) k (TgA.of_ints ns)) .nil))
  | .turned w s, _, ⟨a, e, h⟩ => by rw [e]; exact .tup (np _ _ h) h (.cons (.str _) (.cons (.int _) (.cons (.int _) .nil)))
  | .register w q s, _, ⟨a, e, h⟩ => by rw [e]; exact .tup (np _ _ h) h (.cons (.str _) (.cons (.int _) (.cons (.int _) (.cons (.int _) .nil))))
  | .slow n m, _, ⟨a, x, e, h, k⟩ => by rw [e]; exact .tup (np _ _ h) h (.cons (.str _) (.cons (.int _) (.cons (mk_tg np k) .nil)))
  | .slip n m, _, ⟨a, x, e, h, k⟩ => by rw [e]; exact .tup (np _ _ h) h (.cons (.str _) (.cons (.int _) (.cons (mk_tg np k) .nil)))
  | .late n m, _, ⟨a, x, e, h, k⟩ => by rw [e]; exact .tup (np _ _ h) h (.cons (.str _) (.cons (.int _) (.cons (mk_tg np k) .nil)))
theorem map_int_inj : ∀ {xs ys : List Int}, xs.map PyData.int = ys.map PyData.int → xs = ys
  | [], [], _ => rfl
  | [], _ :: _, h => by cases h
  | _ :: _, [], h => by cases h
  | x :: xs, y :: ys, h => by
    simp only [List.map_cons, List.cons.injEq, PyData.int.injEq] at h
    rw [h.1, map_int_inj h.2]
theorem tup_in {xs ys : List PyData} (h : PyData.tuple xs = .tuple ys) : xs = ys := PyData.tuple.inj h
theorem mkd_inj : ∀ {m k : Mk}, mkd m = mkd k → m = k
  | .counter _ _ _, k, h => by
    cases k <;> simp only [mkd, PyData.tuple.injEq, List.cons.injEq, PyData.str.injEq, PyData.int.injEq, and_true, reduceCtorEq, and_false, false_and] at h
    all_goals first
      | exact absurd h.1 (by decide +kernel)
      | (obtain ⟨_, h1, h2, h3⟩ := h
         rw [Int.ofNat.inj h1, Int.ofNat.inj h2, Int.ofNat.inj h3])
  | .table _, k, h => by
    cases k <;> simp only [mkd, PyData.tuple.injEq, List.cons.injEq, PyData.str.injEq, PyData.int.injEq, and_true, reduceCtorEq, and_false, false_and] at h
    all_goals first
      | exact absurd h.1 (by decide +kernel)
      | (obtain ⟨_, h1⟩ := h
         rw [map_int_inj h1])
  | .turned _ _, k, h => by
    cases k <;> simp only [mkd, PyData.tuple.injEq, List.cons.injEq, PyData.str.injEq, PyData.int.injEq, and_true, reduceCtorEq, and_false, false_and] at h
    all_goals first
      | exact absurd h.1 (by decide +kernel)
      | (obtain ⟨_, h1, h2⟩ := h
         rw [Int.ofNat.inj h1, Int.ofNat.inj h2])
  | .register _ _ _, k, h => by
    cases k <;> simp only [mkd, PyData.tuple.injEq, List.cons.injEq, PyData.str.injEq, PyData.int.injEq, and_true, reduceCtorEq, and_false, false_and] at h
    all_goals first
      | exact absurd h.1 (by decide +kernel)
      | (obtain ⟨_, h1, h2, h3⟩ := h
         rw [Int.ofNat.inj h1, Int.ofNat.inj h2, Int.ofNat.inj h3])
  | .slow _ _, k, h => by
    cases k <;> simp only [mkd, PyData.tuple.injEq, List.cons.injEq, PyData.str.injEq, PyData.int.injEq, and_true, reduceCtorEq, and_false, false_and] at h
    all_goals first
      | exact absurd h.1 (by decide +kernel)
      | (obtain ⟨_, h1, h2⟩ := h
         rw [Int.ofNat.inj h1, mkd_inj h2])
  | .slip _ _, k, h => by
    cases k <;> simp only [mkd, PyData.tuple.injEq, List.cons.injEq, PyData.str.injEq, PyData.int.injEq, and_true, reduceCtorEq, and_false, false_and] at h
    all_goals first
      | exact absurd h.1 (by decide +kernel)
      | (obtain ⟨_, h1, h2⟩ := h
         rw [Int.ofNat.inj h1, mkd_inj h2])
  | .late _ _, k, h => by
    cases k <;> simp only [mkd, PyData.tuple.injEq, List.cons.injEq, PyData.str.injEq, PyData.int.injEq, and_true, reduceCtorEq, and_false, false_and] at h
    all_goals first
      | exact absurd h.1 (by decide +kernel)
      | (obtain ⟨_, h1, h2⟩ := h
         rw [Int.ofNat.inj h1, mkd_inj h2])
/-- makers that the program takes, as to their own steps -/
def Mk.Vd : Mk → Prop
  | .counter r s _ => 1 ≤ s ∧ s ≤ r ∧ Nat.gcd s r = 1
  | _ => True
def plainD (d : PyData) : Prop := ∃ m : Mk, d = mkd m ∧ m.Pl ∧ m.Vd
def isMkD (d : PyData) : Prop := ∃ m : Mk, d = mkd m ∧ m.Ok ∧ m.inn.Vd ∧ m.dep ≤ 3 ∧ m.rnd ≤ 4096
/-- what a plain maker's first part tells of the others -/
theorem pl_cases {ds : List PyData} (h : plainD (.tuple ds)) :
    (∃ r s t : Nat, ds = [.str "counter", .int r, .int s, .int t] ∧ (1 ≤ r ∧ r ≤ 64) ∧ (1 ≤ s ∧ s ≤ r) ∧ Nat.gcd s r = 1 ∧ t < r) ∨
    (∃ w s : Nat, ds = [.str "turned", .int w, .int s] ∧ (1 ≤ w ∧ w ≤ 6) ∧ s < 2 ^ w) ∨
    (∃ w q s : Nat, ds = [.str "register", .int w, .int q, .int s] ∧ RgW w q ∧ 1 ≤ s ∧ s < 2 ^ w) ∨
    (∃ ns : List Int, ds = [.str "table", .tuple (ns.map PyData.int)] ∧ (1 ≤ ns.length ∧ ns.length ≤ 64) ∧ ∀ x, x ∈ ns → 0 ≤ x ∧ x ≤ 63) := by
  obtain ⟨m, e, pl, vd⟩ := h
  cases m with
  | counter r s t => exact .inl ⟨r, s, t, tup_in e, ⟨pl.1, pl.2.1⟩, ⟨vd.1, vd.2.1⟩, vd.2.2, pl.2.2.2⟩
  | turned w s => exact .inr (.inl ⟨w, s, tup_in e, ⟨pl.1, pl.2.1⟩, pl.2.2⟩)
  | register w q s => exact .inr (.inr (.inl ⟨w, q, s, tup_in e, pl.1, pl.2.1, pl.2.2⟩))
  | table ns => exact .inr (.inr (.inr ⟨ns, tup_in e, ⟨pl.1, pl.2.1⟩, pl.2.2⟩))
  | _ => exact pl.elim
theorem isInt_is {d : PyData} (h : isIntD d = true) : ∃ i, d = .int i := by
  cases d <;> first | exact ⟨_, rfl⟩ | cases h
theorem within_is {d : PyData} {lo hi : Int} (h : withinD d lo hi = true) : ∃ i, d = .int i ∧ lo ≤ i ∧ i ≤ hi := by
  cases d <;> first | exact ⟨_, rfl, (of_decide_eq_true h).1, (of_decide_eq_true h).2⟩ | cases h
theorem within_no {i lo hi : Int} (h : withinD (.int i) lo hi = false) : ¬ (lo ≤ i ∧ i ≤ hi) := fun z => by
  have : withinD (.int i) lo hi = true := decide_eq_true z
  rw [this] at h
  cases h
/-- what stands around a thing -/
def arD (d : PyData) : Option PyData := match d with
  | .tuple [.str z, x, e] => if z = "late" then (if withinD x 0 64 then some e else none) else if z = "slow" ∨ z = "slip" then (if withinD x 1 64 then some e else none) else none
  | _ => none
theorem arD_is {d e : PyData} (h : arD d = some e) : ∃ (z : Str) (n : Nat), d = .tuple [.str z, .int (n : Nat), e] ∧ ((z = "late" ∧ n ≤ 64) ∨ (z = "slow" ∧ 1 ≤ n ∧ n ≤ 64) ∨ (z = "slip" ∧ 1 ≤ n ∧ n ≤ 64)) := by
  unfold arD at h
  split at h
  · rename_i z x e'
    split at h
    · rename_i hz
      split at h
      · rename_i hw
        obtain ⟨i, rfl, l, u⟩ := within_is hw
        obtain ⟨n, rfl⟩ := nat_of l
        cases h
        exact ⟨z, n, rfl, .inl ⟨hz, by omega⟩⟩
      · cases h
    · split at h
      · rename_i hz
        split at h
        · rename_i hw
          obtain ⟨i, rfl, l, u⟩ := within_is hw
          obtain ⟨n, rfl⟩ := nat_of (show 0 ≤ i by omega)
          cases h
          rcases hz with hz | hz
          · exact ⟨z, n, rfl, .inr (.inl ⟨hz, by omega, by omega⟩)⟩
          · exact ⟨z, n, rfl, .inr (.inr ⟨hz, by omega, by omega⟩)⟩
        · cases h
      · cases h
  · cases h
theorem arD_slow {n : Nat} {e : PyData} (h : 1 ≤ n ∧ n ≤ 64) : arD (.tuple [.str "slow", .int (n : Nat), e]) = some e := by
  have w : withinD (.int (n : Nat)) 1 64 = true := decide_eq_true (by omega)
  unfold arD
  dsimp only
  rw [if_neg (by decide +kernel), if_pos (.inl rfl), w]
  rfl
theorem arD_slip {n : Nat} {e : PyData} (h : 1 ≤ n ∧ n ≤ 64) : arD (.tuple [.str "slip", .int (n : Nat), e]) = some e := by
  have w : withinD (.int (n : Nat)) 1 64 = true := decide_eq_true (by omega)
  unfold arD
  dsimp only
  rw [if_neg (by decide +kernel), if_pos (.inr rfl), w]
  rfl
theorem arD_late {n : Nat} {e : PyData} (h : n ≤ 64) : arD (.tuple [.str "late", .int (n : Nat), e]) = some e := by
  have w : withinD (.int (n : Nat)) 0 64 = true := decide_eq_true (by omega)
  unfold arD
  dsimp only
  rw [if_pos rfl, w]
  rfl
theorem arD_mk {m : Mk} (ok : m.Ok) : (m.dep = 0 ∧ m.Pl ∧ arD (mkd m) = none) ∨ ∃ m', arD (mkd m) = some (mkd m') ∧ m'.Ok ∧ m.dep = m'.dep + 1 ∧ m.inn = m'.inn := by
  cases m with
  | counter r s t => exact .inl ⟨rfl, ok, rfl⟩
  | table ns => exact .inl ⟨rfl, ok, rfl⟩
  | turned w s =>
    refine .inl ⟨rfl, ok, ?_⟩
    unfold mkd arD
    dsimp only
    rw [if_neg (by decide +kernel), if_neg (by decide +kernel)]
  | register w q s => exact .inl ⟨rfl, ok, rfl⟩
  | slow n m => exact .inr ⟨m, arD_slow ⟨ok.1, ok.2.1⟩, ok.2.2, rfl, rfl⟩
  | slip n m => exact .inr ⟨m, arD_slip ⟨ok.1, ok.2.1⟩, ok.2.2, rfl, rfl⟩
  | late n m => exact .inr ⟨m, arD_late ok.1, ok.2, rfl, rfl⟩
theorem arD_up {d : PyData} {m : Mk} (h : arD d = some (mkd m)) (ok : m.Ok) : ∃ k : Mk, d = mkd k ∧ k.Ok ∧ k.dep = m.dep + 1 ∧ k.inn = m.inn := by
  obtain ⟨z, n, rfl, c⟩ := arD_is h
  rcases c with ⟨rfl, c⟩ | ⟨rfl, c1, c2⟩ | ⟨rfl, c1, c2⟩
  · exact ⟨.late n m, rfl, ⟨c, ok⟩, rfl, rfl⟩
  · exact ⟨.slow n m, rfl, ⟨c1, c2, ok⟩, rfl, rfl⟩
  · exact ⟨.slip n m, rfl, ⟨c1, c2, ok⟩, rfl, rfl⟩
/-- d is e, wrapped so often -/
def Wr : Nat → PyData → PyData → Prop
  | 0, d, e => d = e
  | i + 1, d, e => ∃ f, Wr i d f ∧ arD f = some e
theorem wr_mk : ∀ {i : Nat} {d e : PyData} {m : Mk}, Wr i d e → e = mkd m → m.Ok → ∃ k : Mk, d = mkd k ∧ k.Ok ∧ k.dep = m.dep + i ∧ k.inn = m.inn
  | 0, d, e, m, h, he, ok => ⟨m, by rw [show d = e from h, he], ok, rfl, rfl⟩
  | i + 1, d, e, m, ⟨f, h, hf⟩, he, ok => by
    rw [he] at hf
    obtain ⟨k, e1, ok1, d1, i1⟩ := arD_up hf ok
    obtain ⟨k2, e2, ok2, d2, i2⟩ := wr_mk h e1 ok1
    exact ⟨k2, e2, ok2, by omega, by rw [i2, i1]⟩
theorem mk_wr : ∀ {i : Nat} {d e : PyData} {m : Mk}, Wr i d e → d = mkd m → m.Ok → ∃ k : Mk, e = mkd k ∧ k.Ok ∧ m.dep = k.dep + i ∧ m.inn = k.inn
  | 0, d, e, m, h, he, ok => ⟨m, by rw [← show d = e from h, he], ok, rfl, rfl⟩
  | i + 1, d, e, m, ⟨f, h, hf⟩, he, ok => by
    obtain ⟨k, e1, ok1, d1, i1⟩ := mk_wr h he ok
    rw [e1] at hf
    rcases arD_mk ok1 with ⟨_, _, z⟩ | ⟨k2, z, ok2, d2, i2⟩
    · rw [z] at hf
      cases hf
    · rw [z] at hf
      cases hf
      exact ⟨k2, rfl, ok2, by omega, by rw [i1, i2]⟩
theorem arD_dep {d e : PyData} (h : arD d = some e) : e.depth < d.depth := by
  obtain ⟨z, n, rfl, _⟩ := arD_is h
  simp only [PyData.depth, PyData.depthAll]
  omega
theorem MkAt.sam {H H' : Hp} {m : Mk} {v : V} (h : MkAt H m v) (s : Sam H H') : MkAt H' m v := h.keep fun _ _ e => s.tup e
def isTb (d : PyData) : Bool := match d with
  | .tuple ds => decide (1 ≤ ds.length) && (decide (ds.length ≤ 64) && ds.all fun x => withinD x 0 63)
  | _ => false
theorem all_tk {α : Type} {f : α → Bool} {xs : List α} {i : Nat} {x : α} (h : xs[i]? = some x) : (xs.take (i + 1)).all f = ((xs.take i).all f && f x) := by
  rw [List.take_add_one, h, List.all_append]
  simp
def sp_is_table {K : PySem.W.Frag} {mg : Str → Option Value} (T : Defs K mg) : Sp := fun vs H Q _ => ∃ (p : Addr → Prop) (v : V) (d : PyData), vs = [v] ∧ Tg p H v d ∧ GxR.TabG H T.P_is_table ∧ ∀ H', Sam H H' → Q (.bl (isTb d)) H'
theorem ok_is_table (T : Defs K mg) (TT : Tabs T base) : FnOk P w K mg base CX0 4 T.f_is_table T.fd_is_table ["thing"] (sp_is_table T) := by
  have G_is_within : FnOk P w K mg base CX0 2 T.f_is_within T.fd_is_within ["thing", "least", "greatest"] (sp_is_within K) := ok_is_within T TT
  refine okC T.F_is_table T.k_is_table sc_is_table (fun vs H Q E h => ?_) (fun A outer s H vs Q E hr h => ?_)
  · obtain ⟨p, v, d, rfl, hv, tab, q⟩ := h
    rfl
  · obtain ⟨p, v, d, rfl, hv, tab, q⟩ := h
    refine ⟨_, PSs.nox (pss_cons (ps_if (PW.pt (pw_or (pt_not (pt_val (pe_callB call_isi (by rfl) T.m_isinstance bt_isinstance (pa_cons (pv 0) (pa_cons (pe_bltn (v := .ty "tuple") (by rfl) T.m_tuple bt_tuple rfl) pa_nil))))) (pw_or1 (pt_not (pt_chain op_le op_le pe_int (pe_callB call_len_seq (by rfl) T.m_len bt_len (pa_cons (pv 0) pa_nil)) pe_int))))) (pss_one (ps_ret pe_bl)) pss_nil)
    (pss_one (ps_ret (pe_allE (k := 2) (own := [("number", 1)]) (g := gName 1) (tt := tYes) (hr.mono (by decide)) (by rfl) T.m_all bt_all rfl sc_is_table.nd TT.t_is_table rfl (genOk_by (N := N_is_table) (sc := defScope s_is_table) (own := [("number", 1)]) (by decide +kernel) rfl (by decide +kernel) rfl) (pi_tup (pv 0)) (fun _ _ _ _ _ hr => (pg_name (i := 1) sc_is_table.nd rfl (.inl rfl))) (fun _ _ _ _ _ hr => pts_nil) (fun _ _ _ _ _ hr => (pe_call G_is_within (hr.mono (by decide)) (by rfl) T.g_is_within T.F_is_within.kp T.b_is_within .nil pass0 (pa_cons (pv 1) (pa_cons pe_int (pa_cons pe_int pa_nil))))))))), ?_⟩
    obtain ⟨t, ty, h1, h2, kt, h3⟩ := hv.ty (K := K)
    clear h1 h2 h3
    refine ⟨v, rfl, _, _, _, _, _, rfl, .ty "tuple", ty, kt, _, rfl, ?_⟩
    cases hv with
    | tup np ha hxs =>
      rename_i a xs ds
      have ll := hxs.len
      refine iteF ⟨.ref a, rfl, a, _, rfl, .inr (SqT.mk ha), _, _, rfl, rfl, _, rfl, ?_⟩
      by_cases l1 : 1 ≤ ds.length
      rotate_left
      · rw [decide_eq_false (by omega)]
        refine iteF ⟨_, rfl, iteT ?_⟩
        have e : isTb (.tuple ds) = false := by
          unfold isTb
          dsimp only
          rw [decide_eq_false l1]
          rfl
        have := q H (Sam.refl H)
        rw [e] at this
        exact this
      rw [decide_eq_true (by omega)]
      refine iteT ⟨_, _, rfl, rfl, _, rfl, ?_⟩
      by_cases l2 : ds.length ≤ 64
      rotate_left
      · rw [decide_eq_false (by omega)]
        refine iteT ?_
        have e : isTb (.tuple ds) = false := by
          unfold isTb
          dsimp only
          rw [decide_eq_false l2, Bool.false_and, Bool.and_false]
        have := q H (Sam.refl H)
        rw [e] at this
        exact this
      rw [decide_eq_true (by omega)]
      refine iteF ?_
      have e0 : isTb (.tuple ds) = ds.all fun x => withinD x 0 63 := by
        unfold isTb
        dsimp only
        rw [decide_eq_true l1, decide_eq_true l2]
        rfl
      rw [e0] at q
      refine ⟨.ref a, rfl, a, rfl, ⟨_, SqT.mk ha⟩, tab, fun H2 tb => ?_⟩
      have s2 := Sam.tabbed tab tb
      refine ga_it (walk_tup (xs := xs)) (fun i H3 => Sam H H3 ∧ (ds.take i).all (fun x => withinD x 0 63) = true) ⟨s2, rfl⟩ (fun i H3 _ h => SqT.mk (h.1.tup ha)) ?_ (fun H3 h => ?_)
      · rintro i x H3 H4 hi ⟨s3, al⟩ ⟨rfl, hx⟩
        obtain ⟨e, he, te⟩ := hxs.get hx
        refine ⟨rfl, yes_ite ?_⟩
        refine ⟨x, rfl, p, x, e, 0, 63, rfl, te.sam s3, ⟨withinD e 0 63, rfl, fun w => ?_⟩, fun w => ⟨s3, ?_⟩⟩
        · have : (ds.all fun x => withinD x 0 63) = false := by
            rw [List.all_eq_false]
            exact ⟨e, List.mem_of_getElem? he, by rw [w]; exact Bool.false_ne_true⟩
          rw [this] at q
          exact q _ s3
        · rw [all_tk he, al, show withinD e 0 63 = true from V.bl.inj w]
          rfl
      · obtain ⟨s3, al⟩ := h
        rw [List.take_of_length_le (by omega)] at al
        rw [al] at q
        exact q _ s3
    | _ => exact iteT (q H (Sam.refl H))
theorem pw2 {w : Nat} (h : w ≤ 6) : (1 : Int) * 2 ^ ((w : Int)).toNat = ((2 ^ w : Nat) : Int) := by
  rw [Int.one_mul, Int.toNat_natCast]
  rw [Int.natCast_pow]
  rfl
theorem pw1 {w : Nat} (h : w ≤ 6) (h1 : 1 ≤ w) : (1 : Int) * 2 ^ ((w : Int) - 1).toNat = ((2 ^ (w - 1) : Nat) : Int) := by
  rw [show (w : Int) - 1 = ((w - 1 : Nat) : Int) by omega]
  exact pw2 (by omega)
theorem isTb_is {d : PyData} (h : isTb d = true) : ∃ ns : List Int, d = .tuple (ns.map PyData.int) ∧ (1 ≤ ns.length ∧ ns.length ≤ 64) ∧ ∀ x, x ∈ ns → 0 ≤ x ∧ x ≤ 63 := by
  unfold isTb at h
  split at h
  · rename_i ds
    obtain ⟨h1, h2⟩ := Bool.and_eq_true_iff.mp h
    obtain ⟨h3, h4⟩ := Bool.and_eq_true_iff.mp h2
    have key : ∀ es : List PyData, (es.all fun x => withinD x 0 63) = true → ∃ ns : List Int, es = ns.map PyData.int ∧ ∀ x, x ∈ ns → 0 ≤ x ∧ x ≤ 63 := by
      intro es
      induction es with
      | nil => exact fun _ => ⟨[], rfl, fun _ h => (by cases h)⟩
      | cons e es ih =>
        intro h
        rw [List.all_cons] at h
        obtain ⟨a, b⟩ := Bool.and_eq_true_iff.mp h
        obtain ⟨i, rfl, l, u⟩ := within_is a
        obtain ⟨ns, rfl, hns⟩ := ih b
        refine ⟨i :: ns, rfl, fun x hx => ?_⟩
        rcases List.mem_cons.mp hx with rfl | hx
        · exact ⟨l, u⟩
        · exact hns x hx
    obtain ⟨ns, rfl, hns⟩ := key ds h4
    have h1 := of_decide_eq_true h1
    have h3 := of_decide_eq_true h3
    rw [List.length_map] at h1 h3
    exact ⟨ns, rfl, ⟨h1, h3⟩, hns⟩
  · cases h
theorem isTb_of {ns : List Int} (l : 1 ≤ ns.length ∧ ns.length ≤ 64) (h : ∀ x, x ∈ ns → 0 ≤ x ∧ x ≤ 63) : isTb (.tuple (ns.map PyData.int)) = true := by
  unfold isTb
  dsimp only
  rw [List.length_map, decide_eq_true l.1, decide_eq_true l.2, Bool.true_and, Bool.true_and, List.all_map, List.all_eq_true]
  exact fun x hx => decide_eq_true (h x hx)
theorem gcd1i {s r : Nat} (hr : 1 ≤ r) : decide (V.int (if (1 : Int) > (Int.gcd (s : Int) (r : Int) : Int) then 1 else (Int.gcd (s : Int) (r : Int) : Int)) = V.int 1) = decide (Nat.gcd s r = 1) := by
  have g : Int.gcd (s : Int) (r : Int) = Nat.gcd s r := rfl
  have h2 : 0 < Nat.gcd s r := Nat.gcd_pos_of_pos_right s hr
  rw [g, if_neg (show ¬ (1 : Int) > (Nat.gcd s r : Int) by omega)]
  refine decide_eq_decide.mpr ⟨fun e => ?_, fun e => ?_⟩
  · have := V.int.inj e
    omega
  · rw [e]
    rfl
theorem Tg.sh {p : Addr → Prop} {H : Hp} {v : V} {d : PyData} {k n w : Nat} (_ : Tg p H v d) (b : Bd k n w d) (hn : n ≤ 64) : SeqAt.shaped d = true := b.shaped hn
def sp_is_plain {K : PySem.W.Frag} {mg : Str → Option Value} (T : Defs K mg) : Sp := fun vs H Q _ => ∃ (p : Addr → Prop) (v : V) (d : PyData) (kb nb wb : Nat), vs = [v] ∧ Tg p H v d ∧ Bd kb nb wb d ∧ nb ≤ 60 ∧ GxR.TabG H T.P_is_table ∧ ∀ H' r, Sam H H' → (r = true ↔ plainD d) → Q (.bl r) H'
theorem str_neD {a b : Str} (h : a ≠ b) : PyData.str a ≠ .str b := fun e => h (PyData.str.inj e)
theorem ok_is_plain (T : Defs K mg) (TT : Tabs T base) : FnOk P w K mg base CX0 5 T.f_is_plain T.fd_is_plain ["thing"] (sp_is_plain T) := by
  have G_is_within : FnOk P w K mg base CX0 2 T.f_is_within T.fd_is_within ["thing", "least", "greatest"] (sp_is_within K) := ok_is_within T TT
  have G_is_table : FnOk P w K mg base CX0 4 T.f_is_table T.fd_is_table ["thing"] (sp_is_table T) := ok_is_table T TT
  have G_common_divisor : FnOk P w K mg base CX0 1 T.f_common_divisor T.fd_common_divisor ["one", "other"] (sp_common_divisor K) := ok_common_divisor T TT
  refine T.F_is_plain.ok sc_is_plain (fun vs H Q E h => ?_) (fun cdv A outer s H vs Q E hr h => ?_)
  · obtain ⟨p, v, d, kb, nb, wb, rfl, hv, bd, nb60, tab, q⟩ := h
    rfl
  · obtain ⟨p, v, d, kb, nb, wb, rfl, hv, bd, nb60, tab, q⟩ := h
    refine ⟨_, PSs.nox (pss_cons (ps_if (pt_not (pt_val (pe_callB call_isi (by rfl) T.m_isinstance bt_isinstance (pa_cons (pv 0) (pa_cons (pe_bltn (v := .ty "tuple") (by rfl) T.m_tuple bt_tuple rfl) pa_nil))))) (pss_one (ps_ret pe_bl)) pss_nil)
    (pss_one (ps_match (pv 0) (pcs_seqX hr.units rfl sc_is_plain.nd pe_str (pcap_cons (i := 1) rfl (.inl rfl) (pcap_cons (i := 2) rfl (.inl rfl) (pcap_cons (i := 3) rfl (.inl rfl) pcap_nil))) (pss_cons (ps_if (PW.pt (pw_or (pt_not (pt_val (pe_call G_is_within (hr.mono (by decide)) (by rfl) T.g_is_within T.F_is_within.kp T.b_is_within .nil pass0 (pa_cons (pv 1) (pa_cons pe_int (pa_cons pe_int pa_nil)))))) (pw_or1 (pt_not (pt_val (pe_call G_is_within (hr.mono (by decide)) (by rfl) T.g_is_within T.F_is_within.kp T.b_is_within .nil pass0 (pa_cons (pv 2) (pa_cons pe_int (pa_cons (pv 1) pa_nil))))))))) (pss_one (ps_ret pe_bl)) pss_nil)
    (pss_one (ps_ret (pe_and (pe_cmpR op_eq (pe_call G_common_divisor (hr.mono (by decide)) (by rfl) T.g_common_divisor T.F_common_divisor.kp T.b_common_divisor .nil pass0 (pa_cons (pv 2) (pa_cons (pv 1) pa_nil))) pe_int (nomark _)) (pe_one (pe_call G_is_within (hr.mono (by decide)) (by rfl) T.g_is_within T.F_is_within.kp T.b_is_within .nil pass0 (pa_cons (pv 3) (pa_cons pe_int (pa_cons (pe_op op_sub (pv 1) pe_int) pa_nil)))))))))
    (pcs_seqX hr.units rfl sc_is_plain.nd pe_str (pcap_cons (i := 4) rfl (.inl rfl) (pcap_cons (i := 3) rfl (.inl rfl) pcap_nil)) (pss_one (ps_ret (pe_and (pe_call G_is_within (hr.mono (by decide)) (by rfl) T.g_is_within T.F_is_within.kp T.b_is_within .nil pass0 (pa_cons (pv 4) (pa_cons pe_int (pa_cons pe_int pa_nil)))) (pe_one (pe_call G_is_within (hr.mono (by decide)) (by rfl) T.g_is_within T.F_is_within.kp T.b_is_within .nil pass0 (pa_cons (pv 3) (pa_cons pe_int (pa_cons (pe_op op_sub (pe_op op_shl pe_int (pv 4)) pe_int) pa_nil))))))))
    (pcs_seqX hr.units rfl sc_is_plain.nd pe_str (pcap_cons (i := 4) rfl (.inl rfl) (pcap_cons (i := 5) rfl (.inl rfl) (pcap_cons (i := 3) rfl (.inl rfl) pcap_nil))) (pss_cons (ps_if (PW.pt (pw_or (pt_not (pt_val (pe_call G_is_within (hr.mono (by decide)) (by rfl) T.g_is_within T.F_is_within.kp T.b_is_within .nil pass0 (pa_cons (pv 4) (pa_cons pe_int (pa_cons pe_int pa_nil)))))) (pw_or1 (pt_not (pt_val (pe_call G_is_within (hr.mono (by decide)) (by rfl) T.g_is_within T.F_is_within.kp T.b_is_within .nil pass0 (pa_cons (pv 5) (pa_cons (pe_op op_shl pe_int (pe_op op_sub (pv 4) pe_int)) (pa_cons (pe_op op_sub (pe_op op_shl pe_int (pv 4)) pe_int) pa_nil))))))))) (pss_one (ps_ret pe_bl)) pss_nil)
    (pss_one (ps_ret (pe_call G_is_within (hr.mono (by decide)) (by rfl) T.g_is_within T.F_is_within.kp T.b_is_within .nil pass0 (pa_cons (pv 3) (pa_cons pe_int (pa_cons (pe_op op_sub (pe_op op_shl pe_int (pv 4)) pe_int) pa_nil)))))))
    (pcs_seqX hr.units rfl sc_is_plain.nd pe_str (pcap_cons (i := 6) rfl (.inl rfl) pcap_nil) (pss_one (ps_ret (pe_call G_is_table (hr.mono (by decide)) (by rfl) T.g_is_table T.F_is_table.kp T.b_is_table .nil pass0 (pa_cons (pv 6) pa_nil))))
    (pcs_any (pss_one (ps_ret pe_bl)))))))))), ?_⟩
    have no : ¬ plainD d → ∀ H', Sam H H' → Q (.bl false) H' := fun z H' s => q H' false s ⟨fun e => (by cases e), fun e => absurd e z⟩
    obtain ⟨t, ty, h1, h2, kt, h3⟩ := hv.ty (K := K)
    clear h1 h2 h3
    refine ⟨v, rfl, _, _, _, _, _, rfl, .ty "tuple", ty, kt, _, rfl, ?_⟩
    cases hv with
    | tup np ha hxs =>
      rename_i a xs ds
      have ll := hxs.len
      refine iteF ⟨.ref a, rfl, a, xs, rfl, SqT.mk ha, ?_⟩
      have bdi := bd.itemsT.2
      match xs, ds, hxs, ha, ll, no, q, bdi with
      | [], [], hxs, ha, _, no, q, _ =>
        refine .inl ⟨by simp, .inl ⟨by simp, .inl ⟨by simp, .inl ⟨by simp, ?_⟩⟩⟩⟩
        refine no ?_ H (Sam.refl H)
        intro z
        rcases pl_cases z with ⟨_, _, _, e, _⟩ | ⟨_, _, e, _⟩ | ⟨_, _, _, e, _⟩ | ⟨_, e, _⟩ <;> cases e
      | [x0], [d0], hxs, ha, _, no, q, _ =>
        refine .inl ⟨by simp, .inl ⟨by simp, .inl ⟨by simp, .inl ⟨by simp, ?_⟩⟩⟩⟩
        refine no ?_ H (Sam.refl H)
        intro z
        rcases pl_cases z with ⟨_, _, _, e, _⟩ | ⟨_, _, e, _⟩ | ⟨_, _, _, e, _⟩ | ⟨_, e, _⟩ <;> cases e
      | [x0, x1], [d0, d1], hxs, ha, _, no, q, bdi =>
        obtain ⟨_, _, ee, t0, t1⟩ := hxs.two
        cases ee
        have sh0 := (bdi.get (d := d0) List.mem_cons_self).shaped (by omega)
        refine .inl ⟨by simp, .inl ⟨by simp, .inl ⟨by simp, .inr ⟨x0, [x1], d0, rfl, rfl, t0.dp, sh0, ?_⟩⟩⟩⟩
        by_cases hw : d0 = .str "table"
        · refine .inl ⟨hw, x1, rfl, p, x1, d1, rfl, t1, tab, fun H1 s1 => q H1 _ s1 ⟨fun e => ?_, fun z => ?_⟩⟩
          · obtain ⟨ns, rfl, l, hns⟩ := isTb_is e
            rw [hw]
            exact ⟨.table ns, rfl, ⟨l.1, l.2, hns⟩, trivial⟩
          · rcases pl_cases z with ⟨_, _, _, e, _⟩ | ⟨_, _, e, _⟩ | ⟨_, _, _, e, _⟩ | ⟨ns, e, l, hns⟩
            · cases e
            · cases e
            · cases e
            · cases e
              exact isTb_of l hns
        · refine .inr ⟨hw, no ?_ H (Sam.refl H)⟩
          intro z
          rcases pl_cases z with ⟨_, _, _, e, _⟩ | ⟨_, _, e, _⟩ | ⟨_, _, _, e, _⟩ | ⟨ns, e, l, hns⟩
          · cases e
          · cases e
          · cases e
          · cases e
            exact hw rfl
      | [x0, x1, x2], [d0, d1, d2], hxs, ha, _, no, q, bdi =>
        obtain ⟨_, _, _, ee, t0, t1, t2⟩ := hxs.three
        cases ee
        have sh0 := (bdi.get (d := d0) List.mem_cons_self).shaped (by omega)
        refine .inl ⟨by simp, .inr ⟨x0, [x1, x2], d0, rfl, rfl, t0.dp, sh0, ?_⟩⟩
        by_cases hw : d0 = .str "turned"
        · subst hw
          refine .inl ⟨rfl, x1, rfl, p, x1, d1, 1, 6, rfl, t1, _, rfl, ?_⟩
          cases h1 : withinD d1 1 6 with
          | false =>
            refine iteF (no ?_ H (Sam.refl H))
            intro z
            rcases pl_cases z with ⟨_, _, _, e, _⟩ | ⟨w', s', e, hw', hs'⟩ | ⟨_, _, _, e, _⟩ | ⟨ns, e, _⟩
            · cases e
            · cases e
              exact within_no h1 (by omega)
            · cases e
            · cases e
          | true =>
            obtain ⟨i, rfl, l, u⟩ := within_is h1
            obtain ⟨w', rfl⟩ := nat_of (show 0 ≤ i by omega)
            obtain rfl := t1.intv
            refine iteT ⟨x2, rfl, _, rfl, _, _, rfl, rfl, ⟨by omega, by omega, by decide⟩, _, _, rfl, rfl, p, x2, d2, 0, _, rfl, t2, ?_⟩
            refine q H _ (Sam.refl H) ?_
            rw [pw2 (by omega)]
            constructor
            · intro e
              obtain ⟨j, rfl, l2, u2⟩ := within_is e
              obtain ⟨s', rfl⟩ := nat_of l2
              exact ⟨.turned w' s', rfl, ⟨by omega, by omega, by omega⟩, trivial⟩
            · intro z
              rcases pl_cases z with ⟨_, _, _, e, _⟩ | ⟨w2, s', e, hw', hs'⟩ | ⟨_, _, _, e, _⟩ | ⟨ns, e, _⟩
              · cases e
              · simp only [List.cons.injEq, PyData.int.injEq, and_true] at e
                obtain ⟨_, e1, rfl⟩ := e
                have e1 : w2 = w' := by omega
                subst e1
                exact decide_eq_true (by omega)
              · cases e
              · cases e
        · refine .inr ⟨hw, .inl ⟨by simp, .inl ⟨by simp, ?_⟩⟩⟩
          refine no ?_ H (Sam.refl H)
          intro z
          rcases pl_cases z with ⟨_, _, _, e, _⟩ | ⟨_, _, e, _⟩ | ⟨_, _, _, e, _⟩ | ⟨ns, e, _⟩
          · cases e
          · cases e
            exact hw rfl
          · cases e
          · cases e
      | [x0, x1, x2, x3], [d0, d1, d2, d3], hxs, ha, _, no, q, bdi =>
        obtain ⟨_, _, _, _, ee, t0, t1, t2, t3⟩ := hxs.four
        cases ee
        have sh0 := (bdi.get (d := d0) List.mem_cons_self).shaped (by omega)
        refine .inr ⟨x0, [x1, x2, x3], d0, rfl, rfl, t0.dp, sh0, ?_⟩
        by_cases hw : d0 = .str "counter"
        · subst hw
          have cn : plainD (.tuple [.str "counter", d1, d2, d3]) → ∃ r s t : Nat, d1 = .int r ∧ d2 = .int s ∧ d3 = .int t ∧ (1 ≤ r ∧ r ≤ 64) ∧ (1 ≤ s ∧ s ≤ r) ∧ Nat.gcd s r = 1 ∧ t < r := by
            intro z
            rcases pl_cases z with ⟨r, s, t, e, h1, h2, h3, h4⟩ | ⟨_, _, e, _⟩ | ⟨_, _, _, e, _⟩ | ⟨ns, e, _⟩
            · cases e
              exact ⟨r, s, t, rfl, rfl, rfl, h1, h2, h3, h4⟩
            · cases e
            · simp only [List.cons.injEq, PyData.str.injEq] at e
              exact absurd e.1 (by decide +kernel)
            · cases e
          refine .inl ⟨rfl, x1, rfl, p, x1, d1, 1, 64, rfl, t1, _, rfl, ?_⟩
          cases h1 : withinD d1 1 64 with
          | false =>
            refine iteT (no ?_ H (Sam.refl H))
            intro z
            obtain ⟨r, s, t, rfl, _, _, b1, _⟩ := cn z
            exact within_no h1 (by omega)
          | true =>
          obtain ⟨i, rfl, l, u⟩ := within_is h1
          obtain ⟨r, rfl⟩ := nat_of (show 0 ≤ i by omega)
          obtain rfl := t1.intv
          refine iteF ⟨x2, rfl, _, rfl, p, x2, d2, 1, (r : Int), rfl, t2, _, rfl, ?_⟩
          cases h2 : withinD d2 1 (r : Int) with
          | false =>
            refine iteT (no ?_ H (Sam.refl H))
            intro z
            obtain ⟨r', s, t, e1, rfl, _, b1, b2, _⟩ := cn z
            have e1 : r = r' := by have := PyData.int.inj e1; omega
            subst e1
            exact within_no h2 (by omega)
          | true =>
          obtain ⟨i2, rfl, l2, u2⟩ := within_is h2
          obtain ⟨s', rfl⟩ := nat_of (show 0 ≤ i2 by omega)
          obtain rfl := t2.intv
          refine iteF ⟨_, rfl, _, rfl, (s' : Int), (r : Int), rfl, rfl, _, rfl, ?_⟩
          rw [gcd1i (by omega)]
          by_cases hg : Nat.gcd s' r = 1
          rotate_left
          · rw [decide_eq_false hg]
            refine iteF (no ?_ H (Sam.refl H))
            intro z
            obtain ⟨r', s2, t, e1, e2, _, b1, b2, b3, _⟩ := cn z
            have e1 : r = r' := by have := PyData.int.inj e1; omega
            have e2 : s' = s2 := by have := PyData.int.inj e2; omega
            subst e1 e2
            exact hg b3
          rw [decide_eq_true hg]
          refine iteT ⟨x3, rfl, _, rfl, _, _, rfl, rfl, p, x3, d3, 0, _, rfl, t3, q H _ (Sam.refl H) ⟨fun e => ?_, fun z => ?_⟩⟩
          · obtain ⟨i3, rfl, l3, u3⟩ := within_is e
            obtain ⟨t', rfl⟩ := nat_of l3
            exact ⟨.counter r s' t', rfl, ⟨by omega, by omega, by omega, by omega⟩, ⟨by omega, by omega, hg⟩⟩
          · obtain ⟨r', s2, t', e1, e2, rfl, b1, b2, b3, b4⟩ := cn z
            have e1 : r = r' := by have := PyData.int.inj e1; omega
            subst e1
            exact decide_eq_true (by omega)
        · refine .inr ⟨hw, .inl ⟨by simp, .inr ⟨x0, [x1, x2, x3], d0, rfl, rfl, t0.dp, sh0, ?_⟩⟩⟩
          by_cases hw2 : d0 = .str "register"
          rotate_left
          · refine .inr ⟨hw2, .inl ⟨by simp, ?_⟩⟩
            refine no ?_ H (Sam.refl H)
            intro z
            rcases pl_cases z with ⟨_, _, _, e, _⟩ | ⟨_, _, e, _⟩ | ⟨_, _, _, e, _⟩ | ⟨ns, e, _⟩
            · cases e
              exact hw rfl
            · cases e
            · cases e
              exact hw2 rfl
            · cases e
          subst hw2
          have cn : plainD (.tuple [.str "register", d1, d2, d3]) → ∃ w q s : Nat, d1 = .int w ∧ d2 = .int q ∧ d3 = .int s ∧ RgW w q ∧ 1 ≤ s ∧ s < 2 ^ w := by
            intro z
            rcases pl_cases z with ⟨r, s, t, e, h1, h2, h3, h4⟩ | ⟨_, _, e, _⟩ | ⟨w', q', s', e, h1, h2, h3⟩ | ⟨ns, e, _⟩
            · simp only [List.cons.injEq, PyData.str.injEq] at e
              exact absurd e.1 (by decide +kernel)
            · cases e
            · cases e
              exact ⟨w', q', s', rfl, rfl, rfl, h1, h2, h3⟩
            · cases e
          refine .inl ⟨rfl, x1, rfl, p, x1, d1, 2, 6, rfl, t1, _, rfl, ?_⟩
          cases h1 : withinD d1 2 6 with
          | false =>
            refine iteT (no ?_ H (Sam.refl H))
            intro z
            obtain ⟨w', q', s', rfl, _, _, rg, _⟩ := cn z
            have := rg.lo
            have := rg.hi
            exact within_no h1 (by omega)
          | true =>
          obtain ⟨i, rfl, l, u⟩ := within_is h1
          obtain ⟨w', rfl⟩ := nat_of (show 0 ≤ i by omega)
          obtain rfl := t1.intv
          refine iteF ⟨x2, rfl, _, rfl, _, _, rfl, rfl, _, _, rfl, rfl, ⟨by omega, by omega, by decide⟩, _, rfl, _, _, rfl, rfl, ⟨by omega, by omega, by decide⟩, _, _, rfl, rfl, p, x2, d2, _, _, rfl, t2, _, rfl, ?_⟩
          rw [pw1 (by omega) (by omega), pw2 (by omega)]
          cases h2 : withinD d2 ((2 ^ (w' - 1) : Nat) : Int) (((2 ^ w' : Nat) : Int) - 1) with
          | false =>
            refine iteT (no ?_ H (Sam.refl H))
            intro z
            obtain ⟨w2, q', s', e1, rfl, _, rg, _⟩ := cn z
            have e1 : w' = w2 := by have := PyData.int.inj e1; omega
            subst e1
            have := rg.pl
            have := rg.ph
            exact within_no h2 (by omega)
          | true =>
          obtain ⟨i2, rfl, l2, u2⟩ := within_is h2
          obtain ⟨q', rfl⟩ := nat_of (Int.le_trans (Int.natCast_nonneg _) l2)
          obtain rfl := t2.intv
          refine iteF ⟨x3, rfl, _, rfl, _, _, rfl, rfl, ⟨by omega, by omega, by decide⟩, _, _, rfl, rfl, p, x3, d3, 1, _, rfl, t3, q H _ (Sam.refl H) ?_⟩
          rw [pw2 (by omega)]
          constructor
          · intro e
            obtain ⟨i3, rfl, l3, u3⟩ := within_is e
            obtain ⟨s', rfl⟩ := nat_of (show 0 ≤ i3 by omega)
            exact ⟨.register w' q' s', rfl, ⟨⟨by omega, by omega, by omega, by omega⟩, by omega, by omega⟩, trivial⟩
          · intro z
            obtain ⟨w2, q2, s', e1, e2, rfl, rg, b1, b2⟩ := cn z
            have e1 : w' = w2 := by have := PyData.int.inj e1; omega
            subst e1
            exact decide_eq_true (by omega)
      | x0 :: x1 :: x2 :: x3 :: x4 :: r, d0 :: d1 :: d2 :: d3 :: d4 :: r', hxs, ha, _, no, q, _ =>
        refine .inl ⟨by simp, .inl ⟨by simp, .inl ⟨by simp, .inl ⟨by simp, ?_⟩⟩⟩⟩
        refine no ?_ H (Sam.refl H)
        intro z
        rcases pl_cases z with ⟨_, _, _, e, _⟩ | ⟨_, _, e, _⟩ | ⟨_, _, _, e, _⟩ | ⟨ns, e, _⟩ <;> cases e
    | _ => exact iteT (no (by rintro ⟨m, e, _⟩; cases m <;> cases e) H (Sam.refl H))
def sp_is_around (_ : PySem.W.Frag) : Sp := fun vs H Q _ => ∃ (p : Addr → Prop) (v : V) (d : PyData) (kb nb wb : Nat), vs = [v] ∧ Tg p H v d ∧ Bd kb nb wb d ∧ nb ≤ 60 ∧ Q (.bl (arD d).isSome) H
theorem arD_len {ds : List PyData} (h : ds.length ≠ 3) : arD (.tuple ds) = none := by
  match ds, h with
  | [], _ => rfl
  | [x], _ => cases x <;> rfl
  | [x, _], _ => cases x <;> rfl
  | [_, _, _], h => exact absurd rfl h
  | x :: _ :: _ :: _ :: _, _ => cases x <;> rfl
theorem arD_noz {x y e : PyData} (h : ∀ z, x ≠ .str z) : arD (.tuple [x, y, e]) = none := by
  cases x with
  | str z => exact absurd rfl (h z)
  | _ => rfl
theorem eqv_strF {d : PyData} {z : Str} (h : d ≠ .str z) : PyData.eqv d (.str z) = false := by
  cases hq : PyData.eqv d (.str z) with
  | false => rfl
  | true => exact absurd (eqv_strD.mp hq) h
theorem ok_is_around (T : Defs K mg) (TT : Tabs T base) : FnOk P w K mg base CX0 3 T.f_is_around T.fd_is_around ["thing"] (sp_is_around K) := by
  have G_is_within : FnOk P w K mg base CX0 2 T.f_is_within T.fd_is_within ["thing", "least", "greatest"] (sp_is_within K) := ok_is_within T TT
  refine T.F_is_around.ok sc_is_around (fun vs H Q E h => ?_) (fun cdv A outer s H vs Q E hr h => ?_)
  · obtain ⟨p, v, d, kb, nb, wb, rfl, hv, bd, nb60, q⟩ := h
    rfl
  · obtain ⟨p, v, d, kb, nb, wb, rfl, hv, bd, nb60, q⟩ := h
    refine ⟨_, PSs.nox (pss_cons (ps_if (PW.pt (pw_or (pt_not (pt_val (pe_callB call_isi (by rfl) T.m_isinstance bt_isinstance (pa_cons (pv 0) (pa_cons (pe_bltn (v := .ty "tuple") (by rfl) T.m_tuple bt_tuple rfl) pa_nil))))) (pw_or1 (pt_cmpR op_ne (pe_callB call_len_seq (by rfl) T.m_len bt_len (pa_cons (pv 0) pa_nil)) pe_int (nomark _))))) (pss_one (ps_ret pe_bl)) pss_nil)
    (pss_cons (ps_asg (pv 0) (pg_tup rfl (pgs_cons (pg_name (i := 1) sc_is_around.nd rfl (.inl rfl)) (pgs_cons (pg_name (i := 2) sc_is_around.nd rfl (.inl rfl)) (pgs_cons (pg_name (i := 3) sc_is_around.nd rfl (.inl rfl)) pgs_nil)))))
    (pss_cons (ps_if (pt_cmpR (op_eqD hr.units) (pv 1) pe_str (nomark _)) (pss_one (ps_ret (pe_call G_is_within (hr.mono (by decide)) (by rfl) T.g_is_within T.F_is_within.kp T.b_is_within .nil pass0 (pa_cons (pv 2) (pa_cons pe_int (pa_cons pe_int pa_nil)))))) pss_nil)
    (pss_one (ps_ret (pe_and (pe_or (pe_cmpR (op_eqD hr.units) (pv 1) pe_str (nomark _)) (pe_one (pe_cmpR (op_eqD hr.units) (pv 1) pe_str (nomark _)))) (pe_one (pe_call G_is_within (hr.mono (by decide)) (by rfl) T.g_is_within T.F_is_within.kp T.b_is_within .nil pass0 (pa_cons (pv 2) (pa_cons pe_int (pa_cons pe_int pa_nil))))))))))), ?_⟩
    obtain ⟨t, ty, h1, h2, kt, h3⟩ := hv.ty (K := K)
    clear h1 h2 h3
    refine ⟨v, rfl, _, _, _, _, _, rfl, .ty "tuple", ty, kt, _, rfl, ?_⟩
    cases hv with
    | tup np ha hxs =>
      rename_i a xs ds
      have ll := hxs.len
      refine iteF ⟨.ref a, rfl, a, _, rfl, .inr (SqT.mk ha), rfl, _, rfl, ?_⟩
      by_cases l3 : xs.length = 3
      rotate_left
      · rw [decide_eq_false (show ¬ V.int ((xs.length : Nat) : Int) = V.int 3 from fun e => l3 (by have := V.int.inj e; omega))]
        rw [arD_len (by omega)] at q
        exact iteT q
      rw [decide_eq_true (show V.int ((xs.length : Nat) : Int) = V.int 3 by rw [l3]; rfl)]
      refine iteF ?_
      have bdi := bd.itemsT.2
      match xs, ds, hxs, ha, ll, q, l3, bdi with
      | [x0, x1, x2], [d0, d1, d2], hxs, ha, _, q, _, bdi =>
        obtain ⟨_, _, _, ee, t0, t1, t2⟩ := hxs.three
        cases ee
        have sh0 := (bdi.get (d := d0) List.mem_cons_self).shaped (by omega)
        refine ⟨.ref a, rfl, a, _, rfl, SqT.mk ha, rfl, _, _, rfl, _, _, rfl, _, _, rfl, rfl, ?_⟩
        refine ⟨x0, rfl, d0, .str "late", t0.dp, .str _, sh0, by decide +kernel, _, rfl, ?_⟩
        by_cases hw : d0 = .str "late"
        · rw [eqv_strD.mpr hw]
          subst hw
          refine iteT ⟨x1, rfl, p, x1, d1, 0, 64, rfl, t1, ?_⟩
          have e : withinD d1 0 64 = (arD (.tuple [.str "late", d1, d2])).isSome := by
            unfold arD
            dsimp only
            rw [if_pos rfl]
            cases withinD d1 0 64 <;> rfl
          rw [e]
          exact q
        rw [eqv_strF hw]
        refine iteF ⟨x0, rfl, d0, .str "slow", t0.dp, .str _, sh0, by decide +kernel, _, rfl, ?_⟩
        by_cases hw2 : d0 = .str "slow"
        · rw [eqv_strD.mpr hw2]
          subst hw2
          refine iteT ⟨_, rfl, iteT ⟨x1, rfl, p, x1, d1, 1, 64, rfl, t1, ?_⟩⟩
          have e : withinD d1 1 64 = (arD (.tuple [.str "slow", d1, d2])).isSome := by
            unfold arD
            dsimp only
            rw [if_neg (by decide +kernel), if_pos (.inl rfl)]
            cases withinD d1 1 64 <;> rfl
          rw [e]
          exact q
        rw [eqv_strF hw2]
        refine iteF ⟨x0, rfl, d0, .str "slip", t0.dp, .str _, sh0, by decide +kernel, ?_⟩
        by_cases hw3 : d0 = .str "slip"
        · rw [eqv_strD.mpr hw3]
          subst hw3
          refine ⟨_, rfl, iteT ⟨x1, rfl, p, x1, d1, 1, 64, rfl, t1, ?_⟩⟩
          have e : withinD d1 1 64 = (arD (.tuple [.str "slip", d1, d2])).isSome := by
            unfold arD
            dsimp only
            rw [if_neg (by decide +kernel), if_pos (.inr rfl)]
            cases withinD d1 1 64 <;> rfl
          rw [e]
          exact q
        rw [eqv_strF hw3]
        refine ⟨_, rfl, iteF ?_⟩
        have e : arD (.tuple [d0, d1, d2]) = none := by
          cases d0 with
          | str z =>
            unfold arD
            dsimp only
            rw [if_neg (fun e => hw (congrArg PyData.str e)), if_neg (fun e => e.elim (fun e => hw2 (congrArg PyData.str e)) (fun e => hw3 (congrArg PyData.str e)))]
          | _ => rfl
        rw [e] at q
        exact q
    | _ => exact iteT q
theorem wr_no {i : Nat} {d e : PyData} (w : Wr i d e) (n : arD e = none) (h : isMkD d) : i ≤ 3 ∧ plainD e := by
  obtain ⟨m, he, ok, vd, dp, rn⟩ := h
  obtain ⟨k, rfl, ok2, d2, i2⟩ := mk_wr w he ok
  rcases arD_mk ok2 with ⟨d0, pl, _⟩ | ⟨k2, z, _⟩
  · rw [i2, Mk.inn_self d0] at vd
    exact ⟨by omega, k, rfl, pl, vd⟩
  · rw [n] at z
    cases z
theorem pl_ok {m : Mk} (h : m.Pl) : m.Ok ∧ m.dep = 0 := by
  cases m with
  | slow n m => exact h.elim
  | slip n m => exact h.elim
  | late n m => exact h.elim
  | _ => exact ⟨h, rfl⟩
theorem wr_yes {i : Nat} {d e : PyData} (w : Wr i d e) (h : plainD e) : ∃ m : Mk, d = mkd m ∧ m.Ok ∧ m.inn.Vd ∧ m.dep = i := by
  obtain ⟨m0, he, pl, vd⟩ := h
  obtain ⟨ok0, d0⟩ := pl_ok pl
  obtain ⟨k, e1, ok1, d1, i1⟩ := wr_mk w he ok0
  exact ⟨k, e1, ok1, by rw [i1, Mk.inn_self d0]; exact vd, by omega⟩
def sp_is_maker {K : PySem.W.Frag} {mg : Str → Option Value} (T : Defs K mg) : Sp := fun vs H Q _ => ∃ (p : Addr → Prop) (v : V) (d : PyData) (kb nb wb : Nat), vs = [v] ∧ Tg p H v d ∧ Bd kb nb wb d ∧ nb ≤ 60 ∧ GxR.TabG H T.P_is_table ∧ ∀ H' r, Sam H H' → (r = true ↔ isMkD d) → Q (.bl r) H'
theorem Bd.around {k n w : Nat} {d e : PyData} (h : Bd k n w d) (a : arD d = some e) : Bd k n w e := by
  obtain ⟨z, i, rfl, _⟩ := arD_is a
  have := h.itemsT.2.get (d := e) (by simp)
  exact this.mono (Nat.le_refl _) (by omega) (Nat.le_refl _)
theorem ok_is_maker (T : Defs K mg) (TT : Tabs T base) : FnOk P w K mg base CX0 10 T.f_is_maker T.fd_is_maker ["thing"] (sp_is_maker T) := by
  have G_is_around : FnOk P w K mg base CX0 3 T.f_is_around T.fd_is_around ["thing"] (sp_is_around K) := ok_is_around T TT
  have G_round_of : FnOk P w K mg base CX0 9 T.f_round_of T.fd_round_of ["maker"] (sp_round_of K) := ok_round_of T TT
  have G_is_plain : FnOk P w K mg base CX0 5 T.f_is_plain T.fd_is_plain ["thing"] (sp_is_plain T) := ok_is_plain T TT
  refine T.F_is_maker.ok sc_is_maker (fun vs H Q E h => ?_) (fun cdv A outer s H vs Q E hr h => ?_)
  · obtain ⟨p, v, d, kb, nb, wb, rfl, hv, bd, nb60, tab, q⟩ := h
    rfl
  · obtain ⟨p, v, d, kb, nb, wb, rfl, hv, bd, nb60, tab, q⟩ := h
    refine ⟨_, PSs.nox (pss_cons (ps_set (i := 1) sc_is_maker.nd rfl (.inl rfl) (pv 0))
    (pss_cons (ps_set (i := 2) sc_is_maker.nd rfl (.inl rfl) pe_int)
    (pss_cons (ps_while PassesOwn.never (pt_val (pe_call G_is_around (hr.mono (by decide)) (by rfl) T.g_is_around T.F_is_around.kp T.b_is_around .nil pass0 (pa_cons (pv 1) pa_nil))) (pss_cons (ps_set (i := 1) sc_is_maker.nd rfl (.inl rfl) (pe_ix ix_tup (pv 1) pe_int (fun _ _ => rfl)))
    (pss_one (ps_aug (i := 2) sc_is_maker.nd rfl (.inl rfl) pe_int ip_add))))
    (pss_cons (ps_if (PW.pt (pw_or (pt_cmpR op_gt (pv 2) (pe_globI (by rfl) T.i_MOST_AROUND) (nomark _)) (pw_or1 (pt_not (pt_val (pe_call G_is_plain (hr.mono (by decide)) (by rfl) T.g_is_plain T.F_is_plain.kp T.b_is_plain .nil pass0 (pa_cons (pv 1) pa_nil))))))) (pss_one (ps_ret pe_bl)) pss_nil)
    (pss_one (ps_ret (pe_cmpR op_le (pe_call G_round_of (hr.mono (by decide)) (by rfl) T.g_round_of T.F_round_of.kp T.b_round_of .nil pass0 (pa_cons (pv 0) pa_nil)) (pe_globI (by rfl) T.i_LONGEST) (nomark _)))))))), ?_⟩
    have no : ¬ isMkD d → ∀ H', Sam H H' → Q (.bl false) H' := fun z H' s => q H' false s ⟨fun e => (by cases e), fun e => absurd e z⟩
    refine ⟨v, rfl, fun n σ H1 => ∃ (e : PyData) (u : V) (i : Nat), e.depth = n ∧ σ = [some v, some u, some (.int (i : Nat))] ∧ H1 = H ∧ Tg p H u e ∧ Wr i d e ∧ Bd kb nb wb e, ⟨_, d, v, 0, rfl, rfl, rfl, hv, rfl, bd⟩, ?_⟩
    rintro n σ H1 ⟨e, u, i, rfl, rfl, rfl, tu, wr, be⟩
    refine ⟨u, rfl, p, u, e, kb, nb, wb, rfl, tu, be, nb60, _, rfl, ?_⟩
    cases ha : arD e with
    | some f =>
      refine iteT ⟨_, fun σ' H' h => h, ?_⟩
      have lt := arD_dep ha
      obtain ⟨z, k, rfl, c⟩ := arD_is ha
      obtain ⟨a, xs, rfl, np, hA, hx⟩ := tu.tupv
      obtain ⟨x0, x1, x2, rfl, t0, t1, t2⟩ := hx.three
      refine ⟨.ref a, rfl, a, _, 2, _, rfl, rfl, SqT.mk hA, atI_nat (j := 2) rfl, ?_⟩
      refine ⟨_, rfl, _, _, rfl, rfl, ?_⟩
      exact ⟨f.depth, lt, f, x2, i + 1, rfl, rfl, rfl, t2, ⟨_, wr, ha⟩, be.around ha⟩
    | none =>
      refine iteF ⟨_, rfl, _, _, rfl, rfl, _, rfl, ?_⟩
      by_cases i3 : i ≤ 3
      rotate_left
      · rw [decide_eq_true (by omega)]
        refine iteT (no ?_ H1 (Sam.refl H1))
        intro z
        exact i3 (wr_no wr ha z).1
      rw [decide_eq_false (by omega)]
      refine iteF ⟨u, rfl, p, u, e, kb, nb, wb, rfl, tu, be, nb60, tab, fun H2 r s2 hr => ⟨_, rfl, ?_⟩⟩
      cases r with
      | false =>
        refine iteT (no ?_ H2 s2)
        intro z
        have := hr.mpr (wr_no wr ha z).2
        cases this
      | true =>
        obtain ⟨m, rfl, ok, vd, dp⟩ := wr_yes wr (hr.mp rfl)
        refine iteF ⟨v, rfl, m, v, rfl, (tg_mk hv).sam s2, ok, by omega, fun H3 s3 => ⟨_, _, rfl, rfl, ?_⟩⟩
        have e : decide (((m.rnd : Nat) : Int) ≤ 4096) = decide (m.rnd ≤ 4096) := decide_eq_decide.mpr ⟨fun z => by omega, fun z => by omega⟩
        show Q (.bl (decide (((m.rnd : Nat) : Int) ≤ 4096))) H3
        rw [e]
        refine q _ _ (s2.trans (Sam.of s3)) ⟨fun z => ⟨m, rfl, ok, vd, by omega, of_decide_eq_true z⟩, fun z => ?_⟩
        obtain ⟨m2, e2, _, _, _, rn⟩ := z
        rw [mkd_inj e2]
        exact decide_eq_true rn
def sp__law_is_number (_ : PySem.W.Frag) : Sp := fun vs H Q _ => ∃ (p : Addr → Prop) (x : V) (d : PyData) (lo hi : Int), vs = [x, .int lo, .int hi] ∧ Tg p H x d ∧ Q (.bl (withinD d lo hi)) H
theorem ok__law_is_number (T : Defs K mg) (TT : Tabs T base) : FnOk P w K mg base CX0 1 T.f__law_is_number T.fd__law_is_number ["_law_thing", "_law_least", "_law_most"] (sp__law_is_number K) := by
  refine T.F__law_is_number.ok sc__law_is_number (fun vs H Q E h => ?_) (fun cdv A outer s H vs Q E hr h => ?_)
  · obtain ⟨p, x, d, lo, hi, rfl, hx, q⟩ := h
    rfl
  · obtain ⟨p, x, d, lo, hi, rfl, hx, q⟩ := h
    refine ⟨_, PSs.nox (pss_one (ps_ret (pe_and (pe_callB call_isi (by rfl) T.m_isinstance bt_isinstance (pa_cons (pv 0) (pa_cons (pe_bltn (v := .ty "int") (by rfl) T.m_int bt_int rfl) pa_nil))) (pe_and (pe_not (pe_callB call_isi (by rfl) T.m_isinstance bt_isinstance (pa_cons (pv 0) (pa_cons (pe_bltn (v := .ty "bool") (by rfl) T.m_bool bt_bool rfl) pa_nil)))) (pe_one (pe_chain op_le op_le (pv 1) (pv 0) (pv 2))))))), ?_⟩
    obtain ⟨t, ty, ki, kb, _⟩ := hx.ty (K := K)
    refine ⟨x, rfl, _, _, _, _, _, rfl, .ty "int", ty, ki, _, rfl, ?_⟩
    cases hx with
    | int i =>
      refine iteT ⟨_, rfl, _, _, _, _, _, rfl, .ty "bool", ty, kb, _, rfl, _, rfl, iteT ⟨_, rfl, _, rfl, _, _, rfl, rfl, _, rfl, ?_⟩⟩
      by_cases z : lo ≤ i
      · rw [decide_eq_true z]
        refine iteT ⟨_, rfl, _, _, rfl, rfl, ?_⟩
        have e : decide (i ≤ hi) = withinD (.int i) lo hi := decide_eq_decide.mpr ⟨fun y => ⟨z, y⟩, fun y => y.2⟩
        show Q (.bl (decide (i ≤ hi))) H
        rw [e]
        exact q
      · rw [decide_eq_false z]
        refine iteF ?_
        have e : withinD (.int i) lo hi = false := decide_eq_false (fun y => z y.1)
        rw [e] at q
        exact q
    | bl b => exact iteT ⟨_, rfl, _, _, _, _, _, rfl, .ty "bool", ty, kb, _, rfl, _, rfl, iteF q⟩
    | _ => exact iteF q
theorem str_noA {a b : Str} (h : a ≠ b) : decide (V.str a = V.str b) = false := decide_eq_false fun e => h (V.str.inj e)
theorem inV_no {z : Str} : ∀ {zs : List Str}, (∀ y, y ∈ zs → z ≠ y) → inV (.str z) (zs.map V.str) = false
  | [], _ => rfl
  | y :: ys, h => by
    have h1 : eqV (.str y) (.str z) = false := by
      show (y == z) = false
      exact beq_false_of_ne fun e => h y List.mem_cons_self e.symm
    have h2 := inV_no (zs := ys) fun u hu => h u (List.mem_cons_of_mem _ hu)
    show (eqV (.str y) (.str z) || inV (.str z) (ys.map V.str)) = false
    rw [h1, h2]
    rfl
theorem kS_ne {a b : Str} (h : a ≠ b) : (Sum.inr a : Key) ≠ .inr b := fun e => h (Sum.inr.inj e)
abbrev kS (z : Str) : Key := .inr z
def d3k : List (Key × V) := [(kS "counter", .int 3), (kS "turned", .int 2), (kS "register", .int 3)]
theorem d3_c : valV (mergeK [] d3k) (kS "counter") = some (.int 3) := by
  show valV (putK (putK (putK [] (kS "counter") (.int 3)) (kS "turned") (.int 2)) (kS "register") (.int 3)) (kS "counter") = _
  rw [valV_put, if_neg (by decide +kernel), valV_put, if_neg (by decide +kernel), valV_put, if_pos rfl]
theorem d3_t : valV (mergeK [] d3k) (kS "turned") = some (.int 2) := by
  show valV (putK (putK (putK [] (kS "counter") (.int 3)) (kS "turned") (.int 2)) (kS "register") (.int 3)) (kS "turned") = _
  rw [valV_put, if_neg (by decide +kernel), valV_put, if_pos rfl]
theorem d3_r : valV (mergeK [] d3k) (kS "register") = some (.int 3) := by
  show valV (putK (putK (putK [] (kS "counter") (.int 3)) (kS "turned") (.int 2)) (kS "register") (.int 3)) (kS "register") = _
  rw [valV_put, if_pos rfl]
theorem d1_y {a : Str} {x : V} : valV (mergeK [] [(kS a, x)]) (kS a) = some x := by
  show valV (putK [] (kS a) x) (kS a) = _
  rw [valV_put, if_pos rfl]
theorem d1_n {a b : Str} {x : V} (h : b ≠ a) : valV (mergeK [] [(kS a, x)]) (kS b) = none := by
  show valV (putK [] (kS a) x) (kS b) = _
  rw [valV_put, if_neg (kS_ne h)]
  rfl
def sp__law_fits (_ : PySem.W.Frag) : Sp := fun vs H Q _ => ∃ (p : Addr → Prop) (v : V) (z : Str) (ds : List PyData), vs = [v] ∧ Tg p H v (.tuple (.str z :: ds)) ∧ ∀ H' r, Same H H' → (r = true ↔ plainD (.tuple (.str z :: ds))) → Q (.bl r) H'
theorem ok__law_fits (T : Defs K mg) (TT : Tabs T base) : FnOk P w K mg base CX0 2 T.f__law_fits T.fd__law_fits ["_law_thing"] (sp__law_fits K) := by
  have G__law_is_number : FnOk P w K mg base CX0 1 T.f__law_is_number T.fd__law_is_number ["_law_thing", "_law_least", "_law_most"] (sp__law_is_number K) := ok__law_is_number T TT
  have G__law_powers : FnOk P w K mg base CX0 1 T.f__law_powers T.fd__law_powers [] (sp__law_powers K) := ok__law_powers T TT
  have G__law_divisor : FnOk P w K mg base CX0 1 T.f__law_divisor T.fd__law_divisor ["_law_one", "_law_other"] (sp__law_divisor K) := ok__law_divisor T TT
  refine T.F__law_fits.ok sc__law_fits (fun vs H Q E h => ?_) (fun cdv A outer s H vs Q E hr h => ?_)
  · obtain ⟨p, v, z, ds, rfl, hv, q⟩ := h
    rfl
  · obtain ⟨p, v, z, ds, rfl, hv, q⟩ := h
    refine ⟨_, PSs.nox (pss_cons (ps_par (i := 1) (j := 2) (by rfl) sc__law_fits.nd rfl rfl (by decide) rfl rfl (pa_cons (pe_ix ix_tup (pv 0) pe_int (fun _ _ => rfl)) (pa_cons (pe_slice sl_tupS (pv 0) (po_some pe_int) po_none) pa_nil)) (by rfl))
    (pss_cons (ps_if (pt_cmpR op_notIn_seq (pv 1) (pe_tup (pa_cons pe_str (pa_cons pe_str (pa_cons pe_str (pa_cons pe_str pa_nil))))) rfl) (pss_one (ps_ret pe_bl)) pss_nil)
    (pss_cons (ps_if (pt_cmpR op_eq (pv 1) pe_str (nomark _)) (pss_cons (ps_if (PW.pt (pw_or (pt_cmpR op_ne (pe_callB call_len_seq (by rfl) T.m_len bt_len (pa_cons (pv 2) pa_nil)) pe_int (nomark _)) (pw_or (pt_not (pt_val (pe_callB call_isi (by rfl) T.m_isinstance bt_isinstance (pa_cons (pe_ix ix_tup (pv 2) pe_int (fun _ _ => rfl)) (pa_cons (pe_bltn (v := .ty "tuple") (by rfl) T.m_tuple bt_tuple rfl) pa_nil))))) (pw_or1 (pt_not (pt_chain op_le op_le pe_int (pe_callB call_len_seq (by rfl) T.m_len bt_len (pa_cons (pe_ix ix_tup (pv 2) pe_int (fun _ _ => rfl)) pa_nil)) pe_int)))))) (pss_one (ps_ret pe_bl)) pss_nil)
    (pss_one (ps_ret (pe_callB (cr_all rfl) (by rfl) T.m_all bt_all (pa_cons (pe_lc (own := [("_law_number", 5)]) (g := gName 5) (tt := tYes) rfl sc__law_fits.nd (pi_tup (pe_ix ix_tup (pv 2) pe_int (fun _ _ => rfl))) (blkOk_by (N := N__law_fits) (sc := defScope s__law_fits) (by decide +kernel)) (fun _ _ _ _ _ => (pg_name (i := 5) sc__law_fits.nd rfl (.inl rfl))) (fun _ _ _ _ _ => pts_nil) (fun _ _ _ _ _ => (pe_call G__law_is_number (hr.mono (by decide)) (by rfl) T.g__law_is_number T.F__law_is_number.kp T.b__law_is_number .nil pass0 (pa_cons (pv 5) (pa_cons pe_int (pa_cons pe_int pa_nil)))))) pa_nil))))) pss_nil)
    (pss_cons (ps_if (pt_cmpR op_ne (pe_callB call_len_seq (by rfl) T.m_len bt_len (pa_cons (pv 2) pa_nil)) (pe_dget2 (u1 hr) (pe_disp (pps_cons pe_str pe_int (pps_cons pe_str pe_int (pps_cons pe_str pe_int pps_nil))) rfl rfl (by simp) (by decide)) (pv 1) pe_int ⟨rfl, rfl, rfl, rfl⟩) (nomark _)) (pss_one (ps_ret pe_bl)) pss_nil)
    (pss_cons (ps_if (pt_not (pt_val (pe_call G__law_is_number (hr.mono (by decide)) (by rfl) T.g__law_is_number T.F__law_is_number.kp T.b__law_is_number .nil pass0 (pa_cons (pe_ix ix_tup (pv 2) pe_int (fun _ _ => rfl)) (pa_cons (pe_dget2 (u1 hr) (pe_disp (pps_cons pe_str pe_int pps_nil) rfl rfl (by simp) (by decide)) (pv 1) pe_int ⟨rfl, rfl, rfl, rfl⟩) (pa_cons (pe_dget2 (u1 hr) (pe_disp (pps_cons pe_str pe_int pps_nil) rfl rfl (by simp) (by decide)) (pv 1) pe_int ⟨rfl, rfl, rfl, rfl⟩) pa_nil)))))) (pss_one (ps_ret pe_bl)) pss_nil)
    (pss_cons (ps_if (pt_cmpR op_eq (pv 1) pe_str (nomark _)) (pss_cons (ps_set (i := 3) sc__law_fits.nd rfl (.inl rfl) (pe_and (pe_call G__law_is_number (hr.mono (by decide)) (by rfl) T.g__law_is_number T.F__law_is_number.kp T.b__law_is_number .nil pass0 (pa_cons (pe_ix ix_tup (pv 2) pe_int (fun _ _ => rfl)) (pa_cons pe_int (pa_cons (pe_ix ix_tup (pv 2) pe_int (fun _ _ => rfl)) pa_nil)))) (pe_one (pe_cmpR op_eq (pe_call G__law_divisor (hr.mono (by decide)) (by rfl) T.g__law_divisor T.F__law_divisor.kp T.b__law_divisor .nil pass0 (pa_cons (pe_ix ix_tup (pv 2) pe_int (fun _ _ => rfl)) (pa_cons (pe_ix ix_tup (pv 2) pe_int (fun _ _ => rfl)) pa_nil))) pe_int (nomark _)))))
    (pss_one (ps_ret (pe_and (pv 3) (pe_one (pe_call G__law_is_number (hr.mono (by decide)) (by rfl) T.g__law_is_number T.F__law_is_number.kp T.b__law_is_number .nil pass0 (pa_cons (pe_ix ix_tup (pv 2) pe_int (fun _ _ => rfl)) (pa_cons pe_int (pa_cons (pe_op op_sub (pe_ix ix_tup (pv 2) pe_int (fun _ _ => rfl)) pe_int) pa_nil))))))))) pss_nil)
    (pss_cons (ps_set (i := 4) sc__law_fits.nd rfl (.inl rfl) (pe_ix ix_list (pe_call0 G__law_powers (hr.mono (by decide)) (by rfl) T.g__law_powers T.F__law_powers.kp T.b__law_powers .nil pass0) (pe_ix ix_tup (pv 2) pe_int (fun _ _ => rfl)) (fun _ _ => rfl)))
    (pss_cons (ps_if (pt_cmpR op_eq (pv 1) pe_str (nomark _)) (pss_one (ps_ret (pe_call G__law_is_number (hr.mono (by decide)) (by rfl) T.g__law_is_number T.F__law_is_number.kp T.b__law_is_number .nil pass0 (pa_cons (pe_ix ix_tup (pv 2) pe_int (fun _ _ => rfl)) (pa_cons pe_int (pa_cons (pe_op op_sub (pv 4) pe_int) pa_nil)))))) pss_nil)
    (pss_one (ps_ret (pe_and (pe_call G__law_is_number (hr.mono (by decide)) (by rfl) T.g__law_is_number T.F__law_is_number.kp T.b__law_is_number .nil pass0 (pa_cons (pe_ix ix_tup (pv 2) pe_int (fun _ _ => rfl)) (pa_cons (pe_op op_fdiv (pv 4) pe_int) (pa_cons (pe_op op_sub (pv 4) pe_int) pa_nil)))) (pe_one (pe_call G__law_is_number (hr.mono (by decide)) (by rfl) T.g__law_is_number T.F__law_is_number.kp T.b__law_is_number .nil pass0 (pa_cons (pe_ix ix_tup (pv 2) pe_int (fun _ _ => rfl)) (pa_cons pe_int (pa_cons (pe_op op_sub (pv 4) pe_int) pa_nil)))))))))))))))), ?_⟩
    have no : ¬ plainD (.tuple (.str z :: ds)) → ∀ H', Same H H' → Q (.bl false) H' := fun z H' s => q H' false s ⟨fun e => (by cases e), fun e => absurd e z⟩
    obtain ⟨a, xs, rfl, np, ha, hx⟩ := hv.tupv
    cases hx with
    | cons t0 tr =>
    rename_i x0 ys
    obtain rfl := t0.strv
    have ll := tr.len
    refine ⟨.ref a, rfl, a, _, 0, _, rfl, rfl, SqT.mk ha, atI_nat (j := 0) rfl, .ref a, rfl, 1, rfl, a, _, rfl, ha, fun G rs sG hrs => ⟨_, _, rfl, ?_⟩⟩
    have ec : cutV (V.str z :: ys) (some 1) none = ys := cut_hi (V.str z :: ys) 1
    rw [ec] at hrs
    refine ⟨.str z, rfl, (show 4 ≤ sizeLine by decide), fun t nt => ⟨t, _, rfl, .inr (SqT.mk upd_same), rfl, rfl, _, rfl, ?_⟩⟩
    rw [if_pos rfl]
    have s2 := sG.trans (same_upd nt (o := .tup [.str "counter", .str "turned", .str "register", .str "table"]))
    have hrs := (same_upd nt (o := .tup [.str "counter", .str "turned", .str "register", .str "table"])) _ _ hrs
    generalize upd G t (.tup [.str "counter", .str "turned", .str "register", .str "table"]) = G2 at s2 hrs ⊢
    have tr2 := tr.same s2
    by_cases wt : z = "table"
    · subst wt
      rw [show inV (.str "table") [.str "counter", .str "turned", .str "register", .str "table"] = true by decide +kernel]
      have cn : plainD (.tuple (.str "table" :: ds)) → ∃ ns : List Int, ds = [.tuple (ns.map PyData.int)] ∧ (1 ≤ ns.length ∧ ns.length ≤ 64) ∧ ∀ x, x ∈ ns → 0 ≤ x ∧ x ≤ 63 := by
        intro z
        rcases pl_cases z with ⟨_, _, _, e, _⟩ | ⟨_, _, e, _⟩ | ⟨_, _, _, e, _⟩ | ⟨ns, e, l, hns⟩
        · exact absurd (PyData.str.inj (List.cons.inj e).1) (by decide +kernel)
        · exact absurd (PyData.str.inj (List.cons.inj e).1) (by decide +kernel)
        · exact absurd (PyData.str.inj (List.cons.inj e).1) (by decide +kernel)
        · exact ⟨ns, (List.cons.inj e).2, l, hns⟩
      refine iteF ⟨_, rfl, rfl, _, rfl, ?_⟩
      rw [decide_eq_true rfl]
      refine iteT ⟨.ref rs, rfl, rs, _, rfl, .inr (SqT.mk hrs), rfl, _, rfl, ?_⟩
      match ys, ds, tr2, ll, hrs, cn, no, q with
      | [], [], _, _, _, cn, no, q =>
        refine iteT (no ?_ G2 s2)
        intro z
        obtain ⟨ns, e, _⟩ := cn z
        cases e
      | y1 :: y2 :: r, d1 :: d2 :: r', _, _, _, cn, no, q =>
        rw [decide_eq_false (show ¬ V.int (((y1 :: y2 :: r).length : Nat) : Int) = V.int 1 from fun e => by
          have e := V.int.inj e
          simp only [List.length_cons] at e
          omega)]
        refine iteT (no ?_ G2 s2)
        intro z
        obtain ⟨ns, e, _⟩ := cn z
        cases e
      | [y1], [d1], tr2, _, hrs, cn, no, q =>
        refine iteF ?_
        cases tr2 with
        | cons t1 _ =>
        obtain ⟨ty1, ty, h1, h2, kt, h3⟩ := t1.ty (K := K)
        clear h1 h2 h3
        refine ⟨.ref rs, rfl, rs, _, 0, _, rfl, rfl, SqT.mk hrs, atI_nat (j := 0) rfl, _, _, _, _, _, rfl, .ty "tuple", ty, kt, _, rfl, ?_⟩
        cases d1 with
        | tuple es =>
          obtain ⟨b, zs, rfl, _, hb, hxs⟩ := t1.tupv
          have l2 := hxs.len
          refine iteF ⟨.ref rs, rfl, rs, _, 0, _, rfl, rfl, SqT.mk hrs, atI_nat (j := 0) rfl, b, _, rfl, .inr (SqT.mk hb), _, _, rfl, rfl, _, rfl, ?_⟩
          by_cases l1 : 1 ≤ es.length
          rotate_left
          · rw [decide_eq_false (by omega)]
            refine iteF ⟨_, rfl, iteT (no ?_ G2 s2)⟩
            intro z
            obtain ⟨ns, e, l, _⟩ := cn z
            cases e
            rw [List.length_map] at l1
            exact l1 l.1
          rw [decide_eq_true (by omega)]
          refine iteT ⟨_, _, rfl, rfl, _, rfl, ?_⟩
          by_cases l64 : es.length ≤ 64
          rotate_left
          · rw [decide_eq_false (by omega)]
            refine iteT (no ?_ G2 s2)
            intro z
            obtain ⟨ns, e, l, _⟩ := cn z
            cases e
            rw [List.length_map] at l64
            exact l64 l.2
          rw [decide_eq_true (by omega)]
          refine iteF ?_
          refine ⟨.ref rs, rfl, rs, _, 0, _, rfl, rfl, SqT.mk hrs, atI_nat (j := 0) rfl, b, rfl, ⟨_, SqT.mk hb⟩, fun C nC => ?_⟩
          refine lc_it (walk_tup (xs := zs)) (fun i G3 => Same G2 G3 ∧ G3 C = some (.lst (((es.take i).map fun e => withinD e 0 63).map V.bl))) ⟨same_upd nC, upd_same⟩ (fun i G3 _ h => SqT.mk (h.1 _ _ hb)) (fun i x G3 G4 hi h y => ?_) (fun G3 h => ?_)
          · obtain ⟨s3, hC⟩ := h
            obtain ⟨rfl, hx⟩ := y
            obtain ⟨e, he, te⟩ := hxs.get hx
            refine ⟨rfl, yes_ite ⟨x, rfl, p, x, e, 0, 63, rfl, te.same s3, _, hC, ?_, same_newer s3 nC, ?_⟩⟩
            · rw [List.length_map, List.length_map, List.length_take]
              show _ < 16777216
              omega
            · rw [upd_same, List.take_add_one, he, List.map_append, List.map_append]
              rfl
          obtain ⟨s3, hC⟩ := h
          rw [List.take_of_length_le (by omega)] at hC
          refine ⟨C, es.map fun e => withinD e 0 63, rfl, SqL.mk hC, ?_⟩
          have e1 : (es.map fun e => withinD e 0 63).all id = isTb (.tuple es) := by
            unfold isTb
            dsimp only
            rw [decide_eq_true l1, decide_eq_true l64, List.all_map]
            rfl
          rw [e1]
          refine q _ _ (s2.trans s3) ⟨fun e => ?_, fun z => ?_⟩
          · obtain ⟨ns, e, l, hns⟩ := isTb_is e
            cases e
            exact ⟨.table ns, rfl, ⟨l.1, l.2, hns⟩, trivial⟩
          · obtain ⟨ns, e, l, hns⟩ := cn z
            cases e
            exact isTb_of l hns
        | _ =>
          refine iteT (no ?_ G2 s2)
          intro z
          obtain ⟨ns, e, _⟩ := cn z
          cases e
    by_cases w4 : z = "counter" ∨ z = "turned" ∨ z = "register"
    rotate_left
    · have iv : inV (.str z) [.str "counter", .str "turned", .str "register", .str "table"] = false := inV_no (zs := ["counter", "turned", "register", "table"]) fun y hy => by
        simp only [List.mem_cons, List.not_mem_nil, or_false] at hy
        rcases hy with rfl | rfl | rfl | rfl
        · exact fun e => w4 (.inl e)
        · exact fun e => w4 (.inr (.inl e))
        · exact fun e => w4 (.inr (.inr e))
        · exact wt
      rw [iv]
      refine iteT (no ?_ G2 s2)
      intro y
      rcases pl_cases y with ⟨_, _, _, e, _⟩ | ⟨_, _, e, _⟩ | ⟨_, _, _, e, _⟩ | ⟨ns, e, l, hns⟩
      · exact w4 (.inl (PyData.str.inj (List.cons.inj e).1))
      · exact w4 (.inr (.inl (PyData.str.inj (List.cons.inj e).1)))
      · exact w4 (.inr (.inr (PyData.str.inj (List.cons.inj e).1)))
      · exact wt (PyData.str.inj (List.cons.inj e).1)
    have iv : inV (.str z) [.str "counter", .str "turned", .str "register", .str "table"] = true := by
      rcases w4 with rfl | rfl | rfl <;> decide +kernel
    rw [iv]
    refine iteF ⟨_, rfl, rfl, _, rfl, ?_⟩
    rw [str_noA wt]
    refine iteF ?_
    rcases w4 with rfl | rfl | rfl
    · have cn : plainD (.tuple (.str "counter" :: ds)) → ∃ r s t : Nat, ds = [.int r, .int s, .int t] ∧ (1 ≤ r ∧ r ≤ 64) ∧ (1 ≤ s ∧ s ≤ r) ∧ Nat.gcd s r = 1 ∧ t < r := by
        intro z
        rcases pl_cases z with ⟨r, s, t, e, h1, h2, h3, h4⟩ | ⟨_, _, e, _⟩ | ⟨_, _, _, e, _⟩ | ⟨_, e, _⟩
        · exact ⟨r, s, t, (List.cons.inj e).2, h1, h2, h3, h4⟩
        · exact absurd (PyData.str.inj (List.cons.inj e).1) (by decide +kernel)
        · exact absurd (PyData.str.inj (List.cons.inj e).1) (by decide +kernel)
        · exact absurd (PyData.str.inj (List.cons.inj e).1) (by decide +kernel)
      by_cases l3 : ys.length = 3
      rotate_left
      · refine ⟨.ref rs, rfl, rs, _, rfl, .inr (SqT.mk hrs), fun dd nd => ?_⟩
        have s3 := same_newer (o := .dK (mergeK [] d3k)) (same_upd nd (o := .dK [])) nd
        refine ⟨upd_same, d3k, rfl, (show 3 ≤ 15 by decide), ?_⟩
        have hdd : (upd (upd G2 dd (.dK [])) dd (.dK (mergeK [] d3k))) dd = some (.dK (mergeK [] d3k)) := upd_same
        generalize upd (upd G2 dd (.dK [])) dd (.dK (mergeK [] d3k)) = G3 at s3 hdd ⊢
        refine ⟨dd, rfl, .inl ⟨_, .inl hdd⟩, .str "counter", rfl, some (.int 3), d3_c ▸ DGet.k (k := kS "counter") hdd, rfl, _, rfl, ?_⟩
        dsimp only
        rw [decide_eq_false (show ¬ V.int ((ys.length : Nat) : Int) = (some (V.int 3)).getD (V.int 9) from fun e => l3 (by have := V.int.inj (show V.int ((ys.length : Nat) : Int) = V.int 3 from e); omega))]
        refine iteT (no ?_ _ (s2.trans s3))
        intro z
        obtain ⟨r, s, t, e, _⟩ := cn z
        rw [e] at ll
        exact l3 ll
      match ys, ds, tr2, ll, hrs, cn, no, q, l3 with
      | [y1, y2, y3], [d1, d2, d3], tr2, _, hrs, cn, no, q, _ =>
        obtain ⟨_, _, _, ee, t1, t2, t3⟩ := tr2.three
        cases ee
        refine ⟨.ref rs, rfl, rs, _, rfl, .inr (SqT.mk hrs), fun dd nd => ?_⟩
        have s3 := same_newer (o := .dK (mergeK [] d3k)) (same_upd nd (o := .dK [])) nd
        refine ⟨upd_same, d3k, rfl, (show 3 ≤ 15 by decide), ?_⟩
        have hdd : (upd (upd G2 dd (.dK [])) dd (.dK (mergeK [] d3k))) dd = some (.dK (mergeK [] d3k)) := upd_same
        generalize upd (upd G2 dd (.dK [])) dd (.dK (mergeK [] d3k)) = G3 at s3 hdd ⊢
        refine ⟨dd, rfl, .inl ⟨_, .inl hdd⟩, .str "counter", rfl, some (.int 3), d3_c ▸ DGet.k (k := kS "counter") hdd, rfl, _, rfl, ?_⟩
        refine iteF ?_
        have sG3 := s2.trans s3
        have hrs3 := s3 _ _ hrs
        have t1 := t1.same s3
        have t2 := t2.same s3
        have t3 := t3.same s3
        refine ⟨.ref rs, rfl, rs, _, 0, _, rfl, rfl, SqT.mk hrs3, atI_nat (j := 0) rfl, ?_⟩
        intro e1 ne1
        have sd1 := same_newer (o := .dK (mergeK [] [(kS "register", .int 2)])) (same_upd ne1 (o := .dK [])) ne1
        refine ⟨upd_same, [(kS "register", .int 2)], rfl, (show 1 ≤ 15 by decide), ?_⟩
        have hd1 : (upd (upd G3 e1 (.dK [])) e1 (.dK (mergeK [] [(kS "register", .int 2)]))) e1 = some (.dK (mergeK [] [(kS "register", .int 2)])) := upd_same
        generalize upd (upd G3 e1 (.dK [])) e1 (.dK (mergeK [] [(kS "register", .int 2)])) = G4 at sd1 hd1 ⊢
        refine ⟨e1, rfl, .inl ⟨_, .inl hd1⟩, .str "counter", rfl, none, d1_n (show ("counter" : Str) ≠ "register" by decide +kernel) ▸ DGet.k (k := kS "counter") hd1, ?_⟩
        intro e2 ne2
        have sd2 := same_newer (o := .dK (mergeK [] [(kS "counter", .int 64)])) (same_upd ne2 (o := .dK [])) ne2
        refine ⟨upd_same, [(kS "counter", .int 64)], rfl, (show 1 ≤ 15 by decide), ?_⟩
        have hd2 : (upd (upd G4 e2 (.dK [])) e2 (.dK (mergeK [] [(kS "counter", .int 64)]))) e2 = some (.dK (mergeK [] [(kS "counter", .int 64)])) := upd_same
        generalize upd (upd G4 e2 (.dK [])) e2 (.dK (mergeK [] [(kS "counter", .int 64)])) = G5 at sd2 hd2 ⊢
        refine ⟨e2, rfl, .inl ⟨_, .inl hd2⟩, .str "counter", rfl, some (.int 64), d1_y ▸ DGet.k (k := kS "counter") hd2, ?_⟩
        have sd := sd1.trans sd2
        have hrs5 := sd _ _ hrs3
        have sG5 := sG3.trans sd
        have t1 := t1.same sd
        have t2 := t2.same sd
        have t3 := t3.same sd
        clear hrs hrs3 s3 hdd sd1 sd2 hd1 hd2 sd sG3
        refine ⟨p, y1, d1, 1, 64, rfl, t1, _, rfl, ?_⟩
        cases hh1 : withinD d1 1 64 with
        | false =>
          refine iteT (no ?_ _ sG5)
          intro z
          obtain ⟨r, s, t, e, b1, _⟩ := cn z
          cases e
          exact within_no hh1 (by omega)
        | true =>
        obtain ⟨i, rfl, l, u⟩ := within_is hh1
        obtain ⟨r, rfl⟩ := nat_of (show 0 ≤ i by omega)
        obtain rfl := t1.intv
        refine iteF ⟨_, rfl, rfl, _, rfl, ?_⟩
        rw [decide_eq_true rfl]
        refine iteT ?_
        refine ⟨.ref rs, rfl, rs, _, 1, _, rfl, rfl, SqT.mk hrs5, atI_nat (j := 1) rfl, .ref rs, rfl, rs, _, 0, _, rfl, rfl, SqT.mk hrs5, atI_nat (j := 0) rfl, p, y2, d2, 1, (r : Int), rfl, t2, _, rfl, ?_⟩
        cases hh2 : withinD d2 1 (r : Int) with
        | false =>
          refine iteF ⟨_, rfl, _, rfl, iteF (no ?_ _ sG5)⟩
          intro z
          obtain ⟨r', s, t, e, _, b2, _⟩ := cn z
          simp only [List.cons.injEq, PyData.int.injEq, and_true] at e
          obtain ⟨e1, rfl, _⟩ := e
          have e1 : r = r' := by omega
          subst e1
          exact within_no hh2 (by omega)
        | true =>
        obtain ⟨i2, rfl, l2, u2⟩ := within_is hh2
        obtain ⟨s', rfl⟩ := nat_of (show 0 ≤ i2 by omega)
        obtain rfl := t2.intv
        refine iteT ⟨.ref rs, rfl, rs, _, 1, _, rfl, rfl, SqT.mk hrs5, atI_nat (j := 1) rfl, .ref rs, rfl, rs, _, 0, _, rfl, rfl, SqT.mk hrs5, atI_nat (j := 0) rfl, (s' : Int), (r : Int), rfl, rfl, ?_⟩
        have eg : decide (V.int (Int.gcd (s' : Int) (r : Int) : Int) = V.int 1) = decide (Nat.gcd s' r = 1) := decide_eq_decide.mpr ⟨fun e => by have e := V.int.inj e; have g : Int.gcd (s' : Int) (r : Int) = Nat.gcd s' r := rfl; omega, fun e => by rw [show Int.gcd (s' : Int) (r : Int) = Nat.gcd s' r from rfl, e]; rfl⟩
        rw [eg]
        by_cases hg : Nat.gcd s' r = 1
        rotate_left
        · rw [decide_eq_false hg]
          refine ⟨_, rfl, _, rfl, iteF (no ?_ _ sG5)⟩
          intro z
          obtain ⟨r', s2, t, e, _, _, b3, _⟩ := cn z
          simp only [List.cons.injEq, PyData.int.injEq, and_true] at e
          obtain ⟨e1, e2, _⟩ := e
          have e1 : r = r' := by omega
          have e2 : s' = s2 := by omega
          subst e1 e2
          exact hg b3
        rw [decide_eq_true hg]
        refine ⟨_, rfl, _, rfl, iteT ⟨.ref rs, rfl, rs, _, 2, _, rfl, rfl, SqT.mk hrs5, atI_nat (j := 2) rfl, .ref rs, rfl, rs, _, 0, _, rfl, rfl, SqT.mk hrs5, atI_nat (j := 0) rfl, _, _, rfl, rfl, p, y3, d3, 0, _, rfl, t3, q _ _ sG5 ⟨fun e => ?_, fun z => ?_⟩⟩⟩
        · obtain ⟨i3, rfl, l3, u3⟩ := within_is e
          obtain ⟨t', rfl⟩ := nat_of l3
          exact ⟨.counter r s' t', rfl, ⟨by omega, by omega, by omega, by omega⟩, ⟨by omega, by omega, hg⟩⟩
        · obtain ⟨r', s2, t', e, b1, b2, b3, b4⟩ := cn z
          simp only [List.cons.injEq, PyData.int.injEq, and_true] at e
          obtain ⟨e1, e2, rfl⟩ := e
          have e1 : r = r' := by omega
          subst e1
          exact decide_eq_true (by omega)
    · have cn : plainD (.tuple (.str "turned" :: ds)) → ∃ w s : Nat, ds = [.int w, .int s] ∧ (1 ≤ w ∧ w ≤ 6) ∧ s < 2 ^ w := by
        intro z
        rcases pl_cases z with ⟨_, _, _, e, _⟩ | ⟨w', s, e, h1, h2⟩ | ⟨_, _, _, e, _⟩ | ⟨_, e, _⟩
        · exact absurd (PyData.str.inj (List.cons.inj e).1) (by decide +kernel)
        · exact ⟨w', s, (List.cons.inj e).2, h1, h2⟩
        · exact absurd (PyData.str.inj (List.cons.inj e).1) (by decide +kernel)
        · exact absurd (PyData.str.inj (List.cons.inj e).1) (by decide +kernel)
      by_cases l3 : ys.length = 2
      rotate_left
      · refine ⟨.ref rs, rfl, rs, _, rfl, .inr (SqT.mk hrs), fun dd nd => ?_⟩
        have s3 := same_newer (o := .dK (mergeK [] d3k)) (same_upd nd (o := .dK [])) nd
        refine ⟨upd_same, d3k, rfl, (show 3 ≤ 15 by decide), ?_⟩
        have hdd : (upd (upd G2 dd (.dK [])) dd (.dK (mergeK [] d3k))) dd = some (.dK (mergeK [] d3k)) := upd_same
        generalize upd (upd G2 dd (.dK [])) dd (.dK (mergeK [] d3k)) = G3 at s3 hdd ⊢
        refine ⟨dd, rfl, .inl ⟨_, .inl hdd⟩, .str "turned", rfl, some (.int 2), d3_t ▸ DGet.k (k := kS "turned") hdd, rfl, _, rfl, ?_⟩
        dsimp only
        rw [decide_eq_false (show ¬ V.int ((ys.length : Nat) : Int) = (some (V.int 2)).getD (V.int 9) from fun e => l3 (by have := V.int.inj (show V.int ((ys.length : Nat) : Int) = V.int 2 from e); omega))]
        refine iteT (no ?_ _ (s2.trans s3))
        intro z
        obtain ⟨w', s, e, _⟩ := cn z
        rw [e] at ll
        exact l3 ll
      match ys, ds, tr2, ll, hrs, cn, no, q, l3 with
      | [y1, y2], [d1, d2], tr2, _, hrs, cn, no, q, _ =>
        obtain ⟨_, _, ee, t1, t2⟩ := tr2.two
        cases ee
        refine ⟨.ref rs, rfl, rs, _, rfl, .inr (SqT.mk hrs), fun dd nd => ?_⟩
        have s3 := same_newer (o := .dK (mergeK [] d3k)) (same_upd nd (o := .dK [])) nd
        refine ⟨upd_same, d3k, rfl, (show 3 ≤ 15 by decide), ?_⟩
        have hdd : (upd (upd G2 dd (.dK [])) dd (.dK (mergeK [] d3k))) dd = some (.dK (mergeK [] d3k)) := upd_same
        generalize upd (upd G2 dd (.dK [])) dd (.dK (mergeK [] d3k)) = G3 at s3 hdd ⊢
        refine ⟨dd, rfl, .inl ⟨_, .inl hdd⟩, .str "turned", rfl, some (.int 2), d3_t ▸ DGet.k (k := kS "turned") hdd, rfl, _, rfl, ?_⟩
        refine iteF ?_
        have sG3 := s2.trans s3
        have hrs3 := s3 _ _ hrs
        have t1 := t1.same s3
        have t2 := t2.same s3
        refine ⟨.ref rs, rfl, rs, _, 0, _, rfl, rfl, SqT.mk hrs3, atI_nat (j := 0) rfl, ?_⟩
        intro e1 ne1
        have sd1 := same_newer (o := .dK (mergeK [] [(kS "register", .int 2)])) (same_upd ne1 (o := .dK [])) ne1
        refine ⟨upd_same, [(kS "register", .int 2)], rfl, (show 1 ≤ 15 by decide), ?_⟩
        have hd1 : (upd (upd G3 e1 (.dK [])) e1 (.dK (mergeK [] [(kS "register", .int 2)]))) e1 = some (.dK (mergeK [] [(kS "register", .int 2)])) := upd_same
        generalize upd (upd G3 e1 (.dK [])) e1 (.dK (mergeK [] [(kS "register", .int 2)])) = G4 at sd1 hd1 ⊢
        refine ⟨e1, rfl, .inl ⟨_, .inl hd1⟩, .str "turned", rfl, none, d1_n (show ("turned" : Str) ≠ "register" by decide +kernel) ▸ DGet.k (k := kS "turned") hd1, ?_⟩
        intro e2 ne2
        have sd2 := same_newer (o := .dK (mergeK [] [(kS "counter", .int 64)])) (same_upd ne2 (o := .dK [])) ne2
        refine ⟨upd_same, [(kS "counter", .int 64)], rfl, (show 1 ≤ 15 by decide), ?_⟩
        have hd2 : (upd (upd G4 e2 (.dK [])) e2 (.dK (mergeK [] [(kS "counter", .int 64)]))) e2 = some (.dK (mergeK [] [(kS "counter", .int 64)])) := upd_same
        generalize upd (upd G4 e2 (.dK [])) e2 (.dK (mergeK [] [(kS "counter", .int 64)])) = G5 at sd2 hd2 ⊢
        refine ⟨e2, rfl, .inl ⟨_, .inl hd2⟩, .str "turned", rfl, none, d1_n (show ("turned" : Str) ≠ "counter" by decide +kernel) ▸ DGet.k (k := kS "turned") hd2, ?_⟩
        have sd := sd1.trans sd2
        have hrs5 := sd _ _ hrs3
        have sG5 := sG3.trans sd
        have t1 := t1.same sd
        have t2 := t2.same sd
        clear hrs hrs3 s3 hdd sd1 sd2 hd1 hd2 sd sG3
        refine ⟨p, y1, d1, 1, 6, rfl, t1, _, rfl, ?_⟩
        cases hh1 : withinD d1 1 6 with
        | false =>
          refine iteT (no ?_ _ sG5)
          intro z
          obtain ⟨w', s, e, b1, _⟩ := cn z
          cases e
          exact within_no hh1 (by omega)
        | true =>
        obtain ⟨i, rfl, l, u⟩ := within_is hh1
        obtain ⟨r, rfl⟩ := nat_of (show 0 ≤ i by omega)
        obtain rfl := t1.intv
        refine iteF ⟨_, rfl, rfl, _, rfl, ?_⟩
        rw [str_noA (by decide +kernel)]
        refine iteF ?_
        refine ⟨rfl, fun P1 lp sP nlp hlp => ?_⟩
        have hrs6 := sP _ _ hrs5
        have sG6 := sG5.trans sP
        have t2 := t2.same sP
        refine ⟨.ref rs, rfl, rs, _, 0, _, rfl, rfl, SqT.mk hrs6, atI_nat (j := 0) rfl, lp, _, _, _, rfl, rfl, SqL.mk hlp, at_pow (by omega), _, rfl, rfl, _, rfl, ?_⟩
        rw [decide_eq_true rfl]
        refine iteT ⟨.ref rs, rfl, rs, _, 1, _, rfl, rfl, SqT.mk hrs6, atI_nat (j := 1) rfl, _, rfl, _, _, rfl, rfl, p, y2, d2, 0, _, rfl, t2, q _ _ sG6 ⟨fun e => ?_, fun z => ?_⟩⟩
        · obtain ⟨i2, rfl, l2, u2⟩ := within_is e
          obtain ⟨s', rfl⟩ := nat_of l2
          have u2 := Int.ofNat_lt.mp (Int.lt_of_le_sub_one u2)
          exact ⟨.turned r s', rfl, ⟨by omega, by omega, u2⟩, trivial⟩
        · obtain ⟨w2, s', e, b1, b2⟩ := cn z
          simp only [List.cons.injEq, PyData.int.injEq, and_true] at e
          obtain ⟨e1, rfl⟩ := e
          have e1 : r = w2 := by omega
          subst e1
          exact decide_eq_true ⟨by omega, Int.le_sub_one_of_lt (Int.ofNat_lt.mpr b2)⟩
    · have cn : plainD (.tuple (.str "register" :: ds)) → ∃ w q s : Nat, ds = [.int w, .int q, .int s] ∧ RgW w q ∧ 1 ≤ s ∧ s < 2 ^ w := by
        intro z
        rcases pl_cases z with ⟨_, _, _, e, _⟩ | ⟨_, _, e, _⟩ | ⟨w', q', s, e, h1, h2, h3⟩ | ⟨_, e, _⟩
        · exact absurd (PyData.str.inj (List.cons.inj e).1) (by decide +kernel)
        · exact absurd (PyData.str.inj (List.cons.inj e).1) (by decide +kernel)
        · exact ⟨w', q', s, (List.cons.inj e).2, h1, h2, h3⟩
        · exact absurd (PyData.str.inj (List.cons.inj e).1) (by decide +kernel)
      by_cases l3 : ys.length = 3
      rotate_left
      · refine ⟨.ref rs, rfl, rs, _, rfl, .inr (SqT.mk hrs), fun dd nd => ?_⟩
        have s3 := same_newer (o := .dK (mergeK [] d3k)) (same_upd nd (o := .dK [])) nd
        refine ⟨upd_same, d3k, rfl, (show 3 ≤ 15 by decide), ?_⟩
        have hdd : (upd (upd G2 dd (.dK [])) dd (.dK (mergeK [] d3k))) dd = some (.dK (mergeK [] d3k)) := upd_same
        generalize upd (upd G2 dd (.dK [])) dd (.dK (mergeK [] d3k)) = G3 at s3 hdd ⊢
        refine ⟨dd, rfl, .inl ⟨_, .inl hdd⟩, .str "register", rfl, some (.int 3), d3_r ▸ DGet.k (k := kS "register") hdd, rfl, _, rfl, ?_⟩
        dsimp only
        rw [decide_eq_false (show ¬ V.int ((ys.length : Nat) : Int) = (some (V.int 3)).getD (V.int 9) from fun e => l3 (by have := V.int.inj (show V.int ((ys.length : Nat) : Int) = V.int 3 from e); omega))]
        refine iteT (no ?_ _ (s2.trans s3))
        intro z
        obtain ⟨w', q', s, e, _⟩ := cn z
        rw [e] at ll
        exact l3 ll
      match ys, ds, tr2, ll, hrs, cn, no, q, l3 with
      | [y1, y2, y3], [d1, d2, d3], tr2, _, hrs, cn, no, q, _ =>
        obtain ⟨_, _, _, ee, t1, t2, t3⟩ := tr2.three
        cases ee
        refine ⟨.ref rs, rfl, rs, _, rfl, .inr (SqT.mk hrs), fun dd nd => ?_⟩
        have s3 := same_newer (o := .dK (mergeK [] d3k)) (same_upd nd (o := .dK [])) nd
        refine ⟨upd_same, d3k, rfl, (show 3 ≤ 15 by decide), ?_⟩
        have hdd : (upd (upd G2 dd (.dK [])) dd (.dK (mergeK [] d3k))) dd = some (.dK (mergeK [] d3k)) := upd_same
        generalize upd (upd G2 dd (.dK [])) dd (.dK (mergeK [] d3k)) = G3 at s3 hdd ⊢
        refine ⟨dd, rfl, .inl ⟨_, .inl hdd⟩, .str "register", rfl, some (.int 3), d3_r ▸ DGet.k (k := kS "register") hdd, rfl, _, rfl, ?_⟩
        refine iteF ?_
        have sG3 := s2.trans s3
        have hrs3 := s3 _ _ hrs
        have t1 := t1.same s3
        have t2 := t2.same s3
        have t3 := t3.same s3
        refine ⟨.ref rs, rfl, rs, _, 0, _, rfl, rfl, SqT.mk hrs3, atI_nat (j := 0) rfl, ?_⟩
        intro e1 ne1
        have sd1 := same_newer (o := .dK (mergeK [] [(kS "register", .int 2)])) (same_upd ne1 (o := .dK [])) ne1
        refine ⟨upd_same, [(kS "register", .int 2)], rfl, (show 1 ≤ 15 by decide), ?_⟩
        have hd1 : (upd (upd G3 e1 (.dK [])) e1 (.dK (mergeK [] [(kS "register", .int 2)]))) e1 = some (.dK (mergeK [] [(kS "register", .int 2)])) := upd_same
        generalize upd (upd G3 e1 (.dK [])) e1 (.dK (mergeK [] [(kS "register", .int 2)])) = G4 at sd1 hd1 ⊢
        refine ⟨e1, rfl, .inl ⟨_, .inl hd1⟩, .str "register", rfl, some (.int 2), d1_y ▸ DGet.k (k := kS "register") hd1, ?_⟩
        intro e2 ne2
        have sd2 := same_newer (o := .dK (mergeK [] [(kS "counter", .int 64)])) (same_upd ne2 (o := .dK [])) ne2
        refine ⟨upd_same, [(kS "counter", .int 64)], rfl, (show 1 ≤ 15 by decide), ?_⟩
        have hd2 : (upd (upd G4 e2 (.dK [])) e2 (.dK (mergeK [] [(kS "counter", .int 64)]))) e2 = some (.dK (mergeK [] [(kS "counter", .int 64)])) := upd_same
        generalize upd (upd G4 e2 (.dK [])) e2 (.dK (mergeK [] [(kS "counter", .int 64)])) = G5 at sd2 hd2 ⊢
        refine ⟨e2, rfl, .inl ⟨_, .inl hd2⟩, .str "register", rfl, none, d1_n (show ("register" : Str) ≠ "counter" by decide +kernel) ▸ DGet.k (k := kS "register") hd2, ?_⟩
        have sd := sd1.trans sd2
        have hrs5 := sd _ _ hrs3
        have sG5 := sG3.trans sd
        have t1 := t1.same sd
        have t2 := t2.same sd
        have t3 := t3.same sd
        clear hrs hrs3 s3 hdd sd1 sd2 hd1 hd2 sd sG3
        refine ⟨p, y1, d1, 2, 6, rfl, t1, _, rfl, ?_⟩
        cases hh1 : withinD d1 2 6 with
        | false =>
          refine iteT (no ?_ _ sG5)
          intro z
          obtain ⟨w', q', s, e, b1, _⟩ := cn z
          cases e
          have := b1.lo
          have := b1.hi
          exact within_no hh1 (by omega)
        | true =>
        obtain ⟨i, rfl, l, u⟩ := within_is hh1
        obtain ⟨r, rfl⟩ := nat_of (show 0 ≤ i by omega)
        obtain rfl := t1.intv
        refine iteF ⟨_, rfl, rfl, _, rfl, ?_⟩
        rw [str_noA (by decide +kernel)]
        refine iteF ?_
        refine ⟨rfl, fun P1 lp sP nlp hlp => ?_⟩
        have hrs6 := sP _ _ hrs5
        have sG6 := sG5.trans sP
        have t2 := t2.same sP
        have t3 := t3.same sP
        refine ⟨.ref rs, rfl, rs, _, 0, _, rfl, rfl, SqT.mk hrs6, atI_nat (j := 0) rfl, lp, _, _, _, rfl, rfl, SqL.mk hlp, at_pow (by omega), _, rfl, rfl, _, rfl, ?_⟩
        rw [str_noA (by decide +kernel)]
        have tp := two_pow6 (show r ≤ 6 by omega)
        have eh : ((2 ^ r : Nat) : Int) / 2 = ((2 ^ (r - 1) : Nat) : Int) := by
          have : 2 ^ r = 2 * 2 ^ (r - 1) := by rw [← Nat.pow_succ']; congr 1; omega
          rw [this, Int.natCast_mul]
          exact Int.mul_ediv_cancel_left _ (by decide)
        refine iteF ⟨.ref rs, rfl, rs, _, 1, _, rfl, rfl, SqT.mk hrs6, atI_nat (j := 1) rfl, _, rfl, _, _, rfl, rfl, ⟨by decide, by decide⟩, _, rfl, _, _, rfl, rfl, p, y2, d2, _, _, rfl, t2, _, rfl, ?_⟩
        rw [eh]
        cases hh2 : withinD d2 ((2 ^ (r - 1) : Nat) : Int) (((2 ^ r : Nat) : Int) - 1) with
        | false =>
          refine iteF (no ?_ _ sG6)
          intro z
          obtain ⟨w2, q2, s, e, rg, _⟩ := cn z
          simp only [List.cons.injEq, PyData.int.injEq, and_true] at e
          obtain ⟨e1, rfl, _⟩ := e
          have e1 : r = w2 := by omega
          subst e1
          exact within_no hh2 ⟨Int.ofNat_le.mpr rg.pl, Int.le_sub_one_of_lt (Int.ofNat_lt.mpr rg.ph)⟩
        | true =>
        obtain ⟨i2, rfl, l2, u2⟩ := within_is hh2
        obtain ⟨q', rfl⟩ := nat_of (Int.le_trans (Int.natCast_nonneg _) l2)
        have l2 := Int.ofNat_le.mp l2
        have u2 := Int.ofNat_lt.mp (Int.lt_of_le_sub_one u2)
        refine iteT ⟨.ref rs, rfl, rs, _, 2, _, rfl, rfl, SqT.mk hrs6, atI_nat (j := 2) rfl, _, rfl, _, _, rfl, rfl, p, y3, d3, 1, _, rfl, t3, q _ _ sG6 ⟨fun e => ?_, fun z => ?_⟩⟩
        · obtain ⟨i3, rfl, l3, u3⟩ := within_is e
          obtain ⟨s', rfl⟩ := nat_of (show 0 ≤ i3 by omega)
          have u3 := Int.ofNat_lt.mp (Int.lt_of_le_sub_one u3)
          exact ⟨.register r q' s', rfl, ⟨⟨by omega, by omega, l2, u2⟩, by omega, u3⟩, trivial⟩
        · obtain ⟨w2, q2, s', e, rg, b1, b2⟩ := cn z
          simp only [List.cons.injEq, PyData.int.injEq, and_true] at e
          obtain ⟨e1, _, rfl⟩ := e
          have e1 : r = w2 := by omega
          subst e1
          exact decide_eq_true ⟨by omega, Int.le_sub_one_of_lt (Int.ofNat_lt.mpr b2)⟩
/-! how large makers are, as things -/
theorem weiA_ints : ∀ {ns : List Int}, (∀ x, x ∈ ns → x.natAbs < 10 ^ 21) → PyData.weightAll (ns.map PyData.int) ≤ 86 * ns.length ∧ gdA 21 (ns.map PyData.int) = true ∧ PyData.depthAll (ns.map PyData.int) ≤ 0
  | [], _ => ⟨by simp [PyData.weightAll], rfl, by simp [PyData.depthAll]⟩
  | n :: ns, h => by
    obtain ⟨a, b, c⟩ := weiA_ints (ns := ns) fun x hx => h x (List.mem_cons_of_mem _ hx)
    have g := bd_int (k := 21) (h n List.mem_cons_self)
    have g1 := g.wt
    have g2 := g.g
    have g3 := g.dp
    refine ⟨?_, ?_, ?_⟩
    · simp only [List.map_cons, PyData.weightAll, List.length_cons]
      omega
    · simp only [List.map_cons, gdA, g2, b]
      rfl
    · simp only [List.map_cons, PyData.depthAll]
      omega
theorem n21 {n : Nat} (h : n ≤ 100000) : ((n : Nat) : Int).natAbs < 10 ^ 21 := by
  have : (100001 : Nat) ≤ 10 ^ 21 := by decide
  omega
theorem bd_w {z : Str} (h : PyData.strOk z = true) (l : z.length ≤ 10) : Bd 21 0 10 (.str z) := (bd_str h).mono (Nat.le_refl _) (Nat.le_refl _) l
theorem bd_w3 {z : Str} {n : Nat} {e : PyData} {m w : Nat} (hz : PyData.strOk z = true) (l : z.length ≤ 10) (hn : n ≤ 100000) (he : Bd 21 m w e) : Bd 21 (m + 1) (w + 100) (.tuple [.str z, .int (n : Nat), e]) :=
  (((BdA.one (bd_w hz l)).app ((BdA.one (bd_int (n21 hn))).app (BdA.one he))).mono (Nat.le_refl _) (show max 0 (max 0 m) ≤ m by omega) (show 10 + 1 + (4 * 21 + 1 + 1 + (w + 1)) ≤ w + 100 by omega)).tup
theorem bd_w4 {z : Str} {a b c : Nat} (hz : PyData.strOk z = true) (l : z.length ≤ 10) (ha : a ≤ 100000) (hb : b ≤ 100000) (hc : c ≤ 100000) : Bd 21 2 6000 (.tuple [.str z, .int (a : Nat), .int (b : Nat), .int (c : Nat)]) :=
  (((BdA.one (bd_w hz l)).app ((BdA.one (bd_int (n21 ha))).app ((BdA.one (bd_int (n21 hb))).app (BdA.one (bd_int (n21 hc)))))).mono (Nat.le_refl _) (show max 0 (max 0 (max 0 0)) ≤ 1 by omega) (show _ ≤ 6000 by omega)).tup
theorem mkd_bd : ∀ {m : Mk}, m.Ok → Bd 21 (m.dep + 2) (6000 + 100 * m.dep) (mkd m)
  | .counter r s t, ok => by
    obtain ⟨h1, h2, h3, h4⟩ : 1 ≤ r ∧ r ≤ 64 ∧ s ≤ 64 ∧ t < r := ok
    exact bd_w4 (by decide +kernel) (by decide +kernel) (by omega) (by omega) (by omega)
  | .turned w s, ok => by
    obtain ⟨h1, h2, h3⟩ : 1 ≤ w ∧ w ≤ 6 ∧ s < 2 ^ w := ok
    have : 2 ^ w ≤ 2 ^ 6 := Nat.pow_le_pow_right (by decide) h2
    exact (bd_w3 (by decide +kernel) (by decide +kernel) (by omega) (bd_int (n21 (show s ≤ 100000 by omega)))).mono (Nat.le_refl _) (show 0 + 1 ≤ 0 + 2 by omega) (show _ ≤ 6000 + 100 * 0 by omega)
  | .register w q s, ok => by
    obtain ⟨h1, h2, h3⟩ : RgW w q ∧ 1 ≤ s ∧ s < 2 ^ w := ok
    have : 2 ^ w ≤ 2 ^ 6 := Nat.pow_le_pow_right (by decide) h1.hi
    have := h1.ph
    have := h1.hi
    exact bd_w4 (by decide +kernel) (by decide +kernel) (by omega) (by omega) (by omega)
  | .table ns, ok => by
    obtain ⟨h1, h2, h3⟩ : 1 ≤ ns.length ∧ ns.length ≤ 64 ∧ ∀ x, x ∈ ns → 0 ≤ x ∧ x ≤ 63 := ok
    obtain ⟨a, b, c⟩ := weiA_ints (ns := ns) fun x hx => by
      have := h3 x hx
      have : (64 : Nat) ≤ 10 ^ 21 := by decide
      omega
    have t : Bd 21 (0 + 1) 5504 (.tuple (ns.map PyData.int)) := BdA.tup ⟨b, c, by omega⟩
    exact (((BdA.one (bd_w (z := "table") (by decide +kernel) (by decide +kernel))).app (BdA.one t)).mono (Nat.le_refl _) (show max 0 (0 + 1) ≤ 1 by omega) (show _ ≤ 6000 + 100 * 0 by omega)).tup
  | .slow n m, ok => by
    have h := mkd_bd (m := m) ok.2.2
    have := ok.2.1
    exact (bd_w3 (z := "slow") (by decide +kernel) (by decide +kernel) (show n ≤ 100000 by omega) h).mono (Nat.le_refl _) (by simp only [Mk.dep]; omega) (by simp only [Mk.dep]; omega)
  | .slip n m, ok => by
    have h := mkd_bd (m := m) ok.2.2
    have := ok.2.1
    exact (bd_w3 (z := "slip") (by decide +kernel) (by decide +kernel) (show n ≤ 100000 by omega) h).mono (Nat.le_refl _) (by simp only [Mk.dep]; omega) (by simp only [Mk.dep]; omega)
  | .late n m, ok => by
    have h := mkd_bd (m := m) ok.2
    have := ok.1
    exact (bd_w3 (z := "late") (by decide +kernel) (by decide +kernel) (show n ≤ 100000 by omega) h).mono (Nat.le_refl _) (by simp only [Mk.dep]; omega) (by simp only [Mk.dep]; omega)
def PN (p D : Addr) (HX : Hp) (m : Int) (k i : Nat) (H1 : Hp) : Prop := ∃ rs : List Int, rs.length = i ∧ (∀ x, x ∈ rs → 0 ≤ x ∧ x < m) ∧ But p HX H1 ∧ Bx H1 p (k + i) ∧ H1 D = some (.lst (rs.map V.int))
theorem pn_start {p D : Addr} {HX : Hp} {m : Int} {k : Nat} (nD : HX D = none) (B : Bx HX p k) : PN p D HX m k 0 (upd HX D (.lst [])) := ⟨[], rfl, fun _ h => (by cases h), (But.refl p HX).new nD, B.new nD, upd_same⟩
theorem pn_step {p D : Addr} {HX H1 H4 : Hp} {m : Int} {k i : Nat} {x : Int} (nD : HX D = none) (Dp : D ≠ p) (h : PN p D HX m k i H1) (b : But p H1 H4) (B : Bx H4 p (k + (i + 1))) (hi : i < 100000) (hx : 0 ≤ x ∧ x < m) :
    ∃ acc, H4 D = some (.lst acc) ∧ acc.length < sizeLine ∧ PN p D HX m k (i + 1) (upd H4 D (.lst (acc ++ [.int x]))) := by
  obtain ⟨rs, hl, hb, b1, _, hD⟩ := h
  have hsl : sizeLine = 16777216 := by decide
  refine ⟨_, b _ _ Dp hD, by rw [List.length_map]; omega, rs ++ [x], by rw [List.length_append, hl]; rfl, fun y hy => ?_, but_newer (b1.trans b) nD, B.other Dp, ?_⟩
  · rcases List.mem_append.mp hy with hy | hy
    · exact hb y hy
    · rw [List.mem_singleton.mp hy]
      exact hx
  · rw [upd_same, List.map_append]
    rfl
def SV (D : Addr) (HX : Hp) (m i : Nat) (H1 : Hp) : Prop := ∃ ss : List Int, ss.length ≤ i ∧ (i = 0 ∨ 1 ≤ ss.length) ∧ (∀ x, x ∈ ss → 1 ≤ x ∧ x ≤ m ∧ Int.gcd x (m : Int) = 1) ∧ Same HX H1 ∧ H1 D = some (.lst (ss.map V.int))
theorem i01b {c : Bool} : 0 ≤ (if c = true then (1 : Int) else 0) ∧ (if c = true then (1 : Int) else 0) < ((2 : Nat) : Int) := by
  cases c <;> decide
def sp__law_plain (_ : PySem.W.Frag) : Sp := fun vs H Q _ => ∃ (p : Addr) (n : Nat), vs = [.ref p] ∧ Bx H p n ∧ n < 1000000000 ∧
  ∀ H' v m, But p H H' → Bx H' p (n + 200) → MkAt H' m v → m.dep = 0 → m.Pl → m.Vd → Q v H'
theorem ok__law_plain (T : Defs K mg) (TT : Tabs T base) : FnOk P w K mg base CX0 2 T.f__law_plain T.fd__law_plain ["_law_box_here"] (sp__law_plain K) := by
  have G__law_take : FnOk P w K mg base CX0 1 T.f__law_take T.fd__law_take ["_law_box_here", "_law_many"] (sp__law_take K) := ok__law_take T TT
  have G__law_powers : FnOk P w K mg base CX0 1 T.f__law_powers T.fd__law_powers [] (sp__law_powers K) := ok__law_powers T TT
  have G__law_divisor : FnOk P w K mg base CX0 1 T.f__law_divisor T.fd__law_divisor ["_law_one", "_law_other"] (sp__law_divisor K) := ok__law_divisor T TT
  refine T.F__law_plain.ok sc__law_plain (fun vs H Q E h => ?_) (fun cdv A outer s H vs Q E hr h => ?_)
  · obtain ⟨p, n, rfl, hB, hn, q⟩ := h
    rfl
  · obtain ⟨p, n, rfl, hB, hn, q⟩ := h
    refine ⟨_, PSs.nox (pss_cons (ps_par (i := 1) (j := 2) (by rfl) sc__law_plain.nd rfl rfl (by decide) rfl rfl (pa_cons (pe_call G__law_take (hr.mono (by decide)) (by rfl) T.g__law_take T.F__law_take.kp T.b__law_take .nil pass0 (pa_cons (pv 0) (pa_cons pe_int pa_nil))) (pa_cons (pe_cmpR op_eq (pe_call G__law_take (hr.mono (by decide)) (by rfl) T.g__law_take T.F__law_take.kp T.b__law_take .nil pass0 (pa_cons (pv 0) (pa_cons pe_int pa_nil))) pe_int (nomark _)) pa_nil)) (by rfl))
    (pss_cons (ps_if (pt_cmpR op_eq (pv 1) pe_int (nomark _)) (pss_cons (ps_set (i := 3) sc__law_plain.nd rfl (.inr rfl) (pe_ix ix_list (pe_lst (pa_cons (pe_op op_add pe_int (pe_call G__law_take (hr.mono (by decide)) (by rfl) T.g__law_take T.F__law_take.kp T.b__law_take .nil pass0 (pa_cons (pv 0) (pa_cons pe_int pa_nil)))) (pa_cons (pe_op op_add pe_int (pe_call G__law_take (hr.mono (by decide)) (by rfl) T.g__law_take T.F__law_take.kp T.b__law_take .nil pass0 (pa_cons (pv 0) (pa_cons pe_int pa_nil)))) pa_nil))) (pe_callTy call_int1 (by rfl) T.m_int bt_int (pa_cons (pv 2) pa_nil)) (fun _ _ => rfl)))
    (pss_cons (ps_setLc (i := 4) (own := [("_law_step", 7)]) (g := gName 7) rfl sc__law_plain.nd rfl rfl (sw_true rfl rfl rfl (by decide +kernel)) (pi_range2 (by rfl) T.m_range (pa_cons pe_int (pa_cons (pe_op op_add (pv 3) pe_int) pa_nil))) (blkOk_by (N := N__law_plain) (sc := defScope s__law_plain) (by decide +kernel)) (fun _ _ _ _ _ => (pg_name (i := 7) sc__law_plain.nd rfl (.inl rfl))) (fun _ _ _ _ _ => pts_one (pt_cmpR op_eq (pe_call G__law_divisor (hr.mono (by decide)) (by rfl) T.g__law_divisor T.F__law_divisor.kp T.b__law_divisor .nil pass0 (pa_cons (pv 7) (pa_cons (pv 3) pa_nil))) pe_int (nomark _))) (fun _ _ _ _ _ => (pv 7)))
    (pss_one (ps_ret (pe_tup (pa_cons pe_str (pa_cons (pv 3) (pa_cons (pe_ix ix_list (pv 4) (pe_call G__law_take (hr.mono (by decide)) (by rfl) T.g__law_take T.F__law_take.kp T.b__law_take .nil pass0 (pa_cons (pv 0) (pa_cons (pe_callB call_len_seq (by rfl) T.m_len bt_len (pa_cons (pv 4) pa_nil)) pa_nil))) (fun _ _ => rfl)) (pa_cons (pe_call G__law_take (hr.mono (by decide)) (by rfl) T.g__law_take T.F__law_take.kp T.b__law_take .nil pass0 (pa_cons (pv 0) (pa_cons (pv 3) pa_nil))) pa_nil))))))))) pss_nil)
    (pss_cons (ps_if (pt_cmpR op_eq (pv 1) pe_int (nomark _)) (pss_cons (ps_set (i := 3) sc__law_plain.nd rfl (.inr rfl) (pe_ix ix_list (pe_lst (pa_cons (pe_op op_add pe_int (pe_call G__law_take (hr.mono (by decide)) (by rfl) T.g__law_take T.F__law_take.kp T.b__law_take .nil pass0 (pa_cons (pv 0) (pa_cons pe_int pa_nil)))) (pa_cons (pe_op op_add pe_int (pe_call G__law_take (hr.mono (by decide)) (by rfl) T.g__law_take T.F__law_take.kp T.b__law_take .nil pass0 (pa_cons (pv 0) (pa_cons pe_int pa_nil)))) pa_nil))) (pe_callTy call_int1 (by rfl) T.m_int bt_int (pa_cons (pv 2) pa_nil)) (fun _ _ => rfl)))
    (pss_cons (ps_set (i := 5) sc__law_plain.nd rfl (.inr rfl) (pe_ix ix_list (pe_lst (pa_cons pe_int (pa_cons pe_int (pa_cons pe_int pa_nil)))) (pe_call G__law_take (hr.mono (by decide)) (by rfl) T.g__law_take T.F__law_take.kp T.b__law_take .nil pass0 (pa_cons (pv 0) (pa_cons pe_int pa_nil))) (fun _ _ => rfl)))
    (pss_one (ps_ret (pe_tup (pa_cons pe_str (pa_cons (pe_callTy call_tuple_of (by rfl) T.m_tuple bt_tuple (pa_cons (pe_lc (own := [("_law_place", 8)]) (g := gName 8) (tt := tYes) rfl sc__law_plain.nd (pi_range1 (by rfl) T.m_range (pa_cons (pv 3) pa_nil)) (blkOk_by (N := N__law_plain) (sc := defScope s__law_plain) (by decide +kernel)) (fun _ _ _ _ _ => (pg_name (i := 8) sc__law_plain.nd rfl (.inl rfl))) (fun _ _ _ _ _ => pts_nil) (fun _ _ _ _ _ => (pe_call G__law_take (hr.mono (by decide)) (by rfl) T.g__law_take T.F__law_take.kp T.b__law_take .nil pass0 (pa_cons (pv 0) (pa_cons (pv 5) pa_nil))))) pa_nil)) pa_nil))))))) pss_nil)
    (pss_cons (ps_set (i := 6) sc__law_plain.nd rfl (.inl rfl) (pe_op op_add pe_int (pe_call G__law_take (hr.mono (by decide)) (by rfl) T.g__law_take T.F__law_take.kp T.b__law_take .nil pass0 (pa_cons (pv 0) (pa_cons (pe_ix ix_list (pe_lst (pa_cons pe_int (pa_cons pe_int pa_nil))) (pe_callTy call_int1 (by rfl) T.m_int bt_int (pa_cons (pv 2) pa_nil)) (fun _ _ => rfl)) pa_nil)))))
    (pss_cons (ps_set (i := 3) sc__law_plain.nd rfl (.inr rfl) (pe_ix ix_list (pe_call0 G__law_powers (hr.mono (by decide)) (by rfl) T.g__law_powers T.F__law_powers.kp T.b__law_powers .nil pass0) (pv 6) (fun _ _ => rfl)))
    (pss_cons (ps_if (pt_cmpR op_eq (pv 1) pe_int (nomark _)) (pss_cons (ps_set (i := 6) sc__law_plain.nd rfl (.inl rfl) (pe_op op_sub (pv 6) (pe_call G__law_take (hr.mono (by decide)) (by rfl) T.g__law_take T.F__law_take.kp T.b__law_take .nil pass0 (pa_cons (pv 0) (pa_cons pe_int pa_nil)))))
    (pss_one (ps_ret (pe_tup (pa_cons pe_str (pa_cons (pv 6) (pa_cons (pe_call G__law_take (hr.mono (by decide)) (by rfl) T.g__law_take T.F__law_take.kp T.b__law_take .nil pass0 (pa_cons (pv 0) (pa_cons (pe_ix ix_list (pe_call0 G__law_powers (hr.mono (by decide)) (by rfl) T.g__law_powers T.F__law_powers.kp T.b__law_powers .nil pass0) (pv 6) (fun _ _ => rfl)) pa_nil))) pa_nil))))))) pss_nil)
    (pss_one (ps_ret (pe_tup (pa_cons pe_str (pa_cons (pv 6) (pa_cons (pe_op op_add (pe_op op_fdiv (pv 3) pe_int) (pe_call G__law_take (hr.mono (by decide)) (by rfl) T.g__law_take T.F__law_take.kp T.b__law_take .nil pass0 (pa_cons (pv 0) (pa_cons (pe_op op_fdiv (pv 3) pe_int) pa_nil)))) (pa_cons (pe_op op_add pe_int (pe_call G__law_take (hr.mono (by decide)) (by rfl) T.g__law_take T.F__law_take.kp T.b__law_take .nil pass0 (pa_cons (pv 0) (pa_cons (pe_op op_sub (pv 3) pe_int) pa_nil)))) pa_nil))))))))))))), ?_⟩
    have hsl : sizeLine = 16777216 := by decide
    refine ⟨.ref p, rfl, p, 4, n, rfl, hB, by decide, by decide, by omega, fun H1 way c1 B1 l1 u1 => ?_⟩
    refine ⟨.ref p, rfl, p, 8, n + 1, rfl, B1, by decide, by decide, by omega, fun H2 r2 c2 B2 l2 u2 => ⟨rfl, _, _, rfl, ?_⟩⟩
    obtain ⟨gr, hgr⟩ : ∃ gr, decide (V.int r2 = V.int 0) = gr := ⟨_, rfl⟩
    rw [hgr]
    have b2 := c1.trans c2
    clear c1 c2 B1 hgr l2 u2
    refine ⟨.int way, rfl, rfl, _, rfl, ite2 (fun _ => ?_) (fun _ => ?_)⟩
    · -- a counter
      refine ⟨.ref p, rfl, p, 16, _, rfl, B2, by decide, by decide, by omega, fun H3 r3 c3 B3 l3 u3 => ⟨_, _, rfl, rfl, ?_⟩⟩
      refine ⟨.ref p, rfl, p, 64, _, rfl, B3, by decide, by decide, by omega, fun H4 r4 c4 B4 l4 u4 => ⟨_, _, rfl, rfl, ?_⟩⟩
      refine ⟨(show 2 ≤ sizeLine by decide), fun l nl => ?_⟩
      obtain ⟨v, ev, hv⟩ := at_menu (Pr := fun v => 1 ≤ v ∧ v ≤ 64) (xs := [1 + r3, 1 + r4]) (r := if gr = true then (1 : Int) else 0) i01b.1 i01b.2 (fun x hx => by
        simp only [List.mem_cons, List.not_mem_nil, or_false] at hx
        omega)
      refine ⟨.bl gr, rfl, .inr ⟨_, rfl, l, _, _, _, rfl, rfl, SqL.mk upd_same, ev, ?_⟩⟩
      obtain ⟨m, rfl⟩ := nat_of (show 0 ≤ v by omega)
      have b4 := (b2.trans (c3.trans c4)).new (o := .lst [.int (1 + r3), .int (1 + r4)]) nl
      have B5 := B4.new (o := .lst [.int (1 + r3), .int (1 + r4)]) nl
      generalize upd H4 l (.lst [.int (1 + r3), .int (1 + r4)]) = G2 at b4 B5 ⊢
      clear ev l3 u3 l4 u4 c3 c4 B3 B4 nl
      refine ⟨.int (m : Nat), rfl, _, _, rfl, rfl, _, _, rfl, ⟨by decide, by decide, by omega, by omega⟩, fun D nD => ?_⟩
      refine lc_range (SV D G2 m) ⟨[], Nat.le_refl 0, .inl rfl, fun _ h => (by cases h), same_upd nD, upd_same⟩ (fun i F hi h => ?_) (fun F h => ?_)
      · obtain ⟨ss, e1, e2, e3, sF, hD⟩ := h
        have hi : i < m := by omega
        refine ⟨rfl, _, rfl, .int (m : Nat), rfl, _, _, rfl, rfl, _, rfl, ?_⟩
        refine ite2 (fun e => ?_) (fun e => ?_)
        · refine ⟨_, rfl, _, hD, by rw [List.length_map]; omega, ss ++ [1 + (i : Int)], by rw [List.length_append]; exact Nat.add_le_add_right e1 1, .inr (by rw [List.length_append]; exact Nat.le_add_left _ _), fun x hx => ?_, same_newer sF nD, by rw [upd_same, List.map_append]; rfl⟩
          rcases List.mem_append.mp hx with hx | hx
          · exact e3 x hx
          · rw [List.mem_singleton.mp hx]
            have eg : ((Int.gcd (1 + (i : Int)) (m : Int) : Nat) : Int) = 1 := V.int.inj (of_decide_eq_true e)
            exact ⟨by omega, by omega, by omega⟩
        · refine ⟨ss, by omega, .inr ?_, e3, sF, hD⟩
          rcases e2 with rfl | e2
          · exfalso
            refine e (decide_eq_true ?_)
            show V.int ((Int.gcd (1 + ((0 : Nat) : Int)) (m : Int) : Nat) : Int) = V.int 1
            have : Int.gcd (1 + ((0 : Nat) : Int)) (m : Int) = 1 := by
              show Nat.gcd 1 m = 1
              exact Nat.gcd_one_left m
            rw [this]
            rfl
          · exact e2
      obtain ⟨ss, e1, e2, e3, sF, hD⟩ := h
      have e2 : 1 ≤ ss.length := by omega
      have e1 : ss.length ≤ 64 := by omega
      have bF := b4.trans (same_but (p := p) sF)
      have BF := B5.same sF
      have Db : D ≠ p := ne_new B5 nD
      refine ⟨.int (m : Nat), rfl, .ref D, rfl, .ref p, rfl, .ref D, rfl, D, _, rfl, .inl (SqL.mk hD), p, ss.length, _, by rw [List.length_map]; rfl, BF, by omega, by omega, by omega, fun F3 r5 c5 B6 l5 u5 => ?_⟩
      obtain ⟨sp, ev2, hv2⟩ := at_menu (Pr := fun v => 1 ≤ v ∧ v ≤ (m : Int) ∧ Int.gcd v (m : Int) = 1) (xs := ss) l5 u5 e3
      refine ⟨D, _, _, _, rfl, rfl, SqL.mk (c5 _ _ Db hD), ev2, .ref p, rfl, .int (m : Nat), rfl, p, m, _, rfl, B6, by omega, by omega, by omega, fun F4 r6 c6 B7 l6 u6 => ⟨(show 4 ≤ sizeLine by decide), fun mk nmk => ?_⟩⟩
      obtain ⟨sp, rfl⟩ := nat_of (show 0 ≤ sp by omega)
      obtain ⟨t, rfl⟩ := nat_of l6
      exact q _ (.ref mk) (.counter m sp t) ((bF.trans (c5.trans c6)).new nmk) ((B7.new nmk).mono (by omega)) ⟨mk, rfl, upd_same⟩ rfl ⟨by omega, by omega, by omega, by omega⟩ ⟨by omega, by omega, hv2.2.2⟩
    refine ⟨.int way, rfl, rfl, _, rfl, ite2 (fun _ => ?_) (fun _ => ?_)⟩
    · -- a table
      refine ⟨.ref p, rfl, p, 8, _, rfl, B2, by decide, by decide, by omega, fun H3 r3 c3 B3 l3 u3 => ⟨_, _, rfl, rfl, ?_⟩⟩
      refine ⟨.ref p, rfl, p, 64, _, rfl, B3, by decide, by decide, by omega, fun H4 r4 c4 B4 l4 u4 => ⟨_, _, rfl, rfl, ?_⟩⟩
      refine ⟨(show 2 ≤ sizeLine by decide), fun l nl => ?_⟩
      obtain ⟨v, ev, hv⟩ := at_menu (Pr := fun v => 1 ≤ v ∧ v ≤ 64) (xs := [1 + r3, 1 + r4]) (r := if gr = true then (1 : Int) else 0) i01b.1 i01b.2 (fun x hx => by
        simp only [List.mem_cons, List.not_mem_nil, or_false] at hx
        omega)
      refine ⟨.bl gr, rfl, .inr ⟨_, rfl, l, _, _, _, rfl, rfl, SqL.mk upd_same, ev, ?_⟩⟩
      obtain ⟨k, rfl⟩ := nat_of (show 0 ≤ v by omega)
      have b4 := (b2.trans (c3.trans c4)).new (o := .lst [.int (1 + r3), .int (1 + r4)]) nl
      have B5 := B4.new (o := .lst [.int (1 + r3), .int (1 + r4)]) nl
      generalize upd H4 l (.lst [.int (1 + r3), .int (1 + r4)]) = G2 at b4 B5 ⊢
      clear ev l3 u3 l4 u4 c3 c4 B3 B4 nl
      refine ⟨(show 3 ≤ sizeLine by decide), fun l nl => ?_⟩
      refine ⟨.ref p, rfl, p, 3, _, rfl, B5.new nl, by decide, by decide, by omega, fun F5 r6 c7 B7 l6 u6 => ?_⟩
      obtain ⟨ms, ev, hv2⟩ := at_menu (Pr := fun v => 1 ≤ v ∧ v ≤ 64) (xs := [2, 6, 64]) l6 u6 (fun x hx => by
        simp only [List.mem_cons, List.not_mem_nil, or_false] at hx
        omega)
      refine ⟨l, _, _, _, rfl, rfl, SqL.mk (c7 _ _ (ne_new B5 nl) upd_same), ev, ?_⟩
      have b7 := (b4.new nl).trans c7
      refine ⟨.int (k : Nat), rfl, _, rfl, by omega, by omega, fun D nD => ?_⟩
      refine lc_range (PN p D F5 ms (n + 50)) (pn_start nD (B7.mono (by omega))) (fun i E5 hi h5 => ?_) (fun E5 h5 => ?_)
      · refine ⟨rfl, yes_ite ?_⟩
        have h5' := h5
        obtain ⟨_, _, _, _, B8, _⟩ := h5'
        refine ⟨.ref p, rfl, .int ms, rfl, p, ms, _, rfl, B8, by omega, by omega, by omega, fun H6 r6 b6 B6 l6 u6 => ?_⟩
        exact pn_step nD (ne_new B7 nD) h5 b6 B6 (by omega) ⟨l6, u6⟩
      obtain ⟨rs, hl, hb, b8, B8, hD⟩ := h5
      refine ⟨D, _, rfl, .inl ⟨SqL.mk hD, fun tb ntb => ⟨(show 2 ≤ sizeLine by decide), fun mk nmk => ?_⟩⟩⟩
      exact q _ (.ref mk) (.table rs) ((b7.trans ((b8.new ntb).new nmk))) (((B8.new ntb).new nmk).mono (by omega)) ⟨mk, tb, rfl, upd_same, (same_upd nmk) _ _ upd_same⟩ rfl ⟨by omega, by omega, fun x hx => by have := hb x hx; omega⟩ trivial
    -- turned ones and registers
    refine ⟨.ref p, rfl, (show 2 ≤ sizeLine by decide), fun l nl => ?_⟩
    obtain ⟨v, ev, hv⟩ := at_menu (Pr := fun v => 3 ≤ v ∧ v ≤ 5) (xs := [3, 5]) (r := if gr = true then (1 : Int) else 0) i01b.1 i01b.2 (fun x hx => by
      simp only [List.mem_cons, List.not_mem_nil, or_false] at hx
      omega)
    refine ⟨.bl gr, rfl, .inr ⟨_, rfl, l, _, _, _, rfl, rfl, SqL.mk upd_same, ev, p, v, _, rfl, B2.new nl, by omega, by omega, by omega, fun H3 r3 c3 B3 l3 u3 => ⟨_, _, rfl, rfl, ?_⟩⟩⟩
    have b3 := (b2.new nl).trans c3
    obtain ⟨w', hw⟩ : ∃ w' : Nat, 2 + r3 = w' := ⟨(2 + r3).toNat, by omega⟩
    have w1 : 2 ≤ w' := by omega
    have w2 : w' ≤ 6 := by omega
    try dsimp only
    rw [hw]
    clear ev hv l3 u3 c3 B2 nl hw b2
    refine ⟨rfl, fun H4 lp g4 nlp hlp => ?_⟩
    refine ⟨.int (w' : Nat), rfl, lp, _, _, _, rfl, rfl, SqL.mk hlp, at_pow w2, ?_⟩
    have tp := two_pow6 w2
    obtain ⟨h2, hh2⟩ : ∃ h2, 2 ^ (w' - 1) = h2 := ⟨_, rfl⟩
    have en : 2 ^ w' = 2 * h2 := by
      rw [← hh2, show w' = (w' - 1) + 1 by omega, Nat.pow_succ, Nat.add_sub_cancel]
      omega
    obtain ⟨nn, hn2⟩ : ∃ nn : Nat, 2 ^ w' = nn := ⟨_, rfl⟩
    rw [hn2] at tp en ⊢
    have h21 : 2 ≤ h2 := by
      rw [← hh2]
      exact Nat.le_trans (by decide : 2 ≤ 2 ^ 1) (Nat.pow_le_pow_right (by decide) (by omega))
    have B4 := B3.same g4
    have b4 := b3.trans (same_but (p := p) g4)
    refine ⟨.int way, rfl, rfl, _, rfl, ite2 (fun _ => ?_) (fun _ => ?_)⟩
    · refine ⟨.int (w' : Nat), rfl, .ref p, rfl, p, 2, _, rfl, B4, by decide, by decide, by omega, fun H5 r5 c5 B5 l5 u5 => ⟨_, _, rfl, rfl, ?_⟩⟩
      obtain ⟨v', hv'⟩ : ∃ v' : Nat, (w' : Int) - r5 = v' := ⟨((w' : Int) - r5).toNat, by omega⟩
      have v1 : 1 ≤ v' := by omega
      have v2 : v' ≤ 6 := by omega
      try dsimp only
      rw [hv']
      have vp := two_pow6 v2
      obtain ⟨mm, hmm⟩ : ∃ mm : Nat, 2 ^ v' = mm := ⟨_, rfl⟩
      refine ⟨.int (v' : Nat), rfl, .ref p, rfl, rfl, fun H6 lq g6 nlq hlq => ?_⟩
      refine ⟨.int (v' : Nat), rfl, lq, _, _, _, rfl, rfl, SqL.mk hlq, at_pow v2, ?_⟩
      rw [hmm] at vp ⊢
      refine ⟨p, mm, _, rfl, B5.same g6, by omega, by omega, by omega, fun H7 r7 c7 B7 l7 u7 => ⟨(show 3 ≤ sizeLine by decide), fun mk nmk => ?_⟩⟩
      obtain ⟨t, rfl⟩ := nat_of l7
      exact q _ (.ref mk) (.turned v' t) (((b4.trans c5).trans ((same_but g6).trans c7)).new nmk) ((B7.new nmk).mono (by omega)) ⟨mk, rfl, upd_same⟩ rfl ⟨v1, v2, by rw [hmm]; omega⟩ trivial
    · have ed : (nn : Int) / 2 = (h2 : Int) := by omega
      refine ⟨.int (w' : Nat), rfl, .int (nn : Nat), rfl, _, _, rfl, rfl, ⟨by decide, by decide⟩, .ref p, rfl, .int (nn : Nat), rfl, _, _, rfl, rfl, ⟨by decide, by decide⟩, p, (h2 : Int), _, congrArg (fun z => [V.ref p, V.int z]) ed, B4, by omega, by omega, by omega, fun H5 r5 c5 B5 l5 u5 => ⟨_, _, rfl, rfl, ?_⟩⟩
      obtain ⟨p', hp'⟩ : ∃ p' : Nat, (nn : Int) / 2 + r5 = p' := ⟨((nn : Int) / 2 + r5).toNat, by omega⟩
      refine ⟨.ref p, rfl, .int (nn : Nat), rfl, _, _, rfl, rfl, p, (nn : Int) - 1, _, rfl, B5, by omega, by omega, by omega, fun H6 r6 c6 B6 l6 u6 => ⟨_, _, rfl, rfl, (show 4 ≤ sizeLine by decide), fun mk nmk => ?_⟩⟩
      obtain ⟨t, ht⟩ : ∃ t : Nat, 1 + r6 = t := ⟨(1 + r6).toNat, by omega⟩
      refine q _ (.ref mk) (.register w' p' t) ((b4.trans (c5.trans c6)).new nmk) ((B6.new nmk).mono (by omega)) ⟨mk, rfl, ?_⟩ rfl ⟨⟨w1, w2, by rw [hh2]; omega, by rw [hn2]; omega⟩, by omega, by rw [hn2]; omega⟩ trivial
      rw [upd_same, ← hp', ← ht]
theorem around_ok {H : Hp} {m : Mk} {x : V} {a : Addr} {z : Str} {n : Nat} (ha : H a = some (.tup [.str z, .int (n : Nat), x])) (hx : MkAt H m x) (ok : m.Ok) (hz : z = "slow" ∨ z = "slip" ∨ z = "late") (n2 : n ≤ 64) (n1 : z = "late" ∨ 1 ≤ n) :
    ∃ m', MkAt H m' (.ref a) ∧ m'.Ok ∧ m'.dep = m.dep + 1 ∧ m'.inn = m.inn ∧ m'.rnd ≤ 64 * m.rnd := by
  rcases hz with rfl | rfl | rfl
  · have n1 : 1 ≤ n := n1.resolve_left (by decide +kernel)
    exact ⟨.slow n m, ⟨a, x, rfl, ha, hx⟩, ⟨n1, n2, ok⟩, rfl, rfl, Nat.mul_le_mul_right _ n2⟩
  · have n1 : 1 ≤ n := n1.resolve_left (by decide +kernel)
    exact ⟨.slip n m, ⟨a, x, rfl, ha, hx⟩, ⟨n1, n2, ok⟩, rfl, rfl, Nat.le_trans (Nat.div_le_self _ _) (Nat.mul_le_mul_right _ n2)⟩
  · exact ⟨.late n m, ⟨a, x, rfl, ha, hx⟩, ⟨n2, ok⟩, rfl, rfl, Nat.le_mul_of_pos_left _ (by decide)⟩
theorem word_menu {x : V} (hx : x ∈ [V.str "slow", .str "slip", .str "late"]) : ∃ z : Str, x = .str z ∧ (z = "slow" ∨ z = "slip" ∨ z = "late") := by
  rcases List.mem_cons.mp hx with rfl | hx
  · exact ⟨_, rfl, .inl rfl⟩
  rcases List.mem_cons.mp hx with rfl | hx
  · exact ⟨_, rfl, .inr (.inl rfl)⟩
  rcases List.mem_cons.mp hx with rfl | hx
  · exact ⟨_, rfl, .inr (.inr rfl)⟩
  · cases hx
theorem bs_of {m : Mk} (ok : m.Ok) : m.inn.Bs := by
  have := ok.inn
  have d := Mk.inn_dep m
  cases e : m.inn with
  | slow n k => rw [e] at d; cases d
  | slip n k => rw [e] at d; cases d
  | late n k => rw [e] at d; cases d
  | _ => trivial
def sp__law_maker (_ : PySem.W.Frag) : Sp := fun vs H Q _ => ∃ (p : Addr) (M : Int) (n : Nat), vs = [.ref p, .int M] ∧ Bx H p n ∧ n < 1000000000 ∧ 64 ≤ M ∧
  ∀ H' v m, But p H H' → Bx H' p (n + 300) → MkAt H' m v → m.Ok → m.dep ≤ 3 → (m.rnd : Int) ≤ M → m.inn.Vd → Q v H'
theorem ok__law_maker (T : Defs K mg) (TT : Tabs T base) : FnOk P w K mg base CX0 10 T.f__law_maker T.fd__law_maker ["_law_box_here", "_law_most"] (sp__law_maker K) := by
  have G__law_plain : FnOk P w K mg base CX0 2 T.f__law_plain T.fd__law_plain ["_law_box_here"] (sp__law_plain K) := ok__law_plain T TT
  have G__law_take : FnOk P w K mg base CX0 1 T.f__law_take T.fd__law_take ["_law_box_here", "_law_many"] (sp__law_take K) := ok__law_take T TT
  have G__law_round : FnOk P w K mg base CX0 9 T.f__law_round T.fd__law_round ["_law_maker_here"] (sp__law_round K) := ok__law_round T TT
  refine T.F__law_maker.ok sc__law_maker (fun vs H Q E h => ?_) (fun cdv A outer s H vs Q E hr h => ?_)
  · obtain ⟨p, M, n, rfl, hB, hn, hM, q⟩ := h
    rfl
  · obtain ⟨p, M, n, rfl, hB, hn, hM, q⟩ := h
    refine ⟨_, PSs.nox (pss_cons (ps_set (i := 2) sc__law_maker.nd rfl (.inl rfl) (pe_call G__law_plain (hr.mono (by decide)) (by rfl) T.g__law_plain T.F__law_plain.kp T.b__law_plain .nil pass0 (pa_cons (pv 0) pa_nil)))
    (pss_cons ((ps_for PassesOwn.never rfl (pi_range1 (by rfl) T.m_range (pa_cons (pe_ix ix_list (pe_lst (pa_cons pe_int (pa_cons pe_int (pa_cons pe_int (pa_cons pe_int pa_nil))))) (pe_call G__law_take (hr.mono (by decide)) (by rfl) T.g__law_take T.F__law_take.kp T.b__law_take .nil pass0 (pa_cons (pv 0) (pa_cons pe_int pa_nil))) (fun _ _ => rfl)) pa_nil)) (pg_name (i := 3) sc__law_maker.nd rfl (.inl rfl)) (pss_cons (ps_set (i := 4) sc__law_maker.nd rfl (.inl rfl) (pe_ix ix_list (pe_lst (pa_cons pe_str (pa_cons pe_str (pa_cons pe_str pa_nil)))) (pe_call G__law_take (hr.mono (by decide)) (by rfl) T.g__law_take T.F__law_take.kp T.b__law_take .nil pass0 (pa_cons (pv 0) (pa_cons pe_int pa_nil))) (fun _ _ => rfl)))
    (pss_cons (ps_set (i := 5) sc__law_maker.nd rfl (.inl rfl) (pe_op op_add pe_int (pe_call G__law_take (hr.mono (by decide)) (by rfl) T.g__law_take T.F__law_take.kp T.b__law_take .nil pass0 (pa_cons (pv 0) (pa_cons (pe_ix ix_list (pe_lst (pa_cons pe_int (pa_cons pe_int (pa_cons pe_int pa_nil)))) (pe_call G__law_take (hr.mono (by decide)) (by rfl) T.g__law_take T.F__law_take.kp T.b__law_take .nil pass0 (pa_cons (pv 0) (pa_cons pe_int pa_nil))) (fun _ _ => rfl)) pa_nil)))))
    (pss_cons (ps_set (i := 6) sc__law_maker.nd rfl (.inl rfl) (pe_tup (pa_cons (pv 4) (pa_cons (pe_op op_sub (pv 5) (pe_op op_mul (pe_callTy call_int1 (by rfl) T.m_int bt_int (pa_cons (pe_cmpR op_eq (pv 4) pe_str (nomark _)) pa_nil)) (pe_call G__law_take (hr.mono (by decide)) (by rfl) T.g__law_take T.F__law_take.kp T.b__law_take .nil pass0 (pa_cons (pv 0) (pa_cons pe_int pa_nil))))) (pa_cons (pv 2) pa_nil)))))
    (pss_one (ps_if (pt_cmpR op_le (pe_call G__law_round (hr.mono (by decide)) (by rfl) T.g__law_round T.F__law_round.kp T.b__law_round .nil pass0 (pa_cons (pv 6) pa_nil)) (pv 1) (nomark _)) (pss_one (ps_set (i := 2) sc__law_maker.nd rfl (.inl rfl) (pv 6))) pss_nil)))))))
    (pss_one (ps_ret (pv 2))))), ?_⟩
    have hsl : sizeLine = 16777216 := by decide
    refine ⟨.ref p, rfl, p, n, rfl, hB, by omega, fun H1 v m b1 B1 hm d0 pl cp0 => ?_⟩
    have ic0 : m.inn.Vd := by rw [Mk.inn_self d0]; exact cp0
    have ok0 : m.Ok := by
      cases m with
      | slow n k => cases d0
      | slip n k => cases d0
      | late n k => cases d0
      | _ => exact pl
    have r0 : (m.rnd : Int) ≤ M := by
      rw [rnd_plain d0]
      have := pl.len
      omega
    refine ⟨(show 4 ≤ sizeLine by decide), fun l nl => ?_⟩
    refine ⟨.ref p, rfl, p, 4, _, rfl, B1.new nl, by decide, by decide, by omega, fun H2 r2 c2 B2 l2 u2 => ?_⟩
    obtain ⟨k, ek, hk⟩ := at_menu (Pr := fun v => 0 ≤ v ∧ v ≤ 3) (xs := [0, 1, 2, 3]) l2 u2 (fun x hx => by
      simp only [List.mem_cons, List.not_mem_nil, or_false] at hx
      omega)
    refine ⟨l, _, _, _, rfl, rfl, SqL.mk (c2 _ _ (ne_new B1 nl) upd_same), ek, _, rfl, by omega, by omega, ?_⟩
    have c12 : But p H1 H2 := ((But.refl p H1).new nl).trans c2
    have b2 := b1.trans c12
    have hm2 : MkAt H2 m v := hm.but B1 c12
    refine for_range (fun i σ G => ∃ v y3 y4 y5 y6, ∃ m : Mk, σ = [some (.ref p), some (.int M), some v, y3, y4, y5, y6] ∧ But p H G ∧ Bx G p (n + 210 + 10 * i) ∧ MkAt G m v ∧ m.Ok ∧ m.dep ≤ i ∧ (m.rnd : Int) ≤ M ∧ m.inn.Vd) ⟨v, none, none, none, none, m, rfl, b2, B2.mono (by omega), hm2, ok0, by omega, r0, ic0⟩ ?_ ?_
    rotate_left
    · rintro σ G ⟨v, y3, y4, y5, y6, m, rfl, bG, BG, hm, ok, dp, rm, ic⟩
      exact ⟨v, rfl, q G v m bG (BG.mono (by omega)) hm ok (by omega) rm ic⟩
    clear hm2 hm ok0 r0 d0 pl ic0 cp0 m v b1 B1 c12 b2 B2
    rintro i σ G hi ⟨v, y3, y4, y5, y6, m, rfl, bG, BG, hm, ok, dp, rm, ic⟩
    -- the word
    refine ⟨(show 3 ≤ sizeLine by decide), fun l nl => ?_⟩
    refine ⟨.ref p, rfl, p, 3, _, rfl, BG.new nl, by decide, by decide, by omega, fun G1 r1 c1 B1 l1 u1 => ?_⟩
    obtain ⟨wd, ew, z, rfl, hz⟩ := at_menuV (Pr := fun x => ∃ z : Str, x = .str z ∧ (z = "slow" ∨ z = "slip" ∨ z = "late")) (xs := [.str "slow", .str "slip", .str "late"]) l1 u1 (fun x hx => word_menu hx)
    refine ⟨l, _, _, _, rfl, rfl, SqL.mk (c1 _ _ (ne_new BG nl) upd_same), ew, ?_⟩
    -- how many
    refine ⟨.ref p, rfl, (show 3 ≤ sizeLine by decide), fun l' nl' => ?_⟩
    refine ⟨.ref p, rfl, p, 3, _, rfl, B1.new nl', by decide, by decide, by omega, fun G2 r2 c2 B2 l2 u2 => ?_⟩
    obtain ⟨mx, em, hmx⟩ := at_menu (Pr := fun v => 4 ≤ v ∧ v ≤ 64) (xs := [4, 9, 64]) l2 u2 (fun x hx => by
      simp only [List.mem_cons, List.not_mem_nil, or_false] at hx
      omega)
    refine ⟨l', _, _, _, rfl, rfl, SqL.mk (c2 _ _ (ne_new B1 nl') upd_same), em, p, mx, _, rfl, B2, by omega, by omega, by omega, fun G3 r3 c3 B3 l3 u3 => ⟨_, _, rfl, rfl, ?_⟩⟩
    have cG3 : But p G G3 := ((((But.refl p G).new nl).trans c1).new nl').trans (c2.trans c3)
    refine ⟨.str z, rfl, .int (1 + r3), rfl, .str z, rfl, rfl, .inr ⟨_, rfl, .ref p, rfl, p, 2, _, rfl, B3, by decide, by decide, by omega, fun G4 r4 c4 B4 l4 u4 => ⟨_, _, rfl, rfl, .inl i01, _, _, rfl, rfl, v, rfl, (show 3 ≤ sizeLine by decide), fun tg ntg => ?_⟩⟩⟩
    obtain ⟨N, hN, N1, N2⟩ : ∃ N : Nat, 1 + r3 - (if decide (V.str z = V.str "late") = true then (1 : Int) else 0) * r4 = (N : Int) ∧ (z = "late" ∨ 1 ≤ N) ∧ N ≤ 64 := by
      by_cases e : V.str z = V.str "late"
      · rw [decide_eq_true e, if_pos rfl, Int.one_mul]
        exact ⟨(1 + r3 - r4).toNat, by omega, .inl (V.str.inj e), by omega⟩
      · rw [decide_eq_false e, if_neg Bool.false_ne_true, Int.zero_mul]
        exact ⟨(1 + r3).toNat, by omega, .inr (by omega), by omega⟩
    have cG4 : But p G (upd G4 tg (.tup [.str z, .int (1 + r3 - (if decide (V.str z = V.str "late") = true then (1 : Int) else 0) * r4), v])) := (cG3.trans c4).new ntg
    have htg : (upd G4 tg (.tup [.str z, .int (1 + r3 - (if decide (V.str z = V.str "late") = true then (1 : Int) else 0) * r4), v])) tg = some (.tup [.str z, .int (N : Nat), v]) := by
      rw [upd_same, hN]
    have B5 := B4.new (o := .tup [.str z, .int (1 + r3 - (if decide (V.str z = V.str "late") = true then (1 : Int) else 0) * r4), v]) ntg
    generalize upd G4 tg (.tup [.str z, .int (1 + r3 - (if decide (V.str z = V.str "late") = true then (1 : Int) else 0) * r4), v]) = G5 at cG4 htg B5 ⊢
    have hm5 : MkAt G5 m v := hm.but BG cG4
    obtain ⟨m', hm', ok', dp', in', rd'⟩ := around_ok htg hm5 ok hz N2 N1
    refine ⟨.ref tg, rfl, m', .ref tg, rfl, hm', ok', bs_of ok', by omega, fun G6 s6 => ?_⟩
    refine ⟨.int M, rfl, _, _, rfl, rfl, _, rfl, ite2 (fun e => ?_) (fun e => ?_)⟩
    · have rm' : ((m'.rnd : Nat) : Int) ≤ M := of_decide_eq_true e
      refine ⟨.ref tg, rfl, .ref tg, _, _, _, _, m', rfl, bG.trans (cG4.trans (same_but s6)), (B5.same s6).mono (by omega), hm'.same s6, ok', by omega, rm', by rw [in']; exact ic⟩
    · exact ⟨v, _, _, _, _, m, rfl, bG.trans (cG4.trans (same_but s6)), (B5.same s6).mono (by omega), hm5.same s6, ok, by omega, rm, ic⟩
def clD (left : Nat) (d : PyData) : Prop := ∃ m : Mk, d = mkd m ∧ m.Ok ∧ m.inn.Vd ∧ m.dep ≤ left
theorem cl_ar {left : Nat} {d : PyData} (h : clD left d) : (arD d = none ∧ plainD d) ∨ ∃ e, arD d = some e ∧ 1 ≤ left ∧ clD (left - 1) e := by
  obtain ⟨m, rfl, ok, vd, dp⟩ := h
  rcases arD_mk ok with ⟨d0, pl, z⟩ | ⟨m', z, ok', dd, ii⟩
  · exact .inl ⟨z, m, rfl, pl, by rw [Mk.inn_self d0] at vd; exact vd⟩
  · exact .inr ⟨_, z, by omega, m', rfl, ok', by rw [← ii]; exact vd, by omega⟩
theorem ar_cl {left : Nat} {d e : PyData} (a : arD d = some e) (h : clD left e) : clD (left + 1) d := by
  obtain ⟨m, rfl, ok, vd, dp⟩ := h
  obtain ⟨k, e1, ok1, d1, i1⟩ := arD_up a ok
  exact ⟨k, e1, ok1, by rw [i1]; exact vd, by omega⟩
theorem pl_cl {left : Nat} {d : PyData} (h : plainD d) : clD left d := by
  obtain ⟨m, e, pl, vd⟩ := h
  obtain ⟨ok, d0⟩ := pl_ok pl
  exact ⟨m, e, ok, by rw [Mk.inn_self d0]; exact vd, by omega⟩
theorem arD_word {z : Str} {ds : List PyData} {e : PyData} (h : arD (.tuple (.str z :: ds)) = some e) : z = "slow" ∨ z = "slip" ∨ z = "late" := by
  obtain ⟨y, n, e1, c⟩ := arD_is h
  have : z = y := PyData.str.inj (List.cons.inj (PyData.tuple.inj e1)).1
  subst this
  rcases c with ⟨c, _⟩ | ⟨c, _⟩ | ⟨c, _⟩
  · exact .inr (.inr c)
  · exact .inl c
  · exact .inr (.inl c)
theorem pl_word {z : Str} {ds : List PyData} (h : plainD (.tuple (.str z :: ds))) : z ≠ "slow" ∧ z ≠ "slip" ∧ z ≠ "late" := by
  rcases pl_cases h with ⟨_, _, _, e, _⟩ | ⟨_, _, e, _⟩ | ⟨_, _, _, e, _⟩ | ⟨_, e, _⟩ <;> (
    have := PyData.str.inj (List.cons.inj e).1
    subst this
    exact ⟨by decide +kernel, by decide +kernel, by decide +kernel⟩)
def spr__law_clauses (D : Nat) (_ : PySem.W.Frag) : Sp := fun vs H Q _ => ∃ (p : Addr → Prop) (v : V) (d : PyData) (left kb nb wb : Nat), vs = [v, .int (left : Nat)] ∧ Tg p H v d ∧ Bd kb nb wb d ∧ nb ≤ 60 ∧ left < D ∧ ∀ H' r, Same H H' → (r = true ↔ clD left d) → Q (.bl r) H'
theorem no__law_clauses {K : PySem.W.Frag} {vs : List V} {H : Hp} {Q : VK} {E : XK} (h : spr__law_clauses 0 K vs H Q E) : False := by
  obtain ⟨p, v, d, left, kb, nb, wb, _, _, _, _, z, _⟩ := h
  omega
theorem okr__law_clauses (T : Defs K mg) (TT : Tabs T base) : ∀ d : Nat, FnOk P w K mg base CX0 (3 + d) T.f__law_clauses T.fd__law_clauses ["_law_thing", "_law_left"] (spr__law_clauses d K)
  | 0 => ⟨fun _ _ _ _ z => (no__law_clauses z).elim, fun _ _ _ _ _ _ _ _ _ _ _ _ _ z => (no__law_clauses z).elim⟩
  | d + 1 => by
    have G__law_clauses : FnOk P w K mg base CX0 (3 + d) T.f__law_clauses T.fd__law_clauses ["_law_thing", "_law_left"] (spr__law_clauses d K) := okr__law_clauses T TT d
    have G__law_fits : FnOk P w K mg base CX0 2 T.f__law_fits T.fd__law_fits ["_law_thing"] (sp__law_fits K) := ok__law_fits T TT
    have G__law_is_number : FnOk P w K mg base CX0 1 T.f__law_is_number T.fd__law_is_number ["_law_thing", "_law_least", "_law_most"] (sp__law_is_number K) := ok__law_is_number T TT
    show FnOk P w K mg base CX0 ((3 + d) + 1) T.f__law_clauses T.fd__law_clauses ["_law_thing", "_law_left"] (spr__law_clauses (d + 1) K)
    refine T.F__law_clauses.ok sc__law_clauses (fun vs H Q E h => ?_) (fun cdv A outer s H vs Q E hr h => ?_)
    · obtain ⟨p, v, dt, left, kb, nb, wb, rfl, hv, bd, nb60, lt, q⟩ := h
      rfl
    · obtain ⟨p, v, dt, left, kb, nb, wb, rfl, hv, bd, nb60, lt, q⟩ := h
      refine ⟨_, PSs.nox (pss_cons (ps_if (PW.pt (pw_or (pt_not (pt_val (pe_callB call_isi (by rfl) T.m_isinstance bt_isinstance (pa_cons (pv 0) (pa_cons (pe_bltn (v := .ty "tuple") (by rfl) T.m_tuple bt_tuple rfl) pa_nil))))) (pw_or (pt_cmpR (op_eqD hr.units) (pv 0) (pe_tup pa_nil) (nomark _)) (pw_or1 (pt_not (pt_val (pe_callB call_isi (by rfl) T.m_isinstance bt_isinstance (pa_cons (pe_ix ix_tup (pv 0) pe_int (fun _ _ => rfl)) (pa_cons (pe_bltn (v := .ty "str") (by rfl) T.m_str bt_str rfl) pa_nil))))))))) (pss_one (ps_ret pe_bl)) pss_nil)
    (pss_cons (ps_if (pt_cmpR op_notIn_seq (pe_ix ix_tup (pv 0) pe_int (fun _ _ => rfl)) (pe_tup (pa_cons pe_str (pa_cons pe_str (pa_cons pe_str pa_nil)))) rfl) (pss_one (ps_ret (pe_call G__law_fits (hr.mono (by omega)) (by rfl) T.g__law_fits T.F__law_fits.kp T.b__law_fits .nil pass0 (pa_cons (pv 0) pa_nil)))) pss_nil)
    (pss_cons (ps_if (PW.pt (pw_or (pt_cmpR op_eq (pv 1) pe_int (nomark _)) (pw_or (pt_cmpR op_ne (pe_callB call_len_seq (by rfl) T.m_len bt_len (pa_cons (pv 0) pa_nil)) pe_int (nomark _)) (pw_or1 (pt_not (pt_val (pe_call G__law_is_number (hr.mono (by omega)) (by rfl) T.g__law_is_number T.F__law_is_number.kp T.b__law_is_number .nil pass0 (pa_cons (pe_ix ix_tup (pv 0) pe_int (fun _ _ => rfl)) (pa_cons (pe_callTy call_int1 (by rfl) T.m_int bt_int (pa_cons (pe_cmpR op_ne (pe_ix ix_tup (pv 0) pe_int (fun _ _ => rfl)) pe_str (nomark _)) pa_nil)) (pa_cons pe_int pa_nil)))))))))) (pss_one (ps_ret pe_bl)) pss_nil)
    (pss_one (ps_ret (pe_call G__law_clauses (hr.mono (by omega)) (by rfl) T.g__law_clauses T.F__law_clauses.kp T.b__law_clauses .nil pass0 (pa_cons (pe_ix ix_tup (pv 0) pe_int (fun _ _ => rfl)) (pa_cons (pe_op op_sub (pv 1) pe_int) pa_nil)))))))), ?_⟩
      have no : ¬ clD left dt → ∀ H', Same H H' → Q (.bl false) H' := fun z H' s => q H' false s ⟨fun e => (by cases e), fun e => absurd e z⟩
      obtain ⟨t, ty, h1, h2, kt, h3⟩ := hv.ty (K := K)
      clear h1 h2 h3
      refine ⟨v, rfl, _, _, _, _, _, rfl, .ty "tuple", ty, kt, _, rfl, ?_⟩
      have nt : ∀ (x : PyData) (ds : List PyData), dt = .tuple (x :: ds) → (∀ z, x ≠ .str z) → ¬ clD left dt := fun x ds e hx y => by
        obtain ⟨m, em, _⟩ := y
        rw [e] at em
        cases m <;> exact hx _ (List.cons.inj (PyData.tuple.inj em)).1
      cases dt with
      | tuple ds =>
        obtain ⟨a, xs, rfl, np, ha, hx⟩ := hv.tupv
        refine iteF ?_
        refine ⟨.ref a, rfl, Nat.zero_le _, fun tt ntt => ?_⟩
        have s0 := same_upd ntt (o := .tup [])
        refine ⟨.tuple ds, .tuple [], (hv.same s0).dp, .tup (SqT.mk upd_same) .nil, bd.shaped (by omega), rfl, _, rfl, ?_⟩
        have ha0 := s0 _ _ ha
        have hx0 := hx.same s0
        generalize upd H tt (.tup []) = H0 at s0 ha0 hx0 ⊢
        cases ds with
        | nil =>
          rw [show PyData.eqv (.tuple []) (.tuple []) = true from rfl]
          refine iteT (no ?_ _ s0)
          rintro ⟨m, em, _⟩
          cases m <;> cases em
        | cons d0 dr =>
        rw [show PyData.eqv (.tuple (d0 :: dr)) (.tuple []) = false from rfl]
        refine iteF ?_
        cases hx0 with
        | cons t0 tr =>
        rename_i x0 xr
        obtain ⟨ty0, tyx, _, _, _, ks, _⟩ := t0.ty (K := K)
        refine ⟨.ref a, rfl, a, _, 0, _, rfl, rfl, SqT.mk ha0, atI_nat (j := 0) rfl, _, _, _, _, _, rfl, .ty "str", tyx, ks, _, rfl, ?_⟩
        cases d0 with
        | str z =>
          obtain rfl := t0.strv
          refine iteF ?_
          refine ⟨.ref a, rfl, a, _, 0, _, rfl, rfl, SqT.mk ha0, atI_nat (j := 0) rfl, (show 3 ≤ sizeLine by decide), fun tw nw => ⟨tw, _, rfl, .inr (SqT.mk upd_same), rfl, rfl, _, rfl, ?_⟩⟩
          rw [if_pos rfl]
          have s1 := s0.trans (same_upd nw (o := .tup [.str "slow", .str "slip", .str "late"]))
          have ha1 := (same_upd nw (o := .tup [.str "slow", .str "slip", .str "late"])) _ _ ha0
          have tr1 := tr.same (same_upd nw (o := .tup [.str "slow", .str "slip", .str "late"]))
          generalize upd H0 tw (.tup [.str "slow", .str "slip", .str "late"]) = H1 at s1 ha1 tr1 ⊢
          have tv1 : Tg p H1 (.ref a) (.tuple (.str z :: dr)) := hv.same s1
          by_cases w3 : z = "slow" ∨ z = "slip" ∨ z = "late"
          rotate_left
          · have iv : inV (.str z) [.str "slow", .str "slip", .str "late"] = false := inV_no (zs := ["slow", "slip", "late"]) fun y hy => by
              simp only [List.mem_cons, List.not_mem_nil, or_false] at hy
              rcases hy with rfl | rfl | rfl
              · exact fun e => w3 (.inl e)
              · exact fun e => w3 (.inr (.inl e))
              · exact fun e => w3 (.inr (.inr e))
            rw [iv]
            refine iteT ⟨.ref a, rfl, p, .ref a, z, dr, rfl, tv1, fun H2 r s2 hr => q H2 r (s1.trans s2) (hr.trans ⟨fun y => pl_cl y, fun y => ?_⟩)⟩
            rcases cl_ar y with ⟨_, y⟩ | ⟨e, y, _⟩
            · exact y
            · exact absurd (arD_word y) w3
          have iv : inV (.str z) [.str "slow", .str "slip", .str "late"] = true := by
            rcases w3 with rfl | rfl | rfl <;> decide +kernel
          rw [iv]
          refine iteF ⟨_, rfl, rfl, _, rfl, ?_⟩
          have back : clD left (.tuple (.str z :: dr)) → ∃ e, arD (.tuple (.str z :: dr)) = some e ∧ 1 ≤ left ∧ clD (left - 1) e := fun y => by
            rcases cl_ar y with ⟨_, y⟩ | y
            · have := pl_word y
              rcases w3 with w | w | w
              · exact absurd w this.1
              · exact absurd w this.2.1
              · exact absurd w this.2.2
            · exact y
          by_cases l0 : left = 0
          · rw [decide_eq_true (show V.int (left : Nat) = V.int 0 by rw [l0]; rfl)]
            refine iteT (no ?_ _ s1)
            intro y
            obtain ⟨e, _, l, _⟩ := back y
            omega
          rw [decide_eq_false (show ¬ V.int (left : Nat) = V.int 0 from fun e => l0 (by have := V.int.inj e; omega))]
          refine iteF ⟨.ref a, rfl, a, _, rfl, .inr (SqT.mk ha1), rfl, _, rfl, ?_⟩
          have ll := tr1.len
          by_cases l3 : dr.length = 2
          rotate_left
          · rw [decide_eq_false (show ¬ V.int (((V.str z :: xr).length : Nat) : Int) = V.int 3 from fun e => l3 (by have e := V.int.inj e; simp only [List.length_cons] at e; omega))]
            refine iteT (no ?_ _ s1)
            intro y
            obtain ⟨e, y, _⟩ := back y
            rw [arD_len (by simp only [List.length_cons]; omega)] at y
            cases y
          obtain ⟨d1, d2, rfl⟩ : ∃ d1 d2, dr = [d1, d2] := by
            match dr, l3 with
            | [d1, d2], _ => exact ⟨d1, d2, rfl⟩
          obtain ⟨x1, x2, rfl, t1, t2⟩ := tr1.two
          refine iteF ?_
          have b2 := bd.itemsT.2.get (d := d2) (by simp)
          have m1 := bd.itemsT.1
          refine ⟨.ref a, rfl, a, _, 1, _, rfl, rfl, SqT.mk ha1, atI_nat (j := 1) rfl, .ref a, rfl, a, _, 0, _, rfl, rfl, SqT.mk ha1, atI_nat (j := 0) rfl, rfl, .inr ⟨_, rfl, ?_⟩⟩
          have fin : ∀ lo : Int, (withinD d1 lo 64 = true → arD (.tuple [.str z, d1, d2]) = some d2) → (withinD d1 lo 64 = false → arD (.tuple [.str z, d1, d2]) = none) → ∀ H2, H2 = H1 → ∃ b, V.bl (withinD d1 lo 64) = .bl b ∧ (b = false → Q (.bl false) H2) ∧ (b = true → ∀ H3 r, Same H1 H3 → (r = true ↔ clD (left - 1) d2) → Q (.bl r) H3) := fun lo f1 f2 H2 e2 => by
            subst e2
            refine ⟨_, rfl, fun e => no ?_ _ s1, fun e H3 r s3 hr => q H3 r (s1.trans s3) (hr.trans ⟨fun y => ?_, fun y => ?_⟩)⟩
            · intro y
              obtain ⟨e', y, _⟩ := back y
              rw [f2 e] at y
              cases y
            · have := ar_cl (f1 e) y
              rw [show left - 1 + 1 = left by omega] at this
              exact this
            · obtain ⟨e', y1, _, y2⟩ := back y
              rw [f1 e] at y1
              cases y1
              exact y2
          have go : ∀ (r : Bool) (_ : ∀ H3 r, Same H1 H3 → (r = true ↔ clD (left - 1) d2) → Q (.bl r) H3), spr__law_clauses d K [x2, .int ((left : Nat) - 1 : Int)] H1 Q E0 := fun _ h => ⟨p, x2, d2, left - 1, kb, nb - 1, wb, congrArg (fun i => [x2, V.int i]) (by omega), t2, b2, by omega, by omega, h⟩
          rcases w3 with rfl | rfl | rfl
          · obtain ⟨b, eb, f1, f2⟩ := fin 1 (fun e => by unfold arD; dsimp only; rw [if_neg (by decide +kernel), if_pos (.inl rfl), e]; rfl) (fun e => by unfold arD; dsimp only; rw [if_neg (by decide +kernel), if_pos (.inl rfl), e]; rfl) H1 rfl
            refine ⟨p, x1, d1, 1, 64, ?_, t1, _, rfl, ?_⟩
            · rw [show decide (V.str "slow" = V.str "late") = false by decide +kernel]
              rfl
            rw [V.bl.inj eb]
            cases b with
            | false => exact iteT (f1 rfl)
            | true => exact iteF ⟨.ref a, rfl, a, _, 2, _, rfl, rfl, SqT.mk ha1, atI_nat (j := 2) rfl, _, rfl, _, _, rfl, rfl, go true (f2 rfl)⟩
          · obtain ⟨b, eb, f1, f2⟩ := fin 1 (fun e => by unfold arD; dsimp only; rw [if_neg (by decide +kernel), if_pos (.inr rfl), e]; rfl) (fun e => by unfold arD; dsimp only; rw [if_neg (by decide +kernel), if_pos (.inr rfl), e]; rfl) H1 rfl
            refine ⟨p, x1, d1, 1, 64, ?_, t1, _, rfl, ?_⟩
            · rw [show decide (V.str "slip" = V.str "late") = false by decide +kernel]
              rfl
            rw [V.bl.inj eb]
            cases b with
            | false => exact iteT (f1 rfl)
            | true => exact iteF ⟨.ref a, rfl, a, _, 2, _, rfl, rfl, SqT.mk ha1, atI_nat (j := 2) rfl, _, rfl, _, _, rfl, rfl, go true (f2 rfl)⟩
          · obtain ⟨b, eb, f1, f2⟩ := fin 0 (fun e => by unfold arD; dsimp only; rw [if_pos rfl, e]; rfl) (fun e => by unfold arD; dsimp only; rw [if_pos rfl, e]; rfl) H1 rfl
            refine ⟨p, x1, d1, 0, 64, ?_, t1, _, rfl, ?_⟩
            · rw [decide_eq_true rfl]
              rfl
            rw [V.bl.inj eb]
            cases b with
            | false => exact iteT (f1 rfl)
            | true => exact iteF ⟨.ref a, rfl, a, _, 2, _, rfl, rfl, SqT.mk ha1, atI_nat (j := 2) rfl, _, rfl, _, _, rfl, rfl, go true (f2 rfl)⟩
        | _ => exact iteT (no (nt _ _ rfl (fun z => by intro e; cases e)) _ s0)
      | _ => exact iteT (no (by rintro ⟨m, em, _⟩; cases m <;> cases em) H (Same.refl H))
def sp__law_clauses (K : PySem.W.Frag) : Sp := spr__law_clauses 6 K
theorem ok__law_clauses (T : Defs K mg) (TT : Tabs T base) : FnOk P w K mg base CX0 9 T.f__law_clauses T.fd__law_clauses ["_law_thing", "_law_left"] (sp__law_clauses K) := okr__law_clauses T TT 6
/-! k03: what a row is, and what is none -/
def isRowD (d : PyData) : Bool := match d with
  | .tuple ds => decide (1 ≤ ds.length ∧ ds.length ≤ 4096) && ds.all fun x => withinD x 0 1
  | _ => false
def sp_is_bit (K : PySem.W.Frag) : Sp := fun vs H Q _ => ∃ (p : Addr → Prop) (x : V) (d : PyData), vs = [x] ∧ Tg p H x d ∧ Q (.bl (withinD d 0 1)) H
theorem ok_is_bit (T : Defs K mg) (TT : Tabs T base) : FnOk P w K mg base CX0 3 T.f_is_bit T.fd_is_bit ["thing"] (sp_is_bit K) := by
  have G_is_within : FnOk P w K mg base CX0 2 T.f_is_within T.fd_is_within ["thing", "least", "greatest"] (sp_is_within K) := ok_is_within T TT
  refine T.F_is_bit.ok sc_is_bit (fun vs H Q E h => ?_) (fun cdv A outer s H vs Q E hr h => ?_)
  · obtain ⟨p, x, d, rfl, hx, q⟩ := h
    rfl
  · obtain ⟨p, x, d, rfl, hx, q⟩ := h
    refine ⟨_, PSs.nox (pss_one (ps_ret (pe_call G_is_within (hr.mono (by decide)) (by rfl) T.g_is_within T.F_is_within.kp T.b_is_within .nil pass0 (pa_cons (pv 0) (pa_cons pe_int (pa_cons pe_int pa_nil)))))), ?_⟩
    exact ⟨x, rfl, p, x, d, 0, 1, rfl, hx, q⟩
theorem all_take {α : Type} (f : α → Bool) (xs : List α) (i : Nat) (x : α) (h : xs[i]? = some x) (a : ∀ j y, j < i → xs[j]? = some y → f y = true) (b : f x = true) : ∀ j y, j < i + 1 → xs[j]? = some y → f y = true := fun j y hj e => by
  by_cases z : j < i
  · exact a j y z e
  · obtain rfl : j = i := by omega
    rw [h] at e
    cases e
    exact b
theorem all_of_get {α : Type} (f : α → Bool) (xs : List α) (h : ∀ j y, j < xs.length → xs[j]? = some y → f y = true) : xs.all f = true := List.all_eq_true.mpr fun x hx => by
  obtain ⟨i, e⟩ := List.getElem?_of_mem hx
  exact h i x (List.getElem?_eq_some_iff.mp e).1 e
theorem not_all {α : Type} (f : α → Bool) (xs : List α) {i : Nat} {x : α} (h : xs[i]? = some x) (b : f x = false) : xs.all f = false := by
  cases e : xs.all f
  · rfl
  · rw [List.all_eq_true.mp e x (List.mem_of_getElem? h)] at b
    cases b
def sp_is_row {K : PySem.W.Frag} {mg : Str → Option Value} (T : Defs K mg) : Sp := fun vs H Q _ => ∃ (p : Addr → Prop) (v : V) (d : PyData), vs = [v] ∧ Tg p H v d ∧ GxR.TabG H T.P_is_row ∧ ∀ H', Sam H H' → Q (.bl (isRowD d)) H'
theorem ok_is_row (T : Defs K mg) (TT : Tabs T base) : FnOk P w K mg base CX0 5 T.f_is_row T.fd_is_row ["thing"] (sp_is_row T) := by
  have G_is_bit : FnOk P w K mg base CX0 3 T.f_is_bit T.fd_is_bit ["thing"] (sp_is_bit K) := ok_is_bit T TT
  refine okC T.F_is_row T.k_is_row sc_is_row (fun vs H Q E h => ?_) (fun A outer s H vs Q E hr h => ?_)
  · obtain ⟨p, v, d, rfl, hv, tab, q⟩ := h
    rfl
  · obtain ⟨p, v, d, rfl, hv, tab, q⟩ := h
    refine ⟨_, PSs.nox (pss_cons (ps_if (PW.pt (pw_or (pt_not (pt_val (pe_callB call_isi (by rfl) T.m_isinstance bt_isinstance (pa_cons (pv 0) (pa_cons (pe_bltn (v := .ty "tuple") (by rfl) T.m_tuple bt_tuple rfl) pa_nil))))) (pw_or1 (pt_not (pt_chain op_le op_le pe_int (pe_callB call_len_seq (by rfl) T.m_len bt_len (pa_cons (pv 0) pa_nil)) (pe_globI (by rfl) T.i_LONGEST)))))) (pss_one (ps_ret pe_bl)) pss_nil)
    (pss_one (ps_ret (pe_allE (k := 3) (own := [("bit", 1)]) (g := gName 1) (tt := tYes) (hr.mono (by decide)) (by rfl) T.m_all bt_all rfl sc_is_row.nd TT.t_is_row rfl (genOk_by (N := N_is_row) (sc := defScope s_is_row) (own := [("bit", 1)]) (by decide +kernel) rfl (by decide +kernel) rfl) (pi_tup (pv 0)) (fun _ _ _ _ _ hr => (pg_name (i := 1) sc_is_row.nd rfl (.inl rfl))) (fun _ _ _ _ _ hr => pts_nil) (fun _ _ _ _ _ hr => (pe_call G_is_bit (hr.mono (by decide)) (by rfl) T.g_is_bit T.F_is_bit.kp T.b_is_bit .nil pass0 (pa_cons (pv 1) pa_nil))))))), ?_⟩
    have hsl : sizeLine = 16777216 := by decide
    obtain ⟨t, ty, -, -, kt, -, -⟩ := hv.ty (K := K)
    refine ⟨v, rfl, _, _, _, _, _, rfl, .ty "tuple", ty, kt, _, rfl, ?_⟩
    cases hv with
    | tup np ha hxs =>
      rename_i a xs ds
      have ln := hxs.len
      refine iteF ⟨.ref a, rfl, a, _, rfl, .inr (SqT.mk ha), _, _, rfl, rfl, _, rfl, ?_⟩
      have no : ¬ (1 ≤ ds.length ∧ ds.length ≤ 4096) → isRowD (.tuple ds) = false := fun z => by
        show (decide (1 ≤ ds.length ∧ ds.length ≤ 4096) && _) = false
        rw [decide_eq_false z]
        rfl
      by_cases c1 : (1 : Int) ≤ (xs.length : Nat)
      · rw [decide_eq_true c1]
        refine iteT ⟨_, _, rfl, rfl, _, rfl, ?_⟩
        by_cases c2 : ((xs.length : Nat) : Int) ≤ 4096
        · rw [decide_eq_true c2]
          refine iteF ?_
          refine ⟨.ref a, rfl, a, rfl, ⟨_, SqT.mk ha⟩, tab, fun H2 tb => ?_⟩
          have s2 := Sam.tabbed tab tb
          refine ga_it (walk_tup (xs := xs)) (fun i H3 => Sam H H3 ∧ ∀ j y, j < i → ds[j]? = some y → withinD y 0 1 = true) ⟨s2, fun j y hj => absurd hj (Nat.not_lt_zero j)⟩ (fun i H3 _ h => SqT.mk (h.1.tup ha)) ?_ ?_
          · rintro i x H3 H4 hi ⟨s3, hb⟩ ⟨rfl, hx⟩
            obtain ⟨e, he, tx⟩ := hxs.get hx
            refine ⟨rfl, yes_ite ?_⟩
            refine ⟨x, rfl, p, x, e, rfl, tx.sam s3, ⟨withinD e 0 1, rfl, fun z => ?_⟩, fun z => ⟨s3, all_take _ ds i e he hb (by injection z)⟩⟩
            have r : isRowD (.tuple ds) = false := by
              show (_ && ds.all fun x => withinD x 0 1) = false
              rw [not_all _ ds he z, Bool.and_false]
            rw [r] at q
            exact q _ s3
          · rintro H3 ⟨s3, hb⟩
            have r : isRowD (.tuple ds) = true := by
              show (decide (1 ≤ ds.length ∧ ds.length ≤ 4096) && ds.all fun x => withinD x 0 1) = true
              rw [decide_eq_true (by omega), all_of_get _ ds fun j y hj e => hb j y (by omega) e]
              rfl
            rw [r] at q
            exact q _ s3
        · rw [decide_eq_false c2]
          rw [no (by omega)] at q
          exact iteT (q _ (Sam.refl _))
      · rw [decide_eq_false c1]
        rw [no (by omega)] at q
        exact iteF ⟨_, rfl, iteT (q _ (Sam.refl _))⟩
    | _ => exact iteT (iteT (q _ (Sam.refl _)))
def sp__law_row (_ : PySem.W.Frag) : Sp := fun vs H Q _ => ∃ (p : Addr) (m n : Nat), vs = [.ref p, .int (m : Nat)] ∧ Bx H p n ∧ 1 ≤ m ∧ m ≤ 4096 ∧ n < 1000000000 ∧
  ∀ H' a (rs : List Int), But p H H' → Bx H' p (n + 5000) → H' a = some (.tup (rs.map V.int)) → rs.length = m → Bits rs → Q (.ref a) H'
def sp__law_long (_ : PySem.W.Frag) : Sp := fun vs H Q _ => ∃ (p : Addr) (n : Nat), vs = [.ref p] ∧ Bx H p n ∧ n < 1000000000 ∧
  ∀ H' (m : Nat), But p H H' → Bx H' p (n + 4) → 1 ≤ m → m ≤ 400 → Q (.int (m : Nat)) H'
section
/-- what stands beside a list that is filled from the generator -/
structure Beside (Y : Cx) (S : Addr) : Prop where
  s0 : Y.s_0.heap.objs.size ≤ S
  lt : Y.env.locals < S
  cell : ∀ x c, Y.env.cells.lookup x = some c → c ≠ S
  fs : S ∉ Y.fs
  pn : Y.pn = []
def LExt (S : Addr) : List V → List (Addr × Obj) → Prop := fun ys ps => ∃ acc c, ps = [(S, lstObj acc c)] ∧ Vals ys acc.toList ∧ ys.length ≤ sizeLine
theorem inv_list {Y : Cx} {S ga : Addr} {go : Obj} {acc : Array Value} {c : Nat} {pf : List (Addr × Obj)} {σ : L2.St} {H : Hp} {s : Shared} {v : Value} (B : Beside Y S) (hga : ga ≠ S) (hpf : ∀ q ∈ pf, q.1 < Y.env.locals) (I : Inv Y (((ga, go) :: [(S, lstObj acc c)]) ++ pf) σ H s) :
    s.heap.get? S = some (lstObj acc c) ∧ ∃ c', Inv Y (((ga, go) :: [(S, lstObj (acc.push v) c')]) ++ pf) σ H { s with heap := s.heap.update S (Obj.mapSeq (·.push v)) } := by
  obtain ⟨eS, nS, nL, nf, _⟩ := I.pin (S, lstObj acc c) (List.mem_append_right _ (List.mem_append_left _ (List.mem_cons_of_mem _ List.mem_cons_self)))
  refine ⟨eS, ?_⟩
  have I0 : Inv Y ((ga, go) :: pf) σ H s := I.pins_of fun q hq => I.pin q (List.mem_append_right _ (by
    rcases List.mem_cons.mp hq with z | z
    · rw [z]; exact List.mem_append_left _ List.mem_cons_self
    · exact List.mem_append_right _ z))
  have kp : ∀ b o, b ≠ S → s.heap.get? b = some o → (s.heap.update S (Obj.mapSeq (·.push v))).get? b = some o := fun b o hb e => (Heap.get?_update_other _ _ (Ne.symm hb)).trans e
  have I1 := I0.turned (t' := s.toks) (it := S) kp nS nL (.inr B.s0) B.cell (fun q hq z => by
    rw [B.pn, List.nil_append] at hq
    rcases List.mem_cons.mp hq with z2 | z2
    · rw [z2] at z; exact hga z
    · exact Nat.lt_irrefl _ (Nat.lt_trans (z ▸ hpf q z2) B.lt))
  have e2 : ∃ c', (s.heap.update S (Obj.mapSeq (·.push v))).get? S = some (lstObj (acc.push v) c') := ⟨_, Heap.get?_update_self _ eS rfl⟩
  obtain ⟨c', e2⟩ := e2
  refine ⟨c', I1.pins_of fun q hq => ?_⟩
  rcases List.mem_append.mp hq with z | z
  · rcases List.mem_cons.mp z with z | z
    · rw [z]
      exact I1.pin (ga, go) (List.mem_append_right _ List.mem_cons_self)
    · have z : q = (S, lstObj (acc.push v) c') := by simpa using z
      rw [z]
      exact ⟨e2, nS, nL, nf, fun v q => by cases q⟩
  · exact I1.pin q (List.mem_append_right _ (List.mem_cons_of_mem _ z))
theorem ext_loopG {X Y : Cx} {ga S : Addr} {gi : Nat} {go : Obj} {p : GPar} {res : Value} {R : Result → Shared → Prop} (hh : X.A.handled = none) (hroom : X.A.depth < recursionLimit) (hpr : Y.prog = X.prog) (hw : Y.w = X.w) (hgo : ∀ h : Heap, h.get? ga = some go → h.IsGen ga gi)
    (B : Beside Y S) (hga : ga ≠ S) (hext : p.ext = LExt S) (hy : ∀ ys y H, p.yld ys y H → ys.length < sizeLine ∧ p.go ys y H)
    (hend : ∀ ys H' acc c σ' s', p.fin ys H' → Vals ys acc.toList → ys.length ≤ sizeLine → s'.heap.get? S = some (lstObj acc c) → (∃ ps, Inv Y ps σ' H' s') → R (.ok (.ret res)) s') :
    ∀ (n : Nat) (s : Shared), GAt X Y ga gi go p n s → codeAny (model X.prog X.w) X.A.in1.in1 (.builtin "list.extend.loop" ⟨[.ref S, .ref ga, res], []⟩) R s := by
  have main : ∀ (n : Nat) (s : Shared) (ih : ∀ m s', n = m + 1 → GAt X Y ga gi go p m s' → codeAny (model X.prog X.w) X.A.in1.in1 (.builtin "list.extend.loop" ⟨[.ref S, .ref ga, res], []⟩) R s'), GAt X Y ga gi go p n s → codeAny (model X.prog X.w) X.A.in1.in1 (.builtin "list.extend.loop" ⟨[.ref S, .ref ga, res], []⟩) R s := by
    intro n s ih h
    refine codeAny_builtin PySem.F.entry_extend_loop ?_
    rw [Around.under_plainId PySem.F.plain_extend_loop _]
    show wpAny _ X.A.in1.in1.in1 (pyNext (.ref ga) >>= _) _ _ s
    refine wpAny_bind (wpAny_mono (gat_next hh hroom hpr hw hgo h) (fun r s' z => ?_) fun _ _ e => e)
    rcases z with ⟨v, rfl, ys, y, H', ps, pf, σ', rv, ex, pl, I, yl, k⟩ | ⟨rfl, ys, H', ps, σ', ex, I, fi⟩
    · have ex2 := ex
      rw [hext] at ex2
      obtain ⟨acc, c, rfl, vs, hl⟩ := ex2
      obtain ⟨lt, gy⟩ := hy _ _ _ yl
      obtain ⟨eS, c', I2⟩ := inv_list (v := v) B hga pl I
      have la : acc.size = ys.length := by
        have := vs.length
        rw [Array.length_toList] at this
        exact this.symm
      obtain ⟨m, hm, g2⟩ := k _ _ (by
        rw [hext]
        exact ⟨acc.push v, c', rfl, by rw [Array.toList_push]; exact vs.append (.cons rv .nil), by rw [List.length_append]; exact lt⟩) I2 rfl gy
      show wpAny _ X.A.in1.in1.in1 (updateSeq S (·.push v) >>= _) _ _ _
      refine wpAny_bind ?_
      exact wpAny_updateSeq eS rfl (wpAny_pure ⟨plainId_quiet PySem.F.plain_extend_loop _, ih m _ hm g2⟩) (by show acc.size ≤ sizeLine; rw [la]; exact hl) (by show (acc.push v).size ≤ sizeLine + 1; rw [Array.size_push, la]; omega)
    · have ex2 := ex
      rw [hext] at ex2
      obtain ⟨acc, c, rfl, vs, hl⟩ := ex2
      exact wpAny_pure (hend ys H' acc c σ' s' fi vs hl (I.pin (S, lstObj acc c) (List.mem_append_right _ (List.mem_cons_of_mem _ List.mem_cons_self))).1 ⟨_, I⟩)
  intro n
  induction n with
  | zero => exact fun s h => main 0 s (fun m s' z => absurd z (by omega)) h
  | succ n ih => exact fun s h => main (n + 1) s (fun m s' z g => ih s' (by have e : m = n := (by omega); rw [← e]; exact g)) h
theorem collect_g {X Y : Cx} {ga : Addr} {gi : Nat} {go : Obj} {pf : List (Addr × Obj)} {σ : L2.St} {H : Hp} {s : Shared} {Q : List Value → Shared → Prop} {E : Value → Shared → Prop} (sl : Y.s_0.heap.objs.size ≤ Y.env.locals) (hpn : Y.pn = []) (hpr : Y.prog = X.prog) (hw : Y.w = X.w)
    (hgo : ∀ h : Heap, h.get? ga = some go → h.IsGen ga gi) (I : Inv Y ([(ga, go)] ++ pf) σ H s)
    (loop : ∀ (S : Addr) (c : Nat) (s' : Shared) (R : Result → Shared → Prop), s.heap.objs.size = S → Beside Y S → ga ≠ S → Inv Y (((ga, go) :: [(S, lstObj #[] c)]) ++ pf) σ H s' → s'.gens = s.gens →
      (∀ acc c s'', s''.heap.get? S = some (lstObj acc c) → Q acc.toList s'' → R (.ok (.ret (.ref S))) s'') → codeAny (model X.prog X.w) X.A.in1.in1 (.builtin "list.extend.loop" ⟨[.ref S, .ref ga, .ref S], []⟩) R s') :
    wpAny (model X.prog X.w) X.A.in1.in1 (collect (.ref ga)) Q E s := by
  have pin0 := I.pin (ga, go) (List.mem_append_right _ (List.mem_append_left _ List.mem_cons_self))
  have hT : ∀ h : Heap, h.get? ga = some go → ({ s with heap := h } : Shared).TypeIs (.ref ga) "generator" := fun h e => (hgo h e).typeIs
  have ltg : ga < s.heap.objs.size := Heap.lt_size pin0.1
  have hSI : s.heap.objs.size ≠ ga := Nat.ne_of_gt ltg
  have kp1 : ∀ b o, s.heap.get? b = some o → (s.heap.push { cls := .type "list", data := .seq ([] : List Value).toArray }).get? b = some o := fun b o e => Heap.get?_push_of_some _ e
  unfold collect
  refine wpAny_bind (wpAny_runValue (codeAny_builtin PySem.F.entry_proto_collect ?_))
  rw [Around.under_plainId PySem.F.plain_proto_collect _]
  show wpAny _ X.A.in1.in1.in1 (newList [] >>= fun l => again (.builtin "list.__iadd__" ⟨[l, .ref ga], []⟩)) _ _ s
  refine wpAny_bind (wpAny_newObj_type ?_)
  refine wpAny_pure ⟨plainId_quiet PySem.F.plain_list_iadd _, codeAny_builtin PySem.F.entry_list_iadd ?_⟩
  rw [Around.under_plainId PySem.F.plain_list_iadd _]
  have hT1 := hT _ (kp1 _ _ pin0.1)
  have hg1 := hgo _ (kp1 _ _ pin0.1)
  show wpAny _ X.A.in1.in1.in1 (Builtin.List.listExtendWith (.ref s.heap.objs.size) (.ref ga) (.ref s.heap.objs.size)) _ _ _
  unfold Builtin.List.listExtendWith
  refine wpAny_bind (wpAny_typeOf hT1 ?_)
  have h1 : Builtin.List.listSameRef (.ref s.heap.objs.size) (.ref ga) = false := by simp [Builtin.List.listSameRef, hSI]
  have h2 : (Value.type "generator" == Value.type "list") = false := by decide
  have h3 : (Value.type "generator" == Value.type "tuple") = false := by decide
  simp only [h1, h2, h3, Bool.or_false, Bool.false_eq_true, if_false]
  refine wpAny_bind (wpAny_pyIter_gen hg1 ?_)
  refine wpAny_bind (wpAny_holding ?_)
  unfold Builtin.List.listLengthHint
  refine wpAny_bind (wpAny_specialOf hT1 PySem.F.gen_no_len ?_)
  show wpAny _ X.A.in1.in1.in1 (specialOf (Value.ref ga) (Str.ofString "__length_hint__") >>= _) _ _ _
  refine wpAny_bind (wpAny_specialOf hT1 PySem.F.gen_no_hint ?_)
  refine wpAny_pure ?_
  show wpAny _ X.A.in1.in1.in1 (rule "list.extend.makes-room" >>= fun _ => Builtin.List.listTouch (.ref s.heap.objs.size) >>= fun _ =>
    again (.builtin "list.extend.loop" ⟨[.ref s.heap.objs.size, .ref ga, .ref s.heap.objs.size], []⟩)) _ _ _
  refine wpAny_bind (wpAny_rule ?_)
  have hS₁ : (s.heap.push { cls := .type "list", data := .seq ([] : List Value).toArray }).get? s.heap.objs.size = some { cls := .type "list", data := .seq ([] : List Value).toArray } := Heap.get?_push_size _ rfl
  refine wpAny_bind ?_
  show wpAny _ X.A.in1.in1.in1 (updateSeq s.heap.objs.size (·.push .none) >>= fun _ => updateSeq s.heap.objs.size (·.pop)) _ _ _
  refine wpAny_bind (wpAny_updateSeq hS₁ rfl ?_)
  have hS₂ := Heap.get?_update_self (Obj.mapSeq (·.push Value.none)) hS₁ rfl
  refine wpAny_updateSeq hS₂ rfl ?_
  have hS₃ := Heap.get?_update_self (Obj.mapSeq (·.pop)) hS₂ rfl
  have oth : ∀ b o, s.heap.get? b = some o →
      (((s.heap.push { cls := .type "list", data := .seq ([] : List Value).toArray }).update s.heap.objs.size (Obj.mapSeq (·.push Value.none))).update s.heap.objs.size (Obj.mapSeq (·.pop))).get? b = some o :=
    fun b o e => (Heap.get?_update_other _ _ (Nat.ne_of_gt (Heap.lt_size e))).trans ((Heap.get?_update_other _ _ (Nat.ne_of_gt (Heap.lt_size e))).trans (kp1 b o e))
  have fs := I.nofs (Nat.le_refl s.heap.objs.size)
  have I2 := I.kept (t' := s.toks) oth
  have B : Beside Y s.heap.objs.size := ⟨Nat.le_trans sl (Nat.le_of_lt I.lt), I.lt, fun x c e z => by
    obtain ⟨v, q⟩ := I.cell x c e
    exact Nat.ne_of_lt q.lt z, fs, hpn⟩
  have hc : ∃ c, (((s.heap.push { cls := .type "list", data := .seq ([] : List Value).toArray }).update s.heap.objs.size (Obj.mapSeq (·.push Value.none))).update s.heap.objs.size (Obj.mapSeq (·.pop))).get? s.heap.objs.size = some (lstObj #[] c) := ⟨_, hS₃⟩
  obtain ⟨c, hc⟩ := hc
  refine wpAny_pure ⟨plainId_quiet PySem.F.plain_extend_loop _, loop _ c _ _ rfl B (Ne.symm hSI) (I2.pins_of fun q hq => ?_) rfl fun acc c' s'' e q => ?_⟩
  · rcases List.mem_append.mp hq with z | z
    · rcases List.mem_cons.mp z with z | z
      · rw [z]
        exact I2.pin (ga, go) (List.mem_append_right _ (List.mem_append_left _ List.mem_cons_self))
      · have z : q = (s.heap.objs.size, lstObj #[] c) := by simpa using z
        rw [z]
        exact ⟨hc, I.hok.fresh (Nat.le_refl _), Nat.ne_of_gt I.lt, fs, fun v q => by cases q⟩
    · exact I2.pin q (List.mem_append_right _ (List.mem_append_right _ z))
  · show wpAny _ X.A.in1.in1 (load s.heap.objs.size >>= _) _ _ s''
    refine wpAny_bind (wpAny_load e ?_)
    exact wpAny_pure q
end
section
open AutoSeq1 (wpAny_loadPart')
theorem code_tuple_new_any {prog : Program} {w : World} {A : Around} {E : Value → Shared → Prop} {s : Shared} {I : Addr} {Q₁ : Value → Shared → Prop} {Z : Shared → Array Value → Prop} (hTI : s.TypeIs (.ref I) "generator")
    (hcol : ∀ {Q' : List Value → Shared → Prop} {E' : Value → Shared → Prop}, (∀ s' acc, Z s' acc → Q' acc.toList s') → wpAny (model prog w) A.in1 (collect (.ref I)) Q' E' s)
    (h : ∀ s' acc, Z s' acc → acc.size ≤ sizeLine ∧ Q₁ (.ref s'.heap.objs.size) { s' with heap := s'.heap.push { cls := .type "tuple", data := .seq acc } }) :
    codeAny (model prog w) A (.call (.builtin "tuple.__new__") ⟨[.type "tuple", .ref I], []⟩) (wants Q₁ E) s := by
  refine codeAny_of_tree ?_
  show wpAny _ A.in1 (do checkBuiltinCall "tuple.__new__" ⟨[.type "tuple", .ref I], []⟩; again (.builtin "tuple.__new__" ⟨[.type "tuple", .ref I], []⟩)) _ _ s
  refine wpAny_bind (wpAny_of_eq (PySem.F.newCall_tuple_1 _) (wpAny_pure ⟨plainId_quiet PySem.F.plain_tuple_new _, codeAny_builtin PySem.F.entry_tuple_new ?_⟩))
  rw [Around.under_plainId PySem.F.plain_tuple_new _]
  have hsub := sub_tuple_self
  have hinit := init_tuple_lookup
  have hmh := madeHere_tuple
  wp_walk using wpAny_typeOf hTI, hcol
  intro s' acc z
  obtain ⟨hsz, q⟩ := h s' acc z
  show wpAny _ _ (Builtin.Tuple.tupleExact acc.toList.toArray >>= fun v => ret v) _ _ _
  unfold Builtin.Tuple.tupleExact
  refine wpAny_bind (wpAny_newObj_type ?_ (by show acc.toList.toArray.size ≤ sizeLine; simp only [Array.toArray_toList]; exact hsz))
  refine wpAny_pure ?_
  have e : acc.toList.toArray = acc := by simp
  rw [e]
  exact q
theorem call_tuple_any {prog : Program} {w : World} {A : Around} {E : Value → Shared → Prop} {s : Shared} {I : Addr} {Q : Value → Shared → Prop} {Z : Shared → Array Value → Prop} (hTI : s.TypeIs (.ref I) "generator")
    (hcol : ∀ {Q' : List Value → Shared → Prop} {E' : Value → Shared → Prop}, (∀ s' acc, Z s' acc → Q' acc.toList s') → wpAny (model prog w) A.in1.in1 (collect (.ref I)) Q' E' s)
    (hQ : ∀ s' acc, Z s' acc → acc.size ≤ sizeLine ∧ Q (.ref s'.heap.objs.size) { s' with heap := s'.heap.push { cls := .type "tuple", data := .seq acc } }) :
    wpAny (model prog w) A (call (.type "tuple") [.ref I]) Q E s := by
  refine callType_codes (Q₁ := fun obj s₁ => s₁.TypeIs obj "tuple" ∧ Q obj s₁) PySem.F.called_tuple (PySem.F.typeCall_tuple_1 _) PySem.F.entry_object_init
    (code_tuple_new_any hTI hcol fun s' acc z => ⟨(hQ s' acc z).1, ⟨_, Heap.get?_push_size _ rfl, rfl⟩, (hQ s' acc z).2⟩) fun obj s₁ h₁ => ?_
  exact ⟨h₁.1, PySem.F.args_object_init_2 obj _, object_init_meets PySem.F.called_tuple.init.lookup PySem.F.called_tuple.made (by decide) prog w A.in1 _ s₁ ⟨h₁.1, rfl, h₁.2⟩⟩
variable {X : Cx}
/-- the list of what comes of a generator: as a collecting call asks -/
def tColE (P : Addr) (wi : TI) (g : TG) (tt : TT) (te : TE) (vs : List Nat) (F : VK → List V → Hp → Prop) : TE := fun σ H Q => wi σ H fun J H1 => GxR.TabG H1 P ∧ ∀ H2, GxR.Tabbed P H1 H2 → ∃ W : List V → Nat → Nat → Hp → Prop, (∃ m, W [] 0 m H2) ∧ ∀ ys i m H, W ys i m H →
  (J.stop i H ∧ F Q ys H) ∨ (J.go i H ∧ ∃ Nx : List V → Hp → Prop, (∀ ys' H', Nx ys' H' → ∃ m', m' < m ∧ W ys' (i + 1) m' H') ∧ ∀ x H', J.yld i H x H' → g x (wipe σ vs) H' fun σ2 H3 => wipe σ2 vs = wipe σ vs ∧ tt σ2 H3 fun b H4 =>
    if b = true then te σ2 H4 fun y H5 => ys.length < sizeLine ∧ (True → Nx (ys ++ [y]) H5) else Nx ys H4)
def FTup : VK → List V → Hp → Prop := fun Q ys H => ∀ p, H p = none → Q (.ref p) (upd H p (.tup ys))
theorem col_gen {pins : List (Addr × Obj)} {σ : L2.St} {c P : Addr} {elt tg iter : Expr} {ifs : List Expr} {scope : Scope} {own : List (Str × Nat)} {gpos : Pos} {wi : TI} {g : TG} {tt : TT} {te : TE} {k : Nat} {F : VK → List V → Hp → Prop} {Q : VK} {H : Hp} {s : Shared} {Q' : Value → Shared → Prop}
    (hr : Room (k + 1) X.A) (hc : X.calm = true) (hN : X.N.Nodup) (TB : GxR.TabB X.base X.mg c P) (hcode : X.env.code = .ref c) (ok : GenOk X.N X.env.scope scope own) (hi : PI X tg iter wi)
    (hg : ∀ (s : Shared) (H : Hp) (C : Addr) (code : Value) (fp : List Addr), Room k (Cx.gblk X s H scope C code fp).A → PG (Cx.gblk X s H scope C code fp) tg g)
    (ht : ∀ (s : Shared) (H : Hp) (C : Addr) (code : Value) (fp : List Addr), Room k (Cx.gblk X s H scope C code fp).A → PTs (Cx.gblk X s H scope C code fp) ifs tt)
    (he : ∀ (s : Shared) (H : Hp) (C : Addr) (code : Value) (fp : List Addr), Room k (Cx.gblk X s H scope C code fp).A → PE (Cx.gblk X s H scope C code fp) elt te)
    (hs : ∀ x, genFold iter X.env x = pure x) (I : Inv X pins σ H s) (h : tColE P wi g tt te (own.map (·.2)) F σ H Q)
    (fin : ∀ (ga : Addr) (s5 : Shared), s5.TypeIs (.ref ga) "generator" → (∀ (Q1 : Value → Shared → Prop) (E : Value → Shared → Prop) (A : Around), Q1 (.ref ga) s5 → wpAny (model X.prog X.w) A (pyIter (.ref ga)) Q1 E s5) →
      (∀ {Q1 : List Value → Shared → Prop} {E1 : Value → Shared → Prop}, (∀ s' (acc : Array Value), (∃ ys H', Vals ys acc.toList ∧ ys.length ≤ sizeLine ∧ Inv X pins σ H' s' ∧ F Q ys H') → Q1 acc.toList s') → wpAny (model X.prog X.w) X.A.in1.in1 (collect (.ref ga)) Q1 E1 s5) → Q' (.ref ga) s5) :
    wpAny (model X.prog X.w) X.A (eval (.GeneratorExp elt [⟨tg, iter, ifs, 0⟩] scope gpos) X.env) Q' X.xe s := by
  refine gen_mk hr hc hN TB hcode ok hi hg ht he hs I h fun J H1 H4 Y s5 pf ga gi go r tb hpr hw hgo sz sl hpn I5 back goes => ?_
  obtain ⟨W, ⟨m, w0⟩, step⟩ := r H4 tb
  have hgen : s5.heap.IsGen ga gi := hgo _ (I5.pin (ga, go) (List.mem_append_right _ (List.mem_append_left _ List.mem_cons_self))).1
  refine fin ga s5 hgen.typeIs (fun Q1 E A q => wpAny_pyIter_gen hgen q) fun {Q1 E1} hQ1 => ?_
  refine collect_g (X := X) (Y := Y) sl hpn hpr hw hgo I5 fun S c s' R hS B hgaS Is eg hR => ?_
  have g0 := goes ⟨LExt S, fun ys _ _ => ys.length < sizeLine, fun _ _ _ => True, fun ys H' => F Q ys H'⟩ W m (fun ys ps e q hq => by
      obtain ⟨acc, c, e, _⟩ := e
      rw [e] at hq
      have hq : q = (S, lstObj acc c) := by simpa using hq
      rw [hq, hS]
      exact Nat.le_refl _) (fun ys i m H w => (step ys i m H w).imp id fun ⟨a, Nx, hNx, b⟩ => ⟨a, Nx, hNx, fun x H' y => b x H' y⟩) w0 s' [(S, lstObj #[] c)] ⟨#[], c, rfl, .nil, Nat.zero_le _⟩ Is eg
  exact ext_loopG (X := X) hr.hd (by have := hr.dp; omega) hpr hw hgo B hgaS rfl (fun ys y H z => ⟨z, trivial⟩) (fun ys H' acc c σ' s'' fi vs hl e ⟨ps, I'⟩ => hR acc c s'' e (hQ1 s'' acc ⟨ys, H', vs, hl, back I', fi⟩)) (m + 1) s' g0
end
section
variable {X : Cx}
theorem pe_tupE {c P : Addr} {elt tg iter : Expr} {ifs : List Expr} {scope : Scope} {own : List (Str × Nat)} {p pos gpos : Pos} {wi : TI} {g : TG} {tt : TT} {te : TE} {k : Nat}
    (hr : Room (k + 1) X.A) (hgl : Gl X "tuple") (hm : X.mg "tuple" = none) (hb : bootBuiltins "tuple" = some (.type "tuple")) (hc : X.calm = true) (hN : X.N.Nodup) (TB : GxR.TabB X.base X.mg c P) (hcode : X.env.code = .ref c) (ok : GenOk X.N X.env.scope scope own) (hi : PI X tg iter wi)
    (hg : ∀ (s : Shared) (H : Hp) (C : Addr) (code : Value) (fp : List Addr), Room k (Cx.gblk X s H scope C code fp).A → PG (Cx.gblk X s H scope C code fp) tg g)
    (ht : ∀ (s : Shared) (H : Hp) (C : Addr) (code : Value) (fp : List Addr), Room k (Cx.gblk X s H scope C code fp).A → PTs (Cx.gblk X s H scope C code fp) ifs tt)
    (he : ∀ (s : Shared) (H : Hp) (C : Addr) (code : Value) (fp : List Addr), Room k (Cx.gblk X s H scope C code fp).A → PE (Cx.gblk X s H scope C code fp) elt te)
    (hs : ∀ x, genFold iter X.env x = pure x := by intro _; rfl)
    (hst : starEach [.GeneratorExp elt [⟨tg, iter, ifs, 0⟩] scope gpos] X.env = (false, eval (.GeneratorExp elt [⟨tg, iter, ifs, 0⟩] scope gpos) X.env) :: starEach [] X.env := by rfl) :
    PE X (.Call (.Name "tuple" p) [.GeneratorExp elt [⟨tg, iter, ifs, 0⟩] scope gpos] [] pos) (tColE P wi g tt te (own.map (·.2)) FTup) := by
  constructor
  intro pins s σ H Q I h
  refine wpAny_Call_Name_kw (ld_blt I hgl hm hb ?_)
  refine PyProof.Rows.callWith_type1 ?_ hst (by rfl)
  rw [hst]
  show wpAny _ _ (spliced ((false, eval (.GeneratorExp elt [⟨tg, iter, ifs, 0⟩] scope gpos) X.env) :: backTo pos (starEach [] X.env))) _ _ s
  refine Calls.spliced_cons (col_gen hr hc hN TB hcode ok hi hg ht he hs I h fun ga s5 hT self col => ?_)
  refine Calls.spliced_nil ?_
  refine call_tuple_any hT col fun s' acc ⟨ys, H', vs, hl, I', f⟩ => ⟨by rw [← Array.length_toList, ← vs.length]; exact hl, ?_⟩
  have ea : acc.toList.toArray = acc := by simp
  refine ⟨.ref s'.heap.objs.size, _, I'.laid (t' := s'.toks) (o := .tup ys) (fun b ob e => Heap.get?_push_of_some _ e) (Nat.le_refl _) ⟨hl, acc.toList, vs, ?_⟩, rfl, f _ (I'.hok.fresh (Nat.le_refl _))⟩
  rw [ea]
  exact IsTup.new _ _
/-- .. over what is walked as a Walk says; ys: what came so far -/
theorem gc_it {J : It} {n : Nat} {G : Hp → Prop} {Y : Nat → Hp → V → Hp → Prop} (w : Walk J n G Y) {g : TG} {tt : TT} {te : TE} {vs : List Nat} {σ : L2.St} {H2 : Hp} {Qf : List V → Hp → Prop} (Pv : Nat → List V → Hp → Prop) (h0 : Pv 0 [] H2) (hG : ∀ i ys H, i ≤ n → Pv i ys H → G H)
    (hs : ∀ i ys x H H', i < n → Pv i ys H → Y i H x H' → g x (wipe σ vs) H' fun σ2 H3 => wipe σ2 vs = wipe σ vs ∧ tt σ2 H3 fun b H4 => if b = true then te σ2 H4 fun y H5 => ys.length < sizeLine ∧ (True → Pv (i + 1) (ys ++ [y]) H5) else Pv (i + 1) ys H4) (hd : ∀ ys H, Pv n ys H → Qf ys H) :
    ∃ W : List V → Nat → Nat → Hp → Prop, (∃ m, W [] 0 m H2) ∧ ∀ ys i m H, W ys i m H →
      (J.stop i H ∧ Qf ys H) ∨ (J.go i H ∧ ∃ Nx : List V → Hp → Prop, (∀ ys' H', Nx ys' H' → ∃ m', m' < m ∧ W ys' (i + 1) m' H') ∧ ∀ x H', J.yld i H x H' → g x (wipe σ vs) H' fun σ2 H3 => wipe σ2 vs = wipe σ vs ∧ tt σ2 H3 fun b H4 =>
        if b = true then te σ2 H4 fun y H5 => ys.length < sizeLine ∧ (True → Nx (ys ++ [y]) H5) else Nx ys H4) := by
  refine ⟨fun ys i m H => m = n - i ∧ i ≤ n ∧ Pv i ys H, ⟨n, by simp, Nat.zero_le _, h0⟩, ?_⟩
  rintro ys i m H ⟨rfl, hi, p⟩
  have q := hG i ys H hi p
  by_cases hlt : i < n
  · refine .inr ⟨w.goes i H hlt q, fun ys H => Pv (i + 1) ys H, fun ys' H' p' => ⟨n - (i + 1), by omega, rfl, hlt, p'⟩, fun x H' y => hs i ys x H H' hlt p (w.yields i H x H' hlt q y)⟩
  · have e : i = n := by omega
    subst e
    exact .inl ⟨w.stops H q, hd ys H p⟩
end
/-! sep.join(elt for ..): any generator of texts -/
section
open PySem PySem.SC
theorem strs_back : ∀ {ws : List Str} {us : List Value}, Vals (ws.map V.str) us → ∃ l : List (Str × Tok), strValues l = us ∧ l.map (·.1) = ws
  | [], _, r => by
    cases r
    exact ⟨[], rfl, rfl⟩
  | w :: ws, _, r => by
    cases r with
    | cons a b =>
      obtain ⟨t, rfl⟩ := a
      obtain ⟨l, rfl, e⟩ := strs_back b
      exact ⟨(w, t) :: l, rfl, by rw [List.map_cons, e]⟩
theorem join_any {prog : Program} {w : World} {A : Around} {E : Value → Shared → Prop} {s : Shared} {x : Str} {t : Tok} {I : Addr} {Q : Value → Shared → Prop} {Z : Shared → Array Value → Prop} (hTI : s.TypeIs (.ref I) "generator")
    (self : ∀ (Q1 : Value → Shared → Prop) (E : Value → Shared → Prop) (A : Around), Q1 (.ref I) s → wpAny (model prog w) A (pyIter (.ref I)) Q1 E s)
    (col : ∀ {Q1 : List Value → Shared → Prop} {E1 : Value → Shared → Prop}, (∀ s' (acc : Array Value), Z s' acc → Q1 acc.toList s') → wpAny (model prog w) A.in1 (collect (.ref I)) Q1 E1 s)
    (hQ : ∀ s' (acc : Array Value), Z s' acc → ∃ l : List (Str × Tok), strValues l = acc.toList ∧ JoinOk x (l.map (·.1)) = true ∧ ∀ t' k, Q (.str (Txt.join x (l.map (·.1))) t') { s' with toks := k }) :
    wpAny (model prog w) A (call (.builtin "str.join") [.str x t, .ref I]) Q E s := by
  refine wpAny_call (codeAny_call_builtin PySem.F.slot_str_join.plain PySem.F.entry_str_join (PySem.F.slot_str_join.check _ _ _ _ _ _ _ _ (typeIs_str _ _ _) (PySem.F.args_str_join_2 _ _) ?_))
  rw [join_tree_other]
  refine wpAny_bind (wpAny_typeOf hTI ?_)
  show wpAny _ A.in1 ((pyIter (.ref I)).tryCatch _ >>= fun it => collect it >>= fun items => joinTail x items) _ _ s
  refine wpAny_bind (wpAny_tryCatch (self _ _ _ ?_))
  refine wpAny_bind (col fun s' acc hz => ?_)
  obtain ⟨l, hl, hok, hpost⟩ := hQ s' acc hz
  rw [← hl]
  unfold JoinOk at hok
  rw [Bool.not_eq_true'] at hok
  have g : Gives (joinTail x (strValues l)) (joinMade x l) := by
    have g0 := gives_joinTail x l hok
    cases l with
    | nil => exact g0
    | cons p r => cases r with
      | nil => exact g0
      | cons q r' => exact g0
  exact g prog w A (wants Q E) s' (post_join l ⟨joinFit_length hok, hpost⟩)
end
section
variable {X : Cx}
def FJoin (sep : Str) : VK → List V → Hp → Prop := fun Q ys H => ∃ ws : List Str, ys = ws.map V.str ∧ JoinOk sep ws = true ∧ Q (.str (Txt.join sep ws)) H
def tJoinE (P : Addr) (to : TE) (wi : TI) (g : TG) (tt : TT) (te : TE) (vs : List Nat) : TE := fun σ H Q => to σ H fun v H1 => ∃ sep : Str, v = .str sep ∧ tColE P wi g tt te vs (FJoin sep) σ H1 Q
theorem pe_joinE {c P : Addr} {o elt tg iter : Expr} {ifs : List Expr} {scope : Scope} {own : List (Str × Nat)} {apos cpos gpos : Pos} {to : TE} {wi : TI} {g : TG} {tt : TT} {te : TE} {k : Nat}
    (hr : Room (k + 1) X.A) (hc : X.calm = true) (hN : X.N.Nodup) (TB : GxR.TabB X.base X.mg c P) (hcode : X.env.code = .ref c) (ok : GenOk X.N X.env.scope scope own) (ho : PE X o to) (hi : PI X tg iter wi)
    (hg : ∀ (s : Shared) (H : Hp) (C : Addr) (code : Value) (fp : List Addr), Room k (Cx.gblk X s H scope C code fp).A → PG (Cx.gblk X s H scope C code fp) tg g)
    (ht : ∀ (s : Shared) (H : Hp) (C : Addr) (code : Value) (fp : List Addr), Room k (Cx.gblk X s H scope C code fp).A → PTs (Cx.gblk X s H scope C code fp) ifs tt)
    (he : ∀ (s : Shared) (H : Hp) (C : Addr) (code : Value) (fp : List Addr), Room k (Cx.gblk X s H scope C code fp).A → PE (Cx.gblk X s H scope C code fp) elt te)
    (hs : ∀ x, genFold iter X.env x = pure x := by intro _; rfl)
    (hbase : attributeBase o "join" X.env (eval o X.env) = eval o X.env := by rfl)
    (hfew : ((backTo cpos (starEach [.GeneratorExp elt [⟨tg, iter, ifs, 0⟩] scope gpos] X.env)).all (fun x => !x.1) && (backToKw cpos (keywordEach [] X.env)).all (fun x => x.1.isSome)
      && decide (([.GeneratorExp elt [⟨tg, iter, ifs, 0⟩] scope gpos] : List Expr).length + ([] : List Keyword).length + (if ([] : List Keyword).isEmpty then 0 else 1) < 30)) = true := by rfl)
    (hline : (apos.endLine == cpos.line) = true := by rfl)
    (hst : starEach [.GeneratorExp elt [⟨tg, iter, ifs, 0⟩] scope gpos] X.env = (false, eval (.GeneratorExp elt [⟨tg, iter, ifs, 0⟩] scope gpos) X.env) :: starEach [] X.env := by rfl)
    (hplain : (backTo cpos (starEach [] X.env)).any (·.1) = false := by rfl) :
    PE X (.Call (.Attribute o "join" apos) [.GeneratorExp elt [⟨tg, iter, ifs, 0⟩] scope gpos] [] cpos) (tJoinE P to wi g tt te (own.map (·.2))) := by
  refine ⟨fun pins s σ H Q I h => ?_⟩
  refine wpAny_Call_method_late hbase hfew hline rfl (thn (ho.run pins s σ H _ I h) fun v s1 ⟨x', H1, I1, r1, sep, ex, q1⟩ => ?_)
  subst ex
  obtain ⟨tk, rfl⟩ := (show ∃ t, v = Value.str sep t from r1)
  refine ⟨"str", _, PySem.F.plainAttrs_str, PySem.F.slot_str_join, PySem.F.type_str_join, typeIs_str _ _ _, (fun _ e => nomatch e), ?_⟩
  rw [hst]
  refine Calls.callWith_builtin (by show (false || (backTo cpos (starEach [] X.env)).any (·.1)) = false; rw [hplain] <;> rfl) (Calls.evalArgs_plain ?_)
  show wpAny _ _ (spliced ((false, eval (.GeneratorExp elt [⟨tg, iter, ifs, 0⟩] scope gpos) X.env) :: backTo cpos (starEach [] X.env))) _ _ s1
  refine Calls.spliced_cons (col_gen hr hc hN TB hcode ok hi hg ht he hs I1 q1 fun ga s5 hT self col => ?_)
  refine Calls.spliced_nil ?_
  refine join_any (Z := fun s' (acc : Array Value) => ∃ ys H', Vals ys acc.toList ∧ ys.length ≤ sizeLine ∧ Inv X pins σ H' s' ∧ FJoin sep Q ys H') hT self (fun h => wpAny_of_in1 (A := X.A.in1) (col h)) fun s' acc ⟨ys, H', vs, hl, I', ws, ey, jok, q⟩ => ?_
  subst ey
  obtain ⟨l, e1, e2⟩ := strs_back vs
  refine ⟨l, e1, by rw [e2]; exact jok, fun t' k => ?_⟩
  rw [e2]
  exact ⟨.str _, H', I'.tok k, ⟨t', rfl⟩, q⟩
end
/-! nested texts: what is written, and what is read of it -/
inductive Nt where
  | num (n : Nat)
  | node (w : Str) (ts : List Nt)
mutual
def Nt.data : Nt → PyData
  | .num n => .int (n : Nat)
  | .node w ts => if w = "table" then .tuple [.str "table", .tuple (Nt.datas ts)] else .tuple (.str w :: Nt.datas ts)
def Nt.datas : List Nt → List PyData
  | [] => []
  | t :: ts => t.data :: Nt.datas ts
end
def digs (n : Nat) : Str := Str.ofString (toString ((n : Nat) : Int))
mutual
/-- as a part of another -/
def Nt.ptx : Nt → Str
  | .num n => digs n
  | .node w ts => "(" ++ Txt.join " " (w :: Nt.ptxs ts) ++ ")"
def Nt.ptxs : List Nt → List Str
  | [] => []
  | t :: ts => t.ptx :: Nt.ptxs ts
end
/-- by itself -/
def ntx (w : Str) (ts : List Nt) : Str := Txt.join " " (w :: Nt.ptxs ts)
mutual
/-- its words -/
def Nt.ptk : Nt → List Str
  | .num n => [digs n]
  | .node w ts => ("(" : Str) :: w :: (Nt.ptks ts ++ [(")" : Str)])
def Nt.ptks : List Nt → List Str
  | [] => []
  | t :: ts => t.ptk ++ Nt.ptks ts
end
/-- a word as such: letters -/
def WdOk (w : Str) : Prop := w ≠ "" ∧ (∀ c, c ∈ TL.tl w → 97 ≤ c ∧ c ≤ 122)
mutual
def Nt.Ok : Nt → Prop
  | .num n => n < 1000
  | .node w ts => WdOk w ∧ Nt.Oks ts
def Nt.Oks : List Nt → Prop
  | [] => True
  | t :: ts => t.Ok ∧ Nt.Oks ts
end
mutual
def Nt.dep : Nt → Nat
  | .num _ => 0
  | .node _ ts => Nt.deps ts + 1
def Nt.deps : List Nt → Nat
  | [] => 0
  | t :: ts => max t.dep (Nt.deps ts)
end
/-! what replace and split make of it -/
theorem repl1 {c : Nat} {z : List Nat} : ∀ l : List Nat, StrLaws.replL [c] z l = l.flatMap fun x => if x = c then z else [x]
  | [] => by rw [StrLaws.replL_nil]; rfl
  | x :: l => by
    by_cases e : x = c
    · subst e
      rw [StrLaws.replL_hit (by simp) (by simp)]
      show z ++ StrLaws.replL [x] z l = _
      rw [repl1 l, List.flatMap_cons, if_pos rfl]
    · rw [StrLaws.replL_miss (by simpa using e), repl1 l, List.flatMap_cons, if_neg e]
      rfl
def spc (x : Nat) : List Nat := if x = 40 then [40, 32] else if x = 41 then [32, 41] else [x]
def spcs (l : List Nat) : List Nat := l.flatMap spc
theorem repl2 (l : List Nat) : StrLaws.replL [41] [32, 41] (StrLaws.replL [40] [40, 32] l) = spcs l := by
  rw [repl1, repl1]
  unfold spcs
  induction l with
  | nil => rfl
  | cons x l ih =>
    rw [List.flatMap_cons, List.flatMap_cons, List.flatMap_append, ih]
    congr 1
    unfold spc
    by_cases e : x = 40
    · rw [if_pos e, if_pos e]
      rfl
    · rw [if_neg e, if_neg e]
      show (if x = 41 then [32, 41] else [x]) ++ [] = _
      rw [List.append_nil]
theorem spcs_app (a b : List Nat) : spcs (a ++ b) = spcs a ++ spcs b := List.flatMap_append
theorem spcs_none : ∀ {l : List Nat}, (∀ c, c ∈ l → c ≠ 40 ∧ c ≠ 41) → spcs l = l
  | [], _ => rfl
  | x :: l, h => by
    have hx := h x List.mem_cons_self
    show spc x ++ spcs l = _
    rw [spcs_none fun c hc => h c (List.mem_cons_of_mem _ hc)]
    unfold spc
    rw [if_neg hx.1, if_neg hx.2]
    rfl
theorem join_app {S : List Nat} : ∀ {a b : List (List Nat)}, a ≠ [] → b ≠ [] → TL.joinL S (a ++ b) = TL.joinL S a ++ (S ++ TL.joinL S b)
  | [], _, h, _ => absurd rfl h
  | [p], [], _, h => absurd rfl h
  | [p], q :: r, _, _ => rfl
  | p :: q :: r, b, _, h => by
    show p ++ (S ++ TL.joinL S ((q :: r) ++ b)) = (p ++ (S ++ TL.joinL S (q :: r))) ++ _
    rw [join_app (by simp) h, List.append_assoc, List.append_assoc]
theorem spcs_join : ∀ xs : List (List Nat), spcs (TL.joinL [32] xs) = TL.joinL [32] (xs.map spcs)
  | [] => rfl
  | [p] => rfl
  | p :: q :: r => by
    show spcs (p ++ ([32] ++ TL.joinL [32] (q :: r))) = spcs p ++ ([32] ++ TL.joinL [32] ((q :: r).map spcs))
    rw [spcs_app, spcs_app, spcs_join (q :: r)]
    rfl
theorem join_flat : ∀ {gs : List (List (List Nat))}, (∀ g, g ∈ gs → g ≠ []) → TL.joinL [32] (gs.map (TL.joinL [32])) = TL.joinL [32] gs.flatten
  | [], _ => rfl
  | [g], _ => by
    show TL.joinL [32] g = TL.joinL [32] (g ++ [])
    rw [List.append_nil]
  | g :: g' :: gs, h => by
    show TL.joinL [32] g ++ ([32] ++ TL.joinL [32] ((g' :: gs).map (TL.joinL [32]))) = TL.joinL [32] (g ++ (g' :: gs).flatten)
    rw [join_flat fun x hx => h x (List.mem_cons_of_mem _ hx), join_app (h g List.mem_cons_self)]
    intro z
    have := h g' (by simp)
    rw [List.flatten_cons] at z
    exact this (List.append_eq_nil_iff.mp z).1
theorem tl_join32 (ws : List Str) : TL.tl (Txt.join " " ws) = TL.joinL [32] (ws.map TL.tl) := by
  rw [TL.join_eq, TL.tl_join]
  rfl
theorem ptk_ne : ∀ t : Nt, t.ptk ≠ []
  | .num _ => by simp [Nt.ptk]
  | .node _ _ => by simp [Nt.ptk]
theorem digs_tl (n : Nat) : TL.tl (digs n) = TL.numL n := TL.tl_num n
theorem spcs_digs (n : Nat) : spcs (TL.tl (digs n)) = TL.tl (digs n) := spcs_none fun c hc => by
  rw [digs_tl] at hc
  have := TL.numL_digits n c hc
  omega
theorem spcs_word {w : Str} (h : WdOk w) : spcs (TL.tl w) = TL.tl w := spcs_none fun c hc => by
  have := h.2 c hc
  omega
mutual
theorem ptx_spc : ∀ {t : Nt}, t.Ok → spcs (TL.tl t.ptx) = TL.joinL [32] (t.ptk.map TL.tl)
  | .num n, _ => by
    show spcs (TL.tl (digs n)) = TL.tl (digs n)
    exact spcs_digs n
  | .node w ts, h => by
    have ok : WdOk w ∧ Nt.Oks ts := by simpa only [Nt.Ok] using h
    have e : TL.tl (Nt.ptx (.node w ts)) = [40] ++ (TL.joinL [32] (TL.tl w :: (Nt.ptxs ts).map TL.tl) ++ [41]) := by
      show TL.tl ("(" ++ Txt.join " " (w :: Nt.ptxs ts) ++ ")") = _
      rw [TL.tl_append, TL.tl_append, tl_join32, List.append_assoc]
      rfl
    rw [e, spcs_app, spcs_app, node_spc ok.1 ok.2]
    have e2 : (Nt.ptk (.node w ts)).map TL.tl = [[40]] ++ ((TL.tl w :: (Nt.ptks ts).map TL.tl) ++ [[41]]) := by
      show ((("(" : Str) :: w :: (Nt.ptks ts ++ [(")" : Str)])).map TL.tl) = _
      rw [List.map_cons, List.map_cons, List.map_append]
      rfl
    rw [e2, join_app (by simp) (by simp), join_app (by simp) (by simp)]
    show [40, 32] ++ (_ ++ [32, 41]) = _
    show [40] ++ ([32] ++ (_ ++ ([32] ++ [41]))) = _
    rfl
theorem node_spc {w : Str} : ∀ {ts : List Nt}, WdOk w → Nt.Oks ts → spcs (TL.joinL [32] (TL.tl w :: (Nt.ptxs ts).map TL.tl)) = TL.joinL [32] (TL.tl w :: (Nt.ptks ts).map TL.tl)
  | ts, hw, hs => by
    rw [spcs_join, List.map_cons, spcs_word hw]
    have e : ((Nt.ptxs ts).map TL.tl).map spcs = (ts.map fun t => t.ptk.map TL.tl).map (TL.joinL [32]) := ptxs_spc hs
    rw [e]
    have f : TL.joinL [32] (TL.tl w :: (ts.map fun t => t.ptk.map TL.tl).map (TL.joinL [32])) = TL.joinL [32] (([TL.tl w] :: (ts.map fun t => t.ptk.map TL.tl)).map (TL.joinL [32])) := rfl
    rw [f, join_flat (fun g hg => by
      rcases List.mem_cons.mp hg with rfl | hg
      · simp
      · obtain ⟨t, _, rfl⟩ := List.mem_map.mp hg
        exact fun z => ptk_ne t (List.map_eq_nil_iff.mp z)), ptks_flat]
    rfl
theorem ptxs_spc : ∀ {ts : List Nt}, Nt.Oks ts → ((Nt.ptxs ts).map TL.tl).map spcs = (ts.map fun t => t.ptk.map TL.tl).map (TL.joinL [32])
  | [], _ => rfl
  | t :: ts, h => by
    have ok : t.Ok ∧ Nt.Oks ts := by simpa only [Nt.Oks] using h
    show spcs (TL.tl t.ptx) :: ((Nt.ptxs ts).map TL.tl).map spcs = TL.joinL [32] (t.ptk.map TL.tl) :: _
    rw [ptx_spc ok.1, ptxs_spc ok.2]
theorem ptks_flat : ∀ {ts : List Nt}, (Nt.ptks ts).map TL.tl = (ts.map fun t => t.ptk.map TL.tl).flatten
  | [] => rfl
  | t :: ts => by
    show (t.ptk ++ Nt.ptks ts).map TL.tl = _
    rw [List.map_append, ptks_flat (ts := ts)]
    rfl
end
/-! what is read -/
def numF (z : Str) : Option Int := if Txt.isascii z = true ∧ Txt.isdigit z = true ∧ z.length ≤ 3 then (if digs (NumText.digitsVal (TL.tl z)) = z then some (NumText.digitsVal (TL.tl z) : Nat) else none) else none
def wordD (z : Str) : PyData := match numF z with
  | some n => .int n
  | none => .str z
def shp (ds : List PyData) : PyData := match ds with
  | .str z :: r => if z = "table" then .tuple [.str "table", .tuple r] else .tuple (.str z :: r)
  | ds => .tuple ds
/-- one word more; the innermost first -/
def pstep (L : List (List PyData)) (z : Str) : List (List PyData) := match L with
  | [] => []
  | t :: r => if z = "(" then [] :: t :: r else match (if z = ")" then r else []) with
    | u :: r' => (u ++ [shp t]) :: r'
    | [] => (t ++ [wordD z]) :: r
def prun : List Str → List (List PyData) → Option (List (List PyData))
  | [], L => some L
  | z :: zs, L => if 8 < (pstep L z).length then none else prun zs (pstep L z)
def pres (zs : List Str) : Option PyData := match prun zs [[]] with
  | some [t] => some (shp t)
  | _ => none
theorem dig_y : ∀ c, c < 58 → 48 ≤ c → Unicode.isDigit c = true := by decide +kernel
theorem dig_n : ∀ c, c < 123 → 97 ≤ c → Unicode.isDigit c = false := by decide +kernel
theorem dig_b : ∀ c, c < 128 → Unicode.isDigit c = true → 48 ≤ c ∧ c ≤ 57 := by decide +kernel
theorem isd_eq (z : Str) : Txt.isdigit z = true ↔ TL.tl z ≠ [] ∧ ∀ c, c ∈ TL.tl z → Unicode.isDigit c = true := by
  unfold Txt.isdigit
  rw [Bool.and_eq_true, decide_eq_true_eq, Array.all_eq_true_iff_forall_mem]
  constructor
  · intro ⟨h1, h2⟩
    exact ⟨fun e => by rw [TL.len_tl, e] at h1; exact absurd h1 (by decide), fun c hc => h2 c (Array.mem_toList_iff.mp hc)⟩
  · intro ⟨h1, h2⟩
    refine ⟨?_, fun c hc => h2 c (Array.mem_toList_iff.mpr hc)⟩
    rw [TL.len_tl]
    exact List.length_pos_iff.mpr h1
theorem isa_eq (z : Str) : Txt.isascii z = true ↔ ∀ c, c ∈ TL.tl z → c < 128 := by
  unfold Txt.isascii
  rw [Array.all_eq_true_iff_forall_mem]
  constructor
  · intro h c hc
    exact of_decide_eq_true (h c (Array.mem_toList_iff.mp hc))
  · intro h c hc
    exact decide_eq_true (h c (Array.mem_toList_iff.mpr hc))
theorem digs_inj {m n : Nat} (h : digs m = digs n) : m = n := by
  have := congrArg TL.tl h
  rw [digs_tl, digs_tl] at this
  exact TL.numL_inj this
theorem numF_digs {n : Nat} (h : n < 1000) : numF (digs n) = some (n : Int) := by
  have e : NumText.digitsVal (TL.tl (digs n)) = n := by
    rw [digs_tl]
    exact TL.numL_val n
  have c : Txt.isascii (digs n) = true ∧ Txt.isdigit (digs n) = true ∧ (digs n).length ≤ 3 := by
    refine ⟨(isa_eq _).mpr fun c hc => ?_, (isd_eq _).mpr ⟨by rw [digs_tl]; exact TL.numL_ne n, fun c hc => ?_⟩, ?_⟩
    · rw [digs_tl] at hc
      have := TL.numL_digits n c hc
      omega
    · rw [digs_tl] at hc
      have := TL.numL_digits n c hc
      exact dig_y c (by omega) this.1
    · rw [TL.len_tl, digs_tl]
      exact TL.numL_len (by decide) (by omega)
  unfold numF
  rw [if_pos c, e, if_pos rfl]
theorem numF_word {w : Str} (h : WdOk w) : numF w = none := by
  unfold numF
  rw [if_neg]
  intro ⟨_, h2, _⟩
  obtain ⟨ne, a⟩ := (isd_eq w).mp h2
  cases e : TL.tl w with
  | nil => exact ne e
  | cons c r =>
    have hc : c ∈ TL.tl w := by rw [e]; exact List.mem_cons_self
    have := h.2 c hc
    have d := a c hc
    rw [dig_n c (by omega) this.1] at d
    cases d
theorem par_ne {z : Str} (h : ∀ c, c ∈ TL.tl z → c ≠ 40 ∧ c ≠ 41) : z ≠ "(" ∧ z ≠ ")" := by
  constructor
  · intro e
    subst e
    exact (h 40 (by decide +kernel)).1 rfl
  · intro e
    subst e
    exact (h 41 (by decide +kernel)).2 rfl
theorem wd_par {w : Str} (h : WdOk w) : w ≠ "(" ∧ w ≠ ")" := par_ne fun c hc => by
  have := h.2 c hc
  omega
theorem digs_par (n : Nat) : digs n ≠ "(" ∧ digs n ≠ ")" := par_ne fun c hc => by
  rw [digs_tl] at hc
  have := TL.numL_digits n c hc
  omega
theorem pstep_plain {z : Str} {t : List PyData} {r : List (List PyData)} (h : z ≠ "(" ∧ z ≠ ")") : pstep (t :: r) z = (t ++ [wordD z]) :: r := by
  unfold pstep
  dsimp only
  rw [if_neg h.1, if_neg h.2]
theorem prun_plain {z : Str} {zs : List Str} {t : List PyData} {r : List (List PyData)} (h : z ≠ "(" ∧ z ≠ ")") (l : r.length ≤ 7) : prun (z :: zs) (t :: r) = prun zs ((t ++ [wordD z]) :: r) := by
  show (if 8 < (pstep (t :: r) z).length then none else _) = _
  rw [pstep_plain h, if_neg (by rw [List.length_cons]; omega)]
theorem shp_node (w : Str) (ts : List Nt) : shp (.str w :: Nt.datas ts) = (Nt.node w ts).data := by
  show (if w = "table" then _ else _) = (if w = "table" then _ else _)
  rfl
mutual
theorem prun_part : ∀ {t : Nt} {zs : List Str} {top : List PyData} {r : List (List PyData)}, t.Ok → t.dep + r.length ≤ 7 → prun (t.ptk ++ zs) (top :: r) = prun zs ((top ++ [t.data]) :: r)
  | .num n, zs, top, r, h, l => by
    have h : n < 1000 := by simpa only [Nt.Ok] using h
    show prun (digs n :: zs) (top :: r) = _
    rw [prun_plain (digs_par n) (by omega)]
    have : wordD (digs n) = .int (n : Nat) := by
      unfold wordD
      rw [numF_digs h]
    rw [this]
    rfl
  | .node w ts, zs, top, r, h, l => by
    have ok : WdOk w ∧ Nt.Oks ts := by simpa only [Nt.Ok] using h
    have l2 : Nt.deps ts + 1 + r.length ≤ 7 := by simpa only [Nt.dep] using l
    show prun (("(" : Str) :: w :: ((Nt.ptks ts ++ [(")" : Str)]) ++ zs)) (top :: r) = _
    have e1 : prun (("(" : Str) :: w :: ((Nt.ptks ts ++ [(")" : Str)]) ++ zs)) (top :: r) = prun (w :: ((Nt.ptks ts ++ [(")" : Str)]) ++ zs)) ([] :: top :: r) := by
      show (if 8 < ([] :: top :: r).length then none else _) = _
      rw [if_neg (by rw [List.length_cons, List.length_cons]; omega)]
      rfl
    rw [e1, prun_plain (wd_par ok.1) (by rw [List.length_cons]; omega)]
    have ew : wordD w = .str w := by
      unfold wordD
      rw [numF_word ok.1]
    rw [ew, List.append_assoc, prun_parts ok.2 (by rw [List.length_cons]; omega)]
    show prun ((")" : Str) :: zs) _ = _
    show (if 8 < (pstep _ (")" : Str)).length then none else _) = _
    have e2 : pstep (([] ++ [PyData.str w] ++ Nt.datas ts) :: top :: r) (")" : Str) = (top ++ [shp (.str w :: Nt.datas ts)]) :: r := by
      unfold pstep
      dsimp only
      rw [if_neg (by decide +kernel), if_pos rfl]
      rfl
    rw [e2, if_neg (by rw [List.length_cons]; omega), shp_node]
theorem prun_parts : ∀ {ts : List Nt} {zs : List Str} {top : List PyData} {r : List (List PyData)}, Nt.Oks ts → Nt.deps ts + r.length ≤ 7 → prun (Nt.ptks ts ++ zs) (top :: r) = prun zs ((top ++ Nt.datas ts) :: r)
  | [], zs, top, r, _, _ => by
    show prun zs (top :: r) = prun zs ((top ++ []) :: r)
    rw [List.append_nil]
  | t :: ts, zs, top, r, h, l => by
    have ok : t.Ok ∧ Nt.Oks ts := by simpa only [Nt.Oks] using h
    have l2 : max t.dep (Nt.deps ts) + r.length ≤ 7 := by simpa only [Nt.deps] using l
    show prun ((t.ptk ++ Nt.ptks ts) ++ zs) (top :: r) = prun zs ((top ++ (t.data :: Nt.datas ts)) :: r)
    rw [List.append_assoc, prun_part ok.1 (by omega), prun_parts ok.2 (by omega), List.append_assoc]
    rfl
end
theorem pres_node {w : Str} {ts : List Nt} (h : (Nt.node w ts).Ok) (l : (Nt.node w ts).dep ≤ 8) : pres (w :: Nt.ptks ts) = some (Nt.node w ts).data := by
  have ok : WdOk w ∧ Nt.Oks ts := by simpa only [Nt.Ok] using h
  have l2 : Nt.deps ts + 1 ≤ 8 := by simpa only [Nt.dep] using l
  have ew : wordD w = .str w := by
    unfold wordD
    rw [numF_word ok.1]
  have e := prun_parts (zs := []) (top := [.str w]) (r := []) ok.2 (by simpa using (show Nt.deps ts ≤ 7 by omega))
  rw [List.append_nil] at e
  unfold pres
  rw [prun_plain (wd_par ok.1) (by simp), ew]
  show (match prun (Nt.ptks ts) [[PyData.str w]] with | some [t] => some (shp t) | _ => none) = _
  rw [e]
  show some (shp (.str w :: Nt.datas ts)) = _
  rw [shp_node]
mutual
theorem ptk_free : ∀ {t : Nt}, t.Ok → ∀ p, p ∈ t.ptk → 32 ∉ TL.tl p
  | .num n, _, p, hp => by
    have hp : p ∈ [digs n] := hp
    rw [List.mem_singleton.mp hp, digs_tl]
    exact TL.numL_free (.inl (by decide))
  | .node w ts, h, p, hp => by
    have ok : WdOk w ∧ Nt.Oks ts := by simpa only [Nt.Ok] using h
    have hp : p ∈ ("(" : Str) :: w :: (Nt.ptks ts ++ [(")" : Str)]) := hp
    rcases List.mem_cons.mp hp with rfl | hp
    · decide +kernel
    rcases List.mem_cons.mp hp with rfl | hp
    · intro z
      have := ok.1.2 32 z
      omega
    rcases List.mem_append.mp hp with hp | hp
    · exact ptks_free ok.2 p hp
    · rw [List.mem_singleton.mp hp]
      decide +kernel
theorem ptks_free : ∀ {ts : List Nt}, Nt.Oks ts → ∀ p, p ∈ Nt.ptks ts → 32 ∉ TL.tl p
  | [], _, _, hp => by cases hp
  | t :: ts, h, p, hp => by
    have ok : t.Ok ∧ Nt.Oks ts := by simpa only [Nt.Oks] using h
    have hp : p ∈ t.ptk ++ Nt.ptks ts := hp
    rcases List.mem_append.mp hp with hp | hp
    · exact ptk_free ok.1 p hp
    · exact ptks_free ok.2 p hp
end
/-- the words of what is written -/
theorem words_of {w : Str} {ts : List Nt} (h : (Nt.node w ts).Ok) : Txt.split (Txt.replace (Txt.replace (ntx w ts) "(" "( ") ")" " )") " " = w :: Nt.ptks ts := by
  have ok : WdOk w ∧ Nt.Oks ts := by simpa only [Nt.Ok] using h
  have e : Txt.replace (Txt.replace (ntx w ts) "(" "( ") ")" " )" = Txt.join " " (w :: Nt.ptks ts) := by
    refine TL.ext_tl ?_
    show (Txt.replace _ _ _).cps.toList = _
    rw [StrLaws.replace_list (by decide +kernel), StrLaws.replace_list (by decide +kernel)]
    show StrLaws.replL [41] [32, 41] (StrLaws.replL [40] [40, 32] (TL.tl (ntx w ts))) = _
    unfold ntx
    rw [repl2, tl_join32, List.map_cons, node_spc ok.1 ok.2, tl_join32]
    rfl
  rw [e]
  refine TL.split_join (s := 32) (S := []) rfl (by decide +kernel) (by simp) fun p hp => ?_
  rcases List.mem_cons.mp hp with rfl | hp
  · intro z
    have := ok.1.2 32 z
    omega
  · exact ptks_free ok.2 p hp
/-! texts: str(x) of a text or a number -/
theorem call_strT {X : Cx} : CallR X (.type "str") (fun xs H Q => ∃ x, xs = [x] ∧ ((∃ z, x = .str z ∧ Q (.str z) H) ∨ ∃ i : Int, x = .int i ∧ i.natAbs.log2 < 1920 ∧ Q (.str (Str.ofString (toString i))) H)) := by
  intro pins s σ H vs us Q I r h
  obtain ⟨x, rfl, h⟩ := h
  rcases h with ⟨z, rfl, q⟩ | ⟨i, rfl, hs, q⟩
  · obtain ⟨u, rfl, t, rfl⟩ := vals1 r
    exact PySem.P.str_of_str ⟨.str _, H, I, ⟨_, rfl⟩, q⟩
  · obtain ⟨u, rfl, t, rfl⟩ := vals1 r
    exact PySem.P.str_of_int hs ⟨.str _, H, I.tok _, ⟨_, rfl⟩, q⟩
theorem small_log {n : Nat} (h : n < 1000) : ((n : Nat) : Int).natAbs.log2 < 1920 := by
  by_cases z : n = 0
  · subst z
    decide
  · rw [Int.natAbs_natCast, Nat.log2_lt z]
    exact Nat.lt_of_lt_of_le h (by decide +kernel)
mutual
def Nt.wt : Nt → Nat
  | .num _ => 4
  | .node w ts => w.length + 4 + Nt.wts ts
def Nt.wts : List Nt → Nat
  | [] => 0
  | t :: ts => t.wt + 1 + Nt.wts ts
end
theorem joinL_len : ∀ xs : List (List Nat), (TL.joinL [32] xs).length ≤ (xs.map List.length).sum + xs.length
  | [] => Nat.zero_le _
  | [p] => by
    show p.length ≤ _
    simp
  | p :: q :: r => by
    have := joinL_len (q :: r)
    show (p ++ ([32] ++ TL.joinL [32] (q :: r))).length ≤ _
    rw [List.length_append, List.length_append, List.map_cons, List.sum_cons, List.length_cons (a := p)]
    show p.length + (1 + _) ≤ _
    omega
theorem join_len (ws : List Str) : (Txt.join " " ws).length ≤ (ws.map (·.length)).sum + ws.length := by
  have := joinL_len (ws.map TL.tl)
  rw [TL.len_tl, tl_join32]
  rw [List.map_map, List.length_map] at this
  have e : ws.map (List.length ∘ TL.tl) = ws.map (·.length) := List.map_inj_left.mpr fun w _ => (TL.len_tl w).symm
  rw [e] at this
  exact this
theorem digs_len {n : Nat} (h : n < 1000) : (digs n).length ≤ 3 := by
  rw [TL.len_tl, digs_tl]
  exact TL.numL_len (by decide) (by omega)
theorem par_len (z : Str) : (("(" : Str) ++ z ++ (")" : Str)).length = z.length + 2 := by
  rw [TL.len_tl, TL.tl_append, TL.tl_append, List.length_append, List.length_append, ← TL.len_tl z]
  show 1 + _ + 1 = _
  omega
mutual
theorem ptx_len : ∀ {t : Nt}, t.Ok → t.ptx.length ≤ t.wt
  | .num n, h => by
    have h : n < 1000 := by simpa only [Nt.Ok] using h
    have := digs_len h
    show (digs n).length ≤ 4
    omega
  | .node w ts, h => by
    have ok : WdOk w ∧ Nt.Oks ts := by simpa only [Nt.Ok] using h
    have a := ptxs_len ok.2
    have b := join_len (w :: Nt.ptxs ts)
    rw [List.map_cons, List.sum_cons, List.length_cons] at b
    show (("(" : Str) ++ Txt.join " " (w :: Nt.ptxs ts) ++ (")" : Str)).length ≤ w.length + 4 + Nt.wts ts
    rw [par_len]
    omega
theorem ptxs_len : ∀ {ts : List Nt}, Nt.Oks ts → ((Nt.ptxs ts).map (·.length)).sum + (Nt.ptxs ts).length ≤ Nt.wts ts
  | [], _ => Nat.le_refl 0
  | t :: ts, h => by
    have ok : t.Ok ∧ Nt.Oks ts := by simpa only [Nt.Oks] using h
    have a := ptx_len ok.1
    have b := ptxs_len ok.2
    show ((t.ptx :: Nt.ptxs ts).map (·.length)).sum + (t.ptx :: Nt.ptxs ts).length ≤ t.wt + 1 + Nt.wts ts
    rw [List.map_cons, List.sum_cons, List.length_cons]
    omega
end
theorem ntx_len {w : Str} {ts : List Nt} (h : (Nt.node w ts).Ok) : (ntx w ts).length + 2 ≤ (Nt.node w ts).wt := by
  have := ptx_len h
  have e : (Nt.ptx (.node w ts)) = ("(" : Str) ++ ntx w ts ++ (")" : Str) := rfl
  rw [e, par_len] at this
  exact this
theorem datas_map : ∀ ts : List Nt, Nt.datas ts = ts.map Nt.data
  | [] => rfl
  | t :: ts => by
    show t.data :: Nt.datas ts = _
    rw [datas_map ts]
    rfl
theorem ptxs_map : ∀ ts : List Nt, Nt.ptxs ts = ts.map Nt.ptx
  | [] => rfl
  | t :: ts => by
    show t.ptx :: Nt.ptxs ts = _
    rw [ptxs_map ts]
    rfl
theorem oks_mem : ∀ {ts : List Nt} {t : Nt}, Nt.Oks ts → t ∈ ts → t.Ok ∧ t.dep ≤ Nt.deps ts ∧ t.wt ≤ Nt.wts ts
  | [], _, _, h => by cases h
  | x :: ts, t, h, hm => by
    have ok : x.Ok ∧ Nt.Oks ts := by simpa only [Nt.Oks] using h
    show t.Ok ∧ t.dep ≤ max x.dep (Nt.deps ts) ∧ t.wt ≤ x.wt + 1 + Nt.wts ts
    rcases List.mem_cons.mp hm with rfl | hm
    · exact ⟨ok.1, Nat.le_max_left _ _, by omega⟩
    · have := oks_mem ok.2 hm
      exact ⟨this.1, Nat.le_trans this.2.1 (Nat.le_max_right _ _), by omega⟩
theorem TgA.getD {p : Addr → Prop} {H : Hp} : ∀ {vs : List V} {ds : List PyData}, TgA p H vs ds → vs.length = ds.length ∧ ∀ (i : Nat) (v : V), vs[i]? = some v → ∃ d, ds[i]? = some d ∧ Tg p H v d
  | [], [], _ => ⟨rfl, fun i v e => by cases e⟩
  | [], _ :: _, h => by cases h
  | _ :: _, [], h => by cases h
  | x :: vs, y :: ds, h => by
    cases h with
    | cons a b =>
      obtain ⟨l, r⟩ := TgA.getD b
      refine ⟨by rw [List.length_cons, List.length_cons, l], fun i v e => ?_⟩
      cases i with
      | zero => cases e; exact ⟨y, rfl, a⟩
      | succ i => exact r i v (by simpa using e)
theorem wts_len : ∀ ts : List Nt, ts.length ≤ Nt.wts ts
  | [] => Nat.le_refl 0
  | t :: ts => by
    have := wts_len ts
    show ts.length + 1 ≤ t.wt + 1 + Nt.wts ts
    omega
theorem dv3 : ∀ {l : List Nat}, l.length ≤ 3 → NumText.AllDigits l → NumText.digitsVal l < 1000
  | [], _, _ => by decide
  | [a], _, h => by
    have := h a (by simp)
    show 0 * 10 + (a - 48) < 1000
    omega
  | [a, b], _, h => by
    have := h a (by simp)
    have := h b (by simp)
    show (0 * 10 + (a - 48)) * 10 + (b - 48) < 1000
    omega
  | [a, b, c], _, h => by
    have := h a (by simp)
    have := h b (by simp)
    have := h c (by simp)
    show ((0 * 10 + (a - 48)) * 10 + (b - 48)) * 10 + (c - 48) < 1000
    omega
  | _ :: _ :: _ :: _ :: _, l, _ => by
    simp only [List.length_cons] at l
    omega
def numFV (z : Str) : V := match numF z with
  | some n => .int n
  | none => .non
def wordV (z : Str) : V := match numF z with
  | some n => .int n
  | none => .str z
def sp_number_from (_ : PySem.W.Frag) : Sp := fun vs H Q _ => ∃ z : Str, vs = [.str z] ∧ z.length ≤ 1000000 ∧ Q (numFV z) H
theorem ok_number_from (T : Defs K mg) (TT : Tabs T base) : FnOk P w K mg base CX0 1 T.f_number_from T.fd_number_from ["text"] (sp_number_from K) := by
  refine T.F_number_from.ok sc_number_from (fun vs H Q E h => ?_) (fun cdv A outer s H vs Q E hr h => ?_)
  · obtain ⟨z, rfl, lz, q⟩ := h
    rfl
  · obtain ⟨z, rfl, lz, q⟩ := h
    refine ⟨_, PSs.nox (pss_cons (ps_if (PW.pt (pw_or (pt_not (pt_val (pe_m0 PySem.F.slot_str_isascii PySem.F.type_str_isascii mt_isascii (pv 0)))) (pw_or (pt_not (pt_val (pe_m0 PySem.F.slot_str_isdigit PySem.F.type_str_isdigit mt_isdigit (pv 0)))) (pw_or1 (pt_cmpR op_gt (pe_callB call_len_str (by rfl) T.m_len bt_len (pa_cons (pv 0) pa_nil)) (pe_globI (by rfl) T.i_MOST_FIGURES) (nomark _)))))) (pss_one (ps_ret pe_non)) pss_nil)
    (pss_cons (ps_set (i := 1) sc_number_from.nd rfl (.inl rfl) (pe_callTy call_int_str (by rfl) T.m_int bt_int (pa_cons (pv 0) pa_nil)))
    (pss_cons (ps_if (pt_cmpR op_ne (pe_callTy call_strT (by rfl) T.m_str bt_str (pa_cons (pv 1) pa_nil)) (pv 0) (nomark _)) (pss_one (ps_ret pe_non)) pss_nil)
    (pss_one (ps_ret (pv 1)))))), ?_⟩
    have hsl : sizeLine = 16777216 := by decide
    have no : ¬ (Txt.isascii z = true ∧ Txt.isdigit z = true ∧ z.length ≤ 3) → Q .non H := fun n => by
      unfold numFV numF at q
      rw [if_neg n] at q
      exact q
    refine ⟨_, rfl, ⟨z, rfl⟩, z, rfl, rfl, trivial, _, rfl, ?_⟩
    cases ha : Txt.isascii z with
    | false => exact iteT (iteT (no fun h => by rw [ha] at h; exact absurd h.1 (by decide)))
    | true =>
      refine iteF ⟨_, rfl, ⟨z, rfl⟩, z, rfl, rfl, trivial, _, rfl, ?_⟩
      cases hd : Txt.isdigit z with
      | false => exact iteT (iteT (no fun h => by rw [hd] at h; exact absurd h.2.1 (by decide)))
      | true =>
        refine iteF ⟨_, rfl, z, rfl, by omega, _, _, rfl, rfl, _, rfl, ite2 (fun e => ?_) (fun e => ?_)⟩
        · have : (3 : Int) < (z.length : Nat) := of_decide_eq_true e
          exact no fun h => by have := h.2.2; omega
        · have l3 : z.length ≤ 3 := by
            refine Nat.le_of_not_lt fun h => e (decide_eq_true ?_)
            show (3 : Int) < (z.length : Nat)
            omega
          have c : Txt.isascii z = true ∧ Txt.isdigit z = true ∧ z.length ≤ 3 := ⟨ha, hd, l3⟩
          obtain ⟨ne, ad⟩ := (isd_eq z).mp hd
          have aa := (isa_eq z).mp ha
          have al : NumText.AllDigits (TL.tl z) := fun x hx => dig_b x (aa x hx) (ad x hx)
          have ei := intText_digits (x := z) al ne (by omega)
          generalize hn : NumText.digitsVal z.cps.toList = n at ei
          have hn : NumText.digitsVal (TL.tl z) = n := hn
          unfold numFV numF at q
          rw [if_pos c, hn] at q
          have n3 : n < 1000 := by
            rw [← hn]
            exact dv3 (by rw [← TL.len_tl]; exact l3) al
          refine ⟨_, rfl, z, n, rfl, ei, by omega, ?_⟩
          refine ⟨_, rfl, _, rfl, .inr ⟨_, rfl, small_log n3, _, rfl, rfl, _, rfl, ?_⟩⟩
          by_cases e : digs n = z
          · rw [if_pos e] at q
            rw [show decide (V.str (Str.ofString (toString (n : Int))) = V.str z) = true from decide_eq_true (congrArg V.str e)]
            exact iteF ⟨_, rfl, q⟩
          · rw [if_neg e] at q
            rw [show decide (V.str (Str.ofString (toString (n : Int))) = V.str z) = false from decide_eq_false fun x => e (V.str.inj x)]
            exact iteT q
def sp_word_from (_ : PySem.W.Frag) : Sp := fun vs H Q _ => ∃ z : Str, vs = [.str z] ∧ z.length ≤ 1000000 ∧ Q (wordV z) H
theorem ok_word_from (T : Defs K mg) (TT : Tabs T base) : FnOk P w K mg base CX0 2 T.f_word_from T.fd_word_from ["text"] (sp_word_from K) := by
  have G_number_from : FnOk P w K mg base CX0 1 T.f_number_from T.fd_number_from ["text"] (sp_number_from K) := ok_number_from T TT
  refine T.F_word_from.ok sc_word_from (fun vs H Q E h => ?_) (fun cdv A outer s H vs Q E hr h => ?_)
  · obtain ⟨z, rfl, lz, q⟩ := h
    rfl
  · obtain ⟨z, rfl, lz, q⟩ := h
    refine ⟨_, PSs.nox (pss_cons (ps_set (i := 1) sc_word_from.nd rfl (.inl rfl) (pe_call G_number_from (hr.mono (by decide)) (by rfl) T.g_number_from T.F_number_from.kp T.b_number_from .nil pass0 (pa_cons (pv 0) pa_nil)))
    (pss_cons (ps_if (pt_cmpR op_isN (pv 1) pe_non (nomark _)) (pss_one (ps_ret (pv 0))) pss_nil)
    (pss_one (ps_ret (pv 1))))), ?_⟩
    refine ⟨_, rfl, z, rfl, lz, ?_⟩
    unfold wordV at q
    unfold numFV
    cases e : numF z with
    | none =>
      rw [e] at q
      exact ⟨_, rfl, rfl, _, rfl, iteT ⟨_, rfl, q⟩⟩
    | some n =>
      rw [e] at q
      exact ⟨_, rfl, rfl, _, rfl, iteF ⟨_, rfl, q⟩⟩
theorem gd_shaped {d : PyData} (h : gd 21 d = true) (n : d.depth ≤ 64) : PySem.SeqAt.shaped d = true := by
  unfold PySem.SeqAt.shaped
  rw [(gd_lvs d h).2, decide_eq_true n]
  rfl
theorem tbl_eqv (d : PyData) (r : List PyData) : PyData.eqv (.list [d]) (.list [.str "table"]) = true ∧ d = .str "table" ∨ PyData.eqv (.list [d]) (.list [.str "table"]) = false ∧ d ≠ .str "table" := by
  have e : PyData.eqv (.list [d]) (.list [.str "table"]) = PyData.eqv d (.str "table") := by
    simp only [PyData.eqv, PyData.eqvAll, Bool.and_true]
  rw [e]
  cases d with
  | str z =>
    by_cases c : z = "table"
    · exact .inl ⟨by rw [c]; simp only [PyData.eqv, beq_self_eq_true], by rw [c]⟩
    · exact .inr ⟨by simp only [PyData.eqv]; exact beq_false_of_ne c, fun x => c (PyData.str.inj x)⟩
  | _ => exact .inr ⟨by simp only [PyData.eqv], fun x => by cases x⟩
theorem shp_no {ds : List PyData} (h : ∀ r, ds ≠ .str "table" :: r) : shp ds = .tuple ds := by
  unfold shp
  split
  · rename_i z r
    rw [if_neg fun e => h r (by rw [e])]
  · rfl
theorem shp_tbl (r : List PyData) : shp (.str "table" :: r) = .tuple [.str "table", .tuple r] := by
  show (if ("table" : Str) = "table" then PyData.tuple [.str "table", .tuple r] else .tuple (.str "table" :: r)) = _
  rw [if_pos rfl]
def sp_shaped (K : PySem.W.Frag) : Sp := fun vs H Q _ => ∃ (l : Addr) (p : Addr → Prop) (xs : List V) (ds : List PyData), vs = [.ref l] ∧ H l = some (.lst xs) ∧ TgA p H xs ds ∧ (∀ a, p a → H a ≠ none) ∧ (∀ d, d ∈ ds → gd 21 d = true ∧ d.depth ≤ 30) ∧ ds.length ≤ 1000000 ∧ ∀ H' v, Same H H' → Tg p H' v (shp ds) → Q v H'
theorem ok_shaped (T : Defs K mg) (TT : Tabs T base) : FnOk P w K mg base CX0 1 T.f_shaped T.fd_shaped ["parts"] (sp_shaped K) := by
  refine T.F_shaped.ok sc_shaped (fun vs H Q E h => ?_) (fun cdv A outer s H vs Q E hr h => ?_)
  · obtain ⟨l, p, xs, ds, rfl, hl, hx, pn, hd, ld, q⟩ := h
    rfl
  · obtain ⟨l, p, xs, ds, rfl, hl, hx, pn, hd, ld, q⟩ := h
    refine ⟨_, PSs.nox (pss_cons (ps_if (pt_cmpR (op_eqD hr.units) (pe_slice sl_list (pv 0) po_none (po_some pe_int)) (pe_lst (pa_cons pe_str pa_nil)) (nomark _)) (pss_one (ps_ret (pe_tup (pa_cons pe_str (pa_cons (pe_callTy call_tuple_of (by rfl) T.m_tuple bt_tuple (pa_cons (pe_slice sl_list (pv 0) (po_some pe_int) po_none) pa_nil)) pa_nil))))) pss_nil)
    (pss_one (ps_ret (pe_callTy call_tuple_of (by rfl) T.m_tuple bt_tuple (pa_cons (pv 0) pa_nil))))), ?_⟩
    have hsl : sizeLine = 16777216 := by decide
    cases hx with
    | nil =>
      refine ⟨_, rfl, 1, rfl, l, _, rfl, SqL.mk hl, fun t nt => ⟨(show 1 ≤ sizeLine by decide), fun u nu => ?_⟩⟩
      have st := same_upd nt (o := .lst (cutV [] none (some 1)))
      have su := same_upd nu (o := .lst [.str "table"])
      have ht := su _ _ (upd_same (H := H) (a := t) (o := .lst (cutV [] none (some 1))))
      refine ⟨.list [], .list [.str "table"], .lst (SqL.mk ht) .nil, .lst (SqL.mk upd_same) (.cons (.str _) .nil), rfl, by decide +kernel, _, rfl, iteF ⟨_, rfl, l, _, rfl, .inl ⟨SqL.mk (su _ _ (st _ _ hl)), fun y ny => ?_⟩⟩⟩
      have sH := (st.trans su).trans (same_upd ny (o := .tup []))
      refine q _ _ sH ?_
      exact .tup (fun z => pn y z ((st.trans su).free ny)) upd_same .nil
    | cons h1 h2 =>
      rename_i x xs d ds
      have c1 : cutV (x :: xs) none (some 1) = [x] := cut_lo (x :: xs) 1 (by simp)
      have c2 : cutV (x :: xs) (some 1) none = xs := cut_hi (x :: xs) 1
      obtain ⟨g1, g2⟩ := hd d List.mem_cons_self
      refine ⟨_, rfl, 1, rfl, l, _, rfl, SqL.mk hl, fun t nt => ⟨(show 1 ≤ sizeLine by decide), fun u nu => ?_⟩⟩
      rw [c1] at nu ⊢
      have st := same_upd nt (o := .lst [x])
      have su := same_upd nu (o := .lst [.str "table"])
      have ht := su _ _ (upd_same (H := H) (a := t) (o := .lst [x]))
      have sU := st.trans su
      have shd : PySem.SeqAt.shaped (.list [d]) = true := gd_shaped (by simp only [gd, gdA, g1]; rfl) (by simp only [PyData.depth, PyData.depthAll]; omega)
      refine ⟨.list [d], .list [.str "table"], .lst (SqL.mk ht) (.cons (h1.same sU).dp .nil), .lst (SqL.mk upd_same) (.cons (.str _) .nil), shd, by decide +kernel, _, rfl, ?_⟩
      rcases tbl_eqv d ds with ⟨e, rfl⟩ | ⟨e, ne⟩
      · rw [e]
        refine iteT ⟨_, rfl, 1, rfl, l, _, rfl, SqL.mk (sU _ _ hl), fun y ny => ?_⟩
        rw [c2]
        have sy := same_upd ny (o := .lst xs)
        refine ⟨y, xs, rfl, .inl ⟨SqL.mk upd_same, fun z nz => ⟨(show 2 ≤ sizeLine by decide), fun a na => ?_⟩⟩⟩
        have sz := same_upd nz (o := .tup xs)
        have hz := upd_same (H := upd (upd (upd H t (.lst [x])) u (.lst [.str "table"])) y (.lst xs)) (a := z) (o := .tup xs)
        have sa := same_upd na (o := .tup [.str "table", .ref z])
        have s3 := sU.trans sy
        have s4 := s3.trans sz
        refine q _ _ (s4.trans sa) ?_
        show Tg p _ _ (shp (.str "table" :: ds))
        rw [shp_tbl]
        exact .tup (fun w => pn a w (s4.free na)) upd_same (.cons (.str _) (.cons (.tup (fun w => pn z w (s3.free nz)) (sa _ _ hz) (h2.same (s4.trans sa))) .nil))
      · rw [e]
        refine iteF ⟨_, rfl, l, _, rfl, .inl ⟨SqL.mk (sU _ _ hl), fun y ny => ?_⟩⟩
        have sy := same_upd ny (o := .tup (x :: xs))
        refine q _ _ (sU.trans sy) ?_
        rw [shp_no fun r z => ne (by injection z)]
        exact .tup (fun w => pn y w (sU.free ny)) upd_same (.cons (h1.same (sU.trans sy)) (h2.same (sU.trans sy)))
/-! a receiver that wants a token -/
section
variable {X : Cx}
theorem pst_set {i : Nat} {x : Str} {e : Expr} {te : TE} {pos' pos : Pos} (hN : X.N.Nodup) (hi : X.N[i]? = some x) (hx : Loc X.env.scope x) (he : PET X e te) (hs : swapsWith e (some (.Name x pos')) pos.line X.env = pure false := by rfl) (hf : X.fn x = true ∨ X.env.scope.names.lookup x = some .local := by first | exact .inl rfl | exact .inr rfl) :
    PST X (.Assign [.Name x pos'] e pos) (tAsg te (gName i)) := by
  intro pins s σ H D h0 I h
  refine wpAny_Assign_Name (thn (he pins s σ H _ h0 I h) fun v s1 ⟨y, H1, I1, r1, q1⟩ => ?_) hs
  exact store_ok I1 hN hi hx r1 (fun s2 I2 => ⟨_, H1, I2, q1⟩) hf
theorem pet_m1 {o e : Expr} {to te : TE} {id : String} {name : Str} {apos pos : Pos} {r : V → List V → Hp → VK → Prop} (slot : Slot "str" name id) (ty : typeOf (.builtin id) = pure (.type "method_descriptor")) (rule : MtR X id r) (ho : PET X o to) (he : PE X e te)
    (hs : starEach [e] X.env = [(false, eval e X.env)] := by rfl) (hbase : attributeBase o name X.env (eval o X.env) = eval o X.env := by rfl) (hline : (apos.endLine == pos.line) = true := by rfl) :
    PET X (.Call (.Attribute o name apos) [e] [] pos) (tM1 r to te) := by
  intro pins s σ H Q h0 I h
  refine PySem.Call_method1 hbase hs hline (thn (ho pins s σ H _ h0 I h) fun v s1 ⟨x, H1, I1, r1, q1⟩ => ?_)
  obtain ⟨⟨a, rfl⟩, q1⟩ := q1
  obtain ⟨t, rfl⟩ := _root_.id r1
  refine ⟨"str", _, PySem.F.plainAttrs_str, slot, ty, typeIs_str _ _ _, (fun _ e => nomatch e), Calls.callWith_builtin rfl (Calls.evalArgs_plain (Calls.spliced_cons ?_))⟩
  exact thn (he.run pins s1 σ H1 _ I1 q1) fun u s2 ⟨y, H2, I2, r2, q2⟩ => Calls.spliced_nil (rule pins s2 σ H2 _ [y] _ [u] Q I2 r1 (.cons r2 .nil) q2)
end
theorem okT {P : Program} {w : World} {K : PySem.W.Frag} {mg : Str → Option Value} {base : Heap} {x : Str} {st : Stmt} {f : Addr} {fd : FuncData} {N ps : List Str} {k : Nat} {sp : Sp} (F : FnP K x st f fd) (S : FnScope N ps (defScope st)) (hnc : ∀ y ∈ (defScope st).names, y.2 ≠ .cell) (hps : 1 ≤ ps.length) (len : ∀ vs H Q E, sp vs H Q E → vs.length = ps.length)
    (hb : ∀ (cdv : Value) (A : Around) (outer : List Env) (s : Shared) (H : Hp) (vs : List V) (Q : VK) (E : XK), Room k (A.deeper (envOfC x (defScope st) s.heap.objs.size f cdv)) → sp vs H Q E →
      ∃ t, PSsT (cxOf CX0 P w K mg base N x (defScope st) f cdv A outer s H E) (defBody st) t ∧ t { nx := fun _ H' => Q .non H', rt := Q } (L2.start N vs) H) : FnOk P w K mg base CX0 (k + 1) f fd ps sp := by
  obtain ⟨oc, od, dV, kV, doc, pm, an, cdv, ct, osl, rfl, lk, hcd, _, _⟩ := F.ex
  exact fn_ofT lk hcd S hnc hps len fun A outer s H vs Q E hr h => hb cdv A outer s H vs Q E hr h
/-! nested_from: the levels -/
theorem tgA_snoc {p : Addr → Prop} {H : Hp} {v : V} {d : PyData} (hv : Tg p H v d) : ∀ {vs : List V} {ds : List PyData}, TgA p H vs ds → TgA p H (vs ++ [v]) (ds ++ [d])
  | [], [], _ => .cons hv .nil
  | [], _ :: _, h => by cases h
  | _ :: _, [], h => by cases h
  | _ :: _, _ :: _, h => by
    cases h with
    | cons a b => exact .cons a (tgA_snoc hv b)
structure LvOk (L : List (List PyData)) : Prop where
  le : L.length ≤ 8
  ok : ∀ (j : Nat) (t : List PyData), L[j]? = some t → ∀ d, d ∈ t → gd 21 d = true ∧ d.depth + 2 * (L.length - j) ≤ 16
theorem wordD_ok {z : Str} (h : PyData.strOk z = true) : gd 21 (wordD z) = true ∧ (wordD z).depth = 0 := by
  unfold wordD
  cases e : numF z with
  | none => exact ⟨by simpa only [gd] using h, rfl⟩
  | some n =>
    refine ⟨?_, rfl⟩
    have : ∃ k : Nat, k < 1000 ∧ n = k := by
      unfold numF at e
      split at e
      · rename_i c
        split at e
        · injection e with e
          refine ⟨_, ?_, e.symm⟩
          refine dv3 (by rw [← TL.len_tl]; exact c.2.2) fun x hx => dig_b x ((isa_eq z).mp c.1 x hx) (((isd_eq z).mp c.2.1).2 x hx)
        · cases e
      · cases e
    obtain ⟨k, hk, rfl⟩ := this
    simp only [gd]
    refine decide_eq_true ?_
    have : (1000 : Nat) ≤ 10 ^ 21 := by decide
    rw [Int.natAbs_natCast]
    omega
theorem gdA_of {k : Nat} : ∀ {ds : List PyData}, (∀ d, d ∈ ds → gd k d = true) → gdA k ds = true
  | [], _ => rfl
  | d :: ds, h => by
    simp only [gdA, Bool.and_eq_true]
    exact ⟨h d List.mem_cons_self, gdA_of fun x hx => h x (List.mem_cons_of_mem _ hx)⟩
theorem dpA_of {n : Nat} : ∀ {ds : List PyData}, (∀ d, d ∈ ds → d.depth ≤ n) → PyData.depthAll ds ≤ n
  | [], _ => by simp only [PyData.depthAll]; omega
  | d :: ds, h => by
    have a := h d List.mem_cons_self
    have b := dpA_of fun x hx => h x (List.mem_cons_of_mem _ hx)
    simp only [PyData.depthAll]
    omega
theorem shp_ok {t : List PyData} {n : Nat} (h : ∀ d, d ∈ t → gd 21 d = true ∧ d.depth ≤ n) : gd 21 (shp t) = true ∧ (shp t).depth ≤ n + 2 := by
  have g := gdA_of fun d hd => (h d hd).1
  have p := dpA_of fun d hd => (h d hd).2
  have plain : gd 21 (.tuple t) = true ∧ (PyData.tuple t).depth ≤ n + 2 := ⟨by simpa only [gd] using g, by simp only [PyData.depth]; omega⟩
  by_cases e : ∃ r, t = .str "table" :: r
  · obtain ⟨r, rfl⟩ := e
    have gr := gdA_of fun d hd => (h d (List.mem_cons_of_mem _ hd)).1
    have pr := dpA_of fun d hd => (h d (List.mem_cons_of_mem _ hd)).2
    rw [shp_tbl]
    refine ⟨?_, ?_⟩
    · simp only [gd, gdA, Bool.and_true, gr]
      decide +kernel
    · simp only [PyData.depth, PyData.depthAll]
      omega
  · rw [shp_no fun r z => e ⟨r, z⟩]
    exact plain
theorem LvOk.push {L : List (List PyData)} (h : LvOk L) (l : L.length ≤ 7) : LvOk ([] :: L) := ⟨by rw [List.length_cons]; omega, fun j t e d hd => by
  cases j with
  | zero => cases e; cases hd
  | succ j =>
    have := h.ok j t (by simpa using e) d hd
    rw [List.length_cons]
    exact ⟨this.1, by omega⟩⟩
theorem LvOk.word {t : List PyData} {r : List (List PyData)} {d : PyData} (h : LvOk (t :: r)) (g : gd 21 d = true) (z : d.depth = 0) : LvOk ((t ++ [d]) :: r) := ⟨by have := h.le; rw [List.length_cons] at this ⊢; exact this, fun j u e x hx => by
  have l := h.le
  rw [List.length_cons] at l ⊢
  cases j with
  | zero =>
    cases e
    rcases List.mem_append.mp hx with hx | hx
    · have := h.ok 0 t rfl x hx
      rw [List.length_cons] at this
      exact this
    · rw [List.mem_singleton.mp hx, z]
      exact ⟨g, by omega⟩
  | succ j =>
    have := h.ok (j + 1) u (by simpa using e) x hx
    rw [List.length_cons] at this
    exact this⟩
theorem LvOk.pop {t u : List PyData} {r : List (List PyData)} (h : LvOk (t :: u :: r)) : LvOk ((u ++ [shp t]) :: r) := by
  have l := h.le
  rw [List.length_cons, List.length_cons] at l
  have h0 : ∀ d, d ∈ t → gd 21 d = true ∧ d.depth ≤ 16 - 2 * (r.length + 2) := fun d hd => by
    have := h.ok 0 t rfl d hd
    rw [List.length_cons, List.length_cons] at this
    exact ⟨this.1, by omega⟩
  obtain ⟨a, b⟩ := shp_ok h0
  refine ⟨by rw [List.length_cons]; omega, fun j x e d hd => ?_⟩
  rw [List.length_cons]
  cases j with
  | zero =>
    cases e
    rcases List.mem_append.mp hd with hd | hd
    · have := h.ok 1 u rfl d hd
      rw [List.length_cons, List.length_cons] at this
      exact ⟨this.1, by omega⟩
    · rw [List.mem_singleton.mp hd]
      exact ⟨a, by omega⟩
  | succ j =>
    have := h.ok (j + 2) x (by simpa using e) d hd
    rw [List.length_cons, List.length_cons] at this
    exact ⟨this.1, by omega⟩
/-- the levels as they stand, the innermost first -/
structure Lvs (H0 G : Hp) (LV : Addr) (as : List Addr) (L : List (List PyData)) (n : Nat) : Prop where
  kp : Same H0 G
  n0 : H0 LV = none
  ns : ∀ a, a ∈ as → H0 a = none
  lv : G LV = some (.lst (as.reverse.map V.ref))
  len : as.length = L.length
  nd : as.Nodup
  no : LV ∉ as
  at_ : ∀ (j : Nat) (a : Addr) (t : List PyData), as[j]? = some a → L[j]? = some t → ∃ vs, G a = some (.lst vs) ∧ TgA (fun b => b = LV ∨ b ∈ as) G vs t
  lt : ∀ t, t ∈ L → t.length ≤ n
theorem Lvs.ex {H0 G : Hp} {LV : Addr} {as : List Addr} {L : List (List PyData)} {n : Nat} (h : Lvs H0 G LV as L n) {a : Addr} (ha : a = LV ∨ a ∈ as) : G a ≠ none := by
  rcases ha with rfl | ha
  · rw [h.lv]
    exact fun z => by cases z
  · obtain ⟨j, hj⟩ := List.getElem?_of_mem ha
    have jl : j < L.length := by rw [← h.len]; exact (List.getElem?_eq_some_iff.mp hj).1
    obtain ⟨vs, e, _⟩ := h.at_ j a _ hj (List.getElem?_eq_getElem jl)
    rw [e]
    exact fun z => by cases z
/-- the innermost level gets one thing more -/
theorem Lvs.put {H0 G G' : Hp} {LV a : Addr} {as : List Addr} {t : List PyData} {r : List (List PyData)} {n : Nat} {vs : List V} {v : V} {d : PyData} (h : Lvs H0 G LV (a :: as) (t :: r) n) (s : Same G G') (ha : G' a = some (.lst vs)) (hv : Tg (fun b => b = LV ∨ b ∈ a :: as) G' v d) :
    Lvs H0 (upd G' a (.lst (vs ++ [v]))) LV (a :: as) ((t ++ [d]) :: r) (n + 1) := by
  obtain ⟨ws, e1, e2⟩ := h.at_ 0 a t rfl rfl
  have : vs = ws := by
    have := s _ _ e1
    rw [ha] at this
    cases this
    rfl
  subst this
  have am : a ∈ a :: as := List.mem_cons_self
  have aLV : a ≠ LV := fun z => h.no (z ▸ am)
  have up : ∀ {xs : List V} {ds : List PyData}, TgA (fun b => b = LV ∨ b ∈ a :: as) G' xs ds → TgA (fun b => b = LV ∨ b ∈ a :: as) (upd G' a (.lst (vs ++ [v]))) xs ds := fun g => g.kp (fun b xs nb e => ⟨(upd_ne fun z => nb (.inr (z ▸ am))).trans e, nb⟩) (fun b xs nb e => ⟨(upd_ne fun z => nb (.inr (z ▸ am))).trans e, nb⟩)
  refine ⟨same_newer (h.kp.trans s) (h.ns a am), h.n0, h.ns, (upd_ne aLV.symm).trans (s _ _ h.lv), by have := h.len; rw [List.length_cons, List.length_cons] at this ⊢; exact this, h.nd, h.no, fun j b u ej el => ?_, fun u hu => ?_⟩
  · cases j with
    | zero =>
      cases ej
      cases el
      exact ⟨_, upd_same, up (tgA_snoc hv (e2.same s))⟩
    | succ j =>
      obtain ⟨xs, x1, x2⟩ := h.at_ (j + 1) b u ej (by simpa using el)
      have ba : b ≠ a := fun z => by
        have hm : b ∈ as := List.mem_of_getElem? (by simpa using ej)
        exact (List.nodup_cons.mp h.nd).1 (z ▸ hm)
      exact ⟨xs, (upd_ne ba).trans (s _ _ x1), up (x2.same s)⟩
  · rcases List.mem_cons.mp hu with rfl | hu
    · have := h.lt t List.mem_cons_self
      rw [List.length_append]
      exact Nat.succ_le_succ this
    · exact Nat.le_succ_of_le (h.lt u (List.mem_cons_of_mem _ hu))
/-- a level more -/
theorem Lvs.push {H0 G : Hp} {LV b : Addr} {as : List Addr} {L : List (List PyData)} {n : Nat} (h : Lvs H0 G LV as L n) (nb : G b = none) : Lvs H0 (upd (upd G b (.lst [])) LV (.lst (as.reverse.map V.ref ++ [.ref b]))) LV (b :: as) ([] :: L) (n + 1) := by
  have bLV : b ≠ LV := fun z => by rw [z, h.lv] at nb; cases nb
  have bas : b ∉ as := fun z => h.ex (.inr z) nb
  have up : ∀ {xs : List V} {ds : List PyData}, TgA (fun x => x = LV ∨ x ∈ as) G xs ds → TgA (fun x => x = LV ∨ x ∈ b :: as) (upd (upd G b (.lst [])) LV (.lst (as.reverse.map V.ref ++ [.ref b]))) xs ds := fun g => g.kp
    (fun x xs nx e => have xb : x ≠ b := ne_of_none e nb; ⟨(upd_ne fun z => nx (.inl z)).trans ((upd_ne xb).trans e), fun z => z.elim (fun z => nx (.inl z)) fun z => (List.mem_cons.mp z).elim xb fun z => nx (.inr z)⟩)
    (fun x xs nx e => have xb : x ≠ b := ne_of_none e nb; ⟨(upd_ne fun z => nx (.inl z)).trans ((upd_ne xb).trans e), fun z => z.elim (fun z => nx (.inl z)) fun z => (List.mem_cons.mp z).elim xb fun z => nx (.inr z)⟩)
  have nb0 : H0 b = none := h.kp.free nb
  refine ⟨same_newer (h.kp.trans (same_upd nb)) h.n0, h.n0, fun a ha => ?_, ?_, by rw [List.length_cons, List.length_cons, h.len], List.nodup_cons.mpr ⟨bas, h.nd⟩, fun z => (List.mem_cons.mp z).elim (fun z => bLV z.symm) h.no, fun j a t ej el => ?_, fun t ht => ?_⟩
  · rcases List.mem_cons.mp ha with rfl | ha
    · exact nb0
    · exact h.ns a ha
  · rw [upd_same, List.reverse_cons, List.map_append]
    rfl
  · cases j with
    | zero =>
      cases ej
      cases el
      exact ⟨[], (upd_ne bLV).trans upd_same, .nil⟩
    | succ j =>
      obtain ⟨xs, x1, x2⟩ := h.at_ j a t (by simpa using ej) (by simpa using el)
      have am : a ∈ as := List.mem_of_getElem? (by simpa using ej)
      exact ⟨xs, (upd_ne (show a ≠ LV from fun z => h.no (by rw [← z]; exact am))).trans ((upd_ne (ne_of_none x1 nb)).trans x1), up x2⟩
  · rcases List.mem_cons.mp ht with rfl | ht
    · exact Nat.zero_le _
    · exact Nat.le_succ_of_le (h.lt t ht)
/-- a level less -/
theorem Lvs.pop {H0 G : Hp} {LV a : Addr} {as : List Addr} {t : List PyData} {L : List (List PyData)} {n : Nat} (h : Lvs H0 G LV (a :: as) (t :: L) n) : Lvs H0 (upd G LV (.lst (as.reverse.map V.ref))) LV as L n := by
  have up : ∀ {xs : List V} {ds : List PyData}, TgA (fun x => x = LV ∨ x ∈ a :: as) G xs ds → TgA (fun x => x = LV ∨ x ∈ as) (upd G LV (.lst (as.reverse.map V.ref))) xs ds := fun g => g.kp
    (fun x xs nx e => ⟨(upd_ne fun z => nx (.inl z)).trans e, fun z => nx (z.imp id fun z => List.mem_cons_of_mem _ z)⟩) (fun x xs nx e => ⟨(upd_ne fun z => nx (.inl z)).trans e, fun z => nx (z.imp id fun z => List.mem_cons_of_mem _ z)⟩)
  have hn : LV ∉ as := fun z => h.no (List.mem_cons_of_mem _ z)
  refine ⟨same_newer h.kp h.n0, h.n0, fun b hb => h.ns b (List.mem_cons_of_mem _ hb), upd_same, by have := h.len; rw [List.length_cons, List.length_cons] at this; omega, (List.nodup_cons.mp h.nd).2, hn, fun j b u ej el => ?_, fun u hu => h.lt u (List.mem_cons_of_mem _ hu)⟩
  obtain ⟨xs, x1, x2⟩ := h.at_ (j + 1) b u (by simpa using ej) (by simpa using el)
  have bm : b ∈ as := List.mem_of_getElem? ej
  exact ⟨xs, (upd_ne (show b ≠ LV from fun z => hn (by rw [← z]; exact bm))).trans x1, up x2⟩
def sp_nested_from (_ : PySem.W.Frag) : Sp := fun vs H Q _ => ∃ (z : Str) (zs : List Str), vs = [.str z] ∧ z.length ≤ 1000000 ∧ Txt.split (Txt.replace (Txt.replace z "(" "( ") ")" " )") " " = zs ∧ (∀ x, x ∈ zs → PyData.strOk x = true ∧ x.length ≤ 1000000) ∧ zs.length ≤ 1000000 ∧
  (∀ H' v d, Same H H' → pres zs = some d → Tg (fun _ => False) H' v d → gd 21 d = true → d.depth ≤ 16 → Q v H') ∧ ∀ H', Same H H' → pres zs = none → Q .non H'
theorem prun_app : ∀ (as bs : List Str) (L : List (List PyData)), prun (as ++ bs) L = (prun as L).bind (prun bs)
  | [], bs, L => rfl
  | a :: as, bs, L => by
    show (if 8 < (pstep L a).length then none else prun (as ++ bs) (pstep L a)) = (if 8 < (pstep L a).length then none else prun as (pstep L a)).bind (prun bs)
    split
    · rfl
    · exact prun_app as bs _
theorem prun_snoc {as : List Str} {z : Str} {L L2 : List (List PyData)} (h : prun as L = some L2) : prun (as ++ [z]) L = if 8 < (pstep L2 z).length then none else some (pstep L2 z) := by
  rw [prun_app, h]
  rfl
theorem prun_none {as bs : List Str} {L : List (List PyData)} (h : prun as L = none) : prun (as ++ bs) L = none := by
  rw [prun_app, h]
  rfl
theorem rep_len {x y z : Str} : (Txt.replace x y z).length ≤ x.length + (x.length + 1) * z.length := TK.replace_len x y z
theorem ok_nested_from (T : Defs K mg) (TT : Tabs T base) : FnOk P w K mg base CX0 3 T.f_nested_from T.fd_nested_from ["text"] (sp_nested_from K) := by
  have G_shaped : FnOk P w K mg base CX0 1 T.f_shaped T.fd_shaped ["parts"] (sp_shaped K) := ok_shaped T TT
  have G_word_from : FnOk P w K mg base CX0 2 T.f_word_from T.fd_word_from ["text"] (sp_word_from K) := ok_word_from T TT
  refine okT T.F_nested_from sc_nested_from (by decide +kernel) (by decide) (fun vs H Q E h => ?_) (fun cdv A outer s H vs Q E hr h => ?_)
  · obtain ⟨z, zs, rfl, _⟩ := h
    rfl
  obtain ⟨z, zs, rfl, lz, ez, oz, nz, q1, q0⟩ := h
  have hsl : sizeLine = 16777216 := by decide
  refine ⟨_, psst_cons (pst_set (i := 1) sc_nested_from.nd rfl (.inl rfl) (pet_m1 PySem.F.slot_str_split PySem.F.type_str_split mt_split (CwR.pet_replT (CwR.pet_replC (pv 0)) (by decide +kernel)) pe_str)) (PSsT.of (PSs.nox (pss_cons (ps_set (i := 2) sc_nested_from.nd rfl (.inl rfl) (pe_lst (pa_cons (pe_lst pa_nil) pa_nil)))
    (pss_cons ((ps_for PassesOwn.never rfl (pi_list (pv 1)) (pg_name (i := 3) sc_nested_from.nd rfl (.inl rfl)) (pss_cons (ps_if (pt_cmpR op_eq (pv 3) pe_str (nomark _)) (pss_one (ps_expr (pe_bm PySem.F.plainAttrs_list PySem.F.slot_list_append PySem.F.type_list_append mt_append (pv 2) (pa_cons (pe_lst pa_nil) pa_nil)))) (pss_one (ps_if (PW.pt (pw_and (pt_cmpR op_eq (pv 3) pe_str (nomark _)) (pw_and1 (pt_cmpR op_gt (pe_callB call_len_seq (by rfl) T.m_len bt_len (pa_cons (pv 2) pa_nil)) pe_int (nomark _))))) (pss_cons (ps_set (i := 4) sc_nested_from.nd rfl (.inl rfl) (pe_call G_shaped (hr.mono (by decide)) (by rfl) T.g_shaped T.F_shaped.kp T.b_shaped .nil pass0 (pa_cons (pe_bm0 PySem.F.plainAttrs_list PySem.F.slot_list_pop PySem.F.type_list_pop mt_pop (pv 2)) pa_nil)))
    (pss_one (ps_expr (pe_bm PySem.F.plainAttrs_list PySem.F.slot_list_append PySem.F.type_list_append mt_append (pe_ix ix_list (pv 2) (pe_un un_neg pe_int) (fun _ _ => rfl)) (pa_cons (pv 4) pa_nil))))) (pss_one (ps_expr (pe_bm PySem.F.plainAttrs_list PySem.F.slot_list_append PySem.F.type_list_append mt_append (pe_ix ix_list (pv 2) (pe_un un_neg pe_int) (fun _ _ => rfl)) (pa_cons (pe_call G_word_from (hr.mono (by decide)) (by rfl) T.g_word_from T.F_word_from.kp T.b_word_from .nil pass0 (pa_cons (pv 3) pa_nil)) pa_nil)))))))
    (pss_one (ps_if (pt_cmpR op_gt (pe_callB call_len_seq (by rfl) T.m_len bt_len (pa_cons (pv 2) pa_nil)) (pe_globI (by rfl) T.i_DEEPEST) (nomark _)) (pss_one (ps_ret pe_non)) pss_nil)))))
    (pss_one (ps_ret (pe_ifExp (pt_cmpR op_eq (pe_callB call_len_seq (by rfl) T.m_len bt_len (pa_cons (pv 2) pa_nil)) pe_int (nomark _)) (pe_call G_shaped (hr.mono (by decide)) (by rfl) T.g_shaped T.F_shaped.kp T.b_shaped .nil pass0 (pa_cons (pe_ix ix_list (pv 2) pe_int (fun _ _ => rfl)) pa_nil)) pe_non))))))), ?_⟩
  have r1 := rep_len (x := z) (y := "(") (z := "( ")
  have r2 := rep_len (x := Txt.replace z "(" "( ") (y := ")") (z := " )")
  have l1 : (("( " : Str)).length = 2 := by decide +kernel
  have l2 : ((" )" : Str)).length = 2 := by decide +kernel
  rw [l1] at r1
  rw [l2] at r2
  refine ⟨_, rfl, z, rfl, by rw [l1]; omega, _, rfl, by rw [l2]; omega, ⟨_, rfl⟩, _, _, rfl, rfl, by decide +kernel, by omega, fun W nW => ?_⟩
  rw [ez]
  have sW := same_upd nW (o := .lst (zs.map V.str))
  have hW := upd_same (H := H) (a := W) (o := .lst (zs.map V.str))
  generalize upd H W (.lst (zs.map V.str)) = H0 at sW hW ⊢
  refine ⟨Nat.zero_le _, fun b0 nb0 => ⟨(show 1 ≤ sizeLine by decide), fun LV nLV => ?_⟩⟩
  have bLV : b0 ≠ LV := ne_of_none (upd_same (H := H0) (a := b0) (o := .lst [])) nLV
  have s0 := same_upd nb0 (o := .lst [])
  have nLV0 := s0.free nLV
  have s1 := same_upd nLV (o := .lst [.ref b0])
  have lv0 : Lvs H0 (upd (upd H0 b0 (.lst [])) LV (.lst [.ref b0])) LV [b0] [[]] 0 := ⟨s0.trans s1, nLV0, fun a ha => by rw [List.mem_singleton.mp ha]; exact nb0, upd_same, rfl, by simp, fun z => bLV (List.mem_singleton.mp z).symm, fun j a t ej el => by
    match j, ej, el with
    | 0, ej, el =>
      cases ej
      cases el
      exact ⟨[], s1 _ _ upd_same, .nil⟩, fun t ht => by rw [List.mem_singleton.mp ht]; exact Nat.le_refl 0⟩
  have ok0 : LvOk [[]] := ⟨by decide, fun j t e d hd => by
    match j, e with
    | 0, e => cases e; cases hd⟩
  generalize upd (upd H0 b0 (.lst [])) LV (.lst [.ref b0]) = H1 at lv0 ⊢
  clear s0 s1 nLV
  refine ⟨_, rfl, W, rfl, ⟨_, SqL.mk (lv0.kp _ _ hW)⟩, for_list (xs := zs.map V.str) (fun i σ G => ∃ y3 y4 L as, σ = [some (.str z), some (.ref W), some (.ref LV), y3, y4] ∧ prun (zs.take i) [[]] = some L ∧ LvOk L ∧ Lvs H0 G LV as L i ∧ 1 ≤ L.length) ⟨none, none, [[]], [b0], rfl, rfl, ok0, lv0, Nat.le_refl 1⟩ ?_ ?_ ?_⟩
  · rintro i σ G _ ⟨_, _, _, _, _, _, _, lv, _⟩
    exact SqL.mk (lv.kp _ _ hW)
  · rintro i x σ G hx ⟨y3, y4, L, as, rfl, hp, ok, lv, l1⟩
    rw [List.getElem?_map] at hx
    obtain ⟨w, hw, rfl⟩ := Option.map_eq_some_iff.mp hx
    obtain ⟨ow, lw⟩ := oz w (List.mem_of_getElem? hw)
    have il := (List.getElem?_eq_some_iff.mp hw).1
    have sn := prun_snoc (z := w) hp
    have et : zs.take (i + 1) = zs.take i ++ [w] := by rw [List.take_add_one, hw]; rfl
    rw [← et] at sn
    obtain ⟨t, r, rfl⟩ : ∃ t r, L = t :: r := by
      cases L with
      | nil => exact absurd l1 (by simp)
      | cons t r => exact ⟨t, r, rfl⟩
    obtain ⟨a, ar, rfl⟩ : ∃ a ar, as = a :: ar := by
      have := lv.len
      cases as with
      | nil => exact absurd this (by simp)
      | cons a ar => exact ⟨a, ar, rfl⟩
    have ok8 := ok.le
    have atL : ∀ (x : Addr) (xs : List Addr), atI ((x :: xs).reverse.map V.ref) (-1) = some (.ref x) := fun x xs => by
      rw [List.reverse_cons, List.map_append]
      exact atI_last _ _
    have lenR : ∀ xs : List Addr, (xs.reverse.map V.ref).length = xs.length := fun xs => by rw [List.length_map, List.length_reverse]
    have asl := lv.len
    rw [List.length_cons, List.length_cons] at asl
    rw [List.length_cons] at ok8
    have asl2 : ar.length = r.length := by omega
    clear asl
    obtain ⟨vs, ha, tvs⟩ := lv.at_ 0 a t rfl rfl
    have lvs : vs.length < sizeLine := by
      have := (TgA.getD tvs).1
      have := lv.lt t List.mem_cons_self
      omega
    have tw : Tg (fun b => b = LV ∨ b ∈ a :: ar) G (wordV w) (wordD w) := by
      unfold wordV wordD
      cases numF w with
      | none => exact .str w
      | some n => exact .int n
    obtain ⟨gw, dw⟩ := wordD_ok ow
    refine seq_via (fun σ G2 => ∃ y4' as2, σ = [some (.str z), some (.ref W), some (.ref LV), some (.str w), y4'] ∧ Lvs H0 G2 LV as2 (pstep (t :: r) w) (i + 1) ∧ 1 ≤ (pstep (t :: r) w).length ∧ ((pstep (t :: r) w).length ≤ 8 → LvOk (pstep (t :: r) w))) (fun NN key => ?_) ?_
    · refine ⟨_, rfl, rfl, _, rfl, ?_⟩
      by_cases e1 : w = "("
      · rw [show decide (V.str w = V.str "(") = true from decide_eq_true (congrArg V.str e1)]
        have ep : pstep (t :: r) w = [] :: t :: r := if_pos e1
        refine iteT ⟨_, rfl, .inl ⟨rfl, _, SqL.mk lv.lv⟩, Nat.zero_le _, fun b nb => ⟨LV, _, .ref b, rfl, rfl, (same_upd nb) _ _ lv.lv, by rw [lenR, List.length_cons]; omega, key _ _ ⟨y4, b :: a :: ar, rfl, ?_⟩⟩⟩
        rw [ep]
        exact ⟨lv.push nb, by simp, fun h => ok.push (by rw [List.length_cons] at h; omega)⟩
      · rw [show decide (V.str w = V.str "(") = false from decide_eq_false fun x => e1 (V.str.inj x)]
        refine iteF ⟨_, rfl, rfl, _, rfl, ?_⟩
        have els : pstep (t :: r) w = (t ++ [wordD w]) :: r → ∃ y4' as2, [some (V.str z), some (V.ref W), some (V.ref LV), some (V.str w), y4] = [some (.str z), some (.ref W), some (.ref LV), some (.str w), y4'] ∧ Lvs H0 (upd G a (.lst (vs ++ [wordV w]))) LV as2 (pstep (t :: r) w) (i + 1) ∧ 1 ≤ (pstep (t :: r) w).length ∧ ((pstep (t :: r) w).length ≤ 8 → LvOk (pstep (t :: r) w)) := fun e => by
          rw [e]
          exact ⟨y4, a :: ar, rfl, lv.put (Same.refl G) ha tw, by simp, fun _ => ok.word gw dw⟩
        by_cases e2 : w = ")"
        · rw [show decide (V.str w = V.str ")") = true from decide_eq_true (congrArg V.str e2)]
          refine iteT ⟨_, rfl, LV, _, rfl, .inl (SqL.mk lv.lv), _, _, rfl, rfl, _, rfl, ?_⟩
          rw [lenR]
          refine ite2 (fun e => ?_) (fun e => ?_)
          · have e : (1 : Int) < ((a :: ar).length : Nat) := of_decide_eq_true e
            have e : 1 < ar.length + 1 := by
              rw [List.length_cons] at e
              omega
            obtain ⟨u, r', rfl⟩ : ∃ u r', r = u :: r' := by
              cases r with
              | nil =>
                have : ar.length = 0 := asl2
                omega
              | cons u r' => exact ⟨u, r', rfl⟩
            obtain ⟨a1, ar, rfl⟩ : ∃ a1 ar', ar = a1 :: ar' := by
              cases ar with
              | nil =>
                have e : 1 < 0 + 1 := e
                omega
              | cons a1 ar' => exact ⟨a1, ar', rfl⟩
            have ep : pstep (t :: u :: r') w = (u ++ [shp t]) :: r' := by
              unfold pstep
              dsimp only
              rw [if_neg e1, if_pos e2]
            have ed : ((a :: a1 :: ar).reverse.map V.ref).dropLast = (a1 :: ar).reverse.map V.ref := by
              rw [List.reverse_cons, List.map_append]
              exact List.dropLast_concat
            have el : ((a :: a1 :: ar).reverse.map V.ref)[((a :: a1 :: ar).reverse.map V.ref).length - 1]? = some (.ref a) := by
              rw [lenR, List.reverse_cons, List.map_append, List.getElem?_append_right (by rw [lenR]; simp), lenR]
              simp
            have lp := lv.pop
            have exG : ∀ x, (x = LV ∨ x ∈ a :: a1 :: ar) → (upd G LV (.lst ((a1 :: ar).reverse.map V.ref))) x ≠ none := fun x hx => by
              by_cases c : x = LV
              · rw [c, upd_same]
                exact fun z => by cases z
              · rw [upd_ne c]
                exact lv.ex hx
            have aLV : a ≠ LV := fun z => lv.no (by rw [← z]; exact List.mem_cons_self)
            refine ⟨_, rfl, .inl ⟨rfl, _, SqL.mk lv.lv⟩, LV, _, .ref a, rfl, rfl, lv.lv, el, ?_⟩
            rw [ed]
            have tv2 : TgA (fun b => b = LV ∨ b ∈ a :: a1 :: ar) (upd G LV (.lst ((a1 :: ar).reverse.map V.ref))) vs t := tvs.kp (fun b xs nb e => ⟨(upd_ne fun z => nb (.inl z)).trans e, nb⟩) (fun b xs nb e => ⟨(upd_ne fun z => nb (.inl z)).trans e, nb⟩)
            refine ⟨a, _, vs, t, rfl, (upd_ne aLV).trans ha, tv2, exG, fun d hd => ?_, by have := lv.lt t List.mem_cons_self; omega, fun H' v sH tv => ?_⟩
            · have := ok.ok 0 t rfl d hd
              exact ⟨this.1, by omega⟩
            obtain ⟨ws, h1, h2⟩ := lp.at_ 0 a1 u rfl rfl
            have lws : ws.length < sizeLine := by
              have := (TgA.getD h2).1
              have := lp.lt u List.mem_cons_self
              omega
            refine ⟨_, rfl, _, rfl, LV, _, _, _, rfl, rfl, SqL.mk (sH _ _ lp.lv), atL _ _, .inl ⟨rfl, _, SqL.mk (sH _ _ h1)⟩, _, rfl, a1, _, _, rfl, rfl, sH _ _ h1, lws, key _ _ ⟨_, a1 :: ar, rfl, ?_⟩⟩
            rw [ep]
            exact ⟨lp.put sH (sH _ _ h1) (tv.kp (fun b xs nb e => ⟨e, fun z => nb (z.imp id fun z => List.mem_cons_of_mem _ z)⟩) (fun b xs nb e => ⟨e, fun z => nb (z.imp id fun z => List.mem_cons_of_mem _ z)⟩)), by simp, fun _ => ok.pop⟩
          · have r0 : r = [] := by
              cases r with
              | nil => rfl
              | cons u r' =>
                refine absurd (decide_eq_true (show (1 : Int) < ((a :: ar).length : Nat) from ?_)) e
                rw [List.length_cons] at asl2 ⊢
                omega
            have ep : pstep (t :: r) w = (t ++ [wordD w]) :: r := by
              rw [r0]
              unfold pstep
              dsimp only
              rw [if_neg e1, if_pos e2]
            exact ⟨_, rfl, _, rfl, LV, _, _, _, rfl, rfl, SqL.mk lv.lv, atL _ _, .inl ⟨rfl, _, SqL.mk ha⟩, _, rfl, w, rfl, lw, a, _, _, rfl, rfl, ha, lvs, key _ _ (els ep)⟩
        · rw [show decide (V.str w = V.str ")") = false from decide_eq_false fun x => e2 (V.str.inj x)]
          refine iteF ?_
          exact ⟨_, rfl, _, rfl, LV, _, _, _, rfl, rfl, SqL.mk lv.lv, atL _ _, .inl ⟨rfl, _, SqL.mk ha⟩, _, rfl, w, rfl, lw, a, _, _, rfl, rfl, ha, lvs, key _ _ (els (pstep_plain ⟨e1, e2⟩))⟩
    rintro σ G2 ⟨y4', as2, rfl, lv2, l2', ok2⟩
    have al2 := lv2.len
    refine ⟨_, rfl, LV, _, rfl, .inl (SqL.mk lv2.lv), _, _, rfl, rfl, _, rfl, ?_⟩
    rw [lenR, al2]
    refine ite2 (fun e => ?_) (fun e => ?_)
    · have e : (8 : Int) < ((pstep (t :: r) w).length : Nat) := of_decide_eq_true e
      have e : 8 < (pstep (t :: r) w).length := by omega
      rw [if_pos e] at sn
      refine q0 G2 (sW.trans lv2.kp) ?_
      have := prun_none (bs := zs.drop (i + 1)) sn
      rw [List.take_append_drop] at this
      unfold pres
      rw [this]
    · have e : ¬ 8 < (pstep (t :: r) w).length := fun z => e (decide_eq_true (by
        show (8 : Int) < ((pstep (t :: r) w).length : Nat)
        omega))
      rw [if_neg e] at sn
      exact ⟨_, _, _, as2, rfl, sn, ok2 (by omega), lv2, l2'⟩
  rintro σ G ⟨y3, y4, L, as, rfl, hp, ok, lv, l1⟩
  rw [List.length_map, List.take_length] at hp
  have lenR : ∀ xs : List Addr, (xs.reverse.map V.ref).length = xs.length := fun xs => by rw [List.length_map, List.length_reverse]
  have asl := lv.len
  refine ⟨_, rfl, LV, _, rfl, .inl (SqL.mk lv.lv), rfl, _, rfl, ?_⟩
  rw [lenR, asl]
  cases L with
  | nil => exact absurd l1 (by simp)
  | cons t r =>
    cases r with
    | nil =>
      obtain ⟨a, rfl⟩ : ∃ a, as = [a] := by
        match as, asl with
        | [a], _ => exact ⟨a, rfl⟩
      obtain ⟨vs, ha, tvs⟩ := lv.at_ 0 a t rfl rfl
      have ep : pres zs = some (shp t) := by
        unfold pres
        rw [hp]
      have h0 : ∀ d, d ∈ t → gd 21 d = true ∧ d.depth ≤ 14 := fun d hd => by
        have := ok.ok 0 t rfl d hd
        have e1 : [t].length = 1 := rfl
        rw [e1] at this
        exact ⟨this.1, by omega⟩
      obtain ⟨g1, g2⟩ := shp_ok h0
      rw [show decide (V.int (([t].length : Nat) : Int) = V.int 1) = true from decide_eq_true rfl]
      refine iteT ⟨_, rfl, LV, _, _, _, rfl, rfl, SqL.mk lv.lv, atI_nat (j := 0) rfl, a, _, vs, t, rfl, ha, tvs, fun x hx => lv.ex hx, fun d hd => ⟨(h0 d hd).1, by have := (h0 d hd).2; omega⟩, by have := lv.lt t List.mem_cons_self; rw [List.length_map] at this; omega, fun H' v sH tv => q1 H' v _ (sW.trans (lv.kp.trans sH)) ep (tv.kp (fun b xs nb e => ⟨e, id⟩) (fun b xs nb e => ⟨e, id⟩)) g1 g2⟩
    | cons u r =>
      have ep : pres zs = none := by
        unfold pres
        rw [hp]
      rw [show decide (V.int (((t :: u :: r).length : Nat) : Int) = V.int 1) = false from decide_eq_false fun z => by
        have := V.int.inj z
        rw [List.length_cons, List.length_cons] at this
        omega]
      exact iteF (q0 G (sW.trans lv.kp) ep)
/-! tables, words, what is written beside -/
mutual
/-- tables hold numbers only -/
def Nt.Tb : Nt → Prop
  | .num _ => True
  | .node w ts => (w = "table" → ∀ t, t ∈ ts → ∃ n, t = .num n) ∧ Nt.Tbs ts
def Nt.Tbs : List Nt → Prop
  | [] => True
  | t :: ts => t.Tb ∧ Nt.Tbs ts
end
theorem tbs_mem : ∀ {ts : List Nt} {t : Nt}, Nt.Tbs ts → t ∈ ts → t.Tb
  | [], _, _, h => by cases h
  | x :: ts, t, h, hm => by
    have ok : x.Tb ∧ Nt.Tbs ts := by simpa only [Nt.Tbs] using h
    rcases List.mem_cons.mp hm with rfl | hm
    · exact ok.1
    · exact tbs_mem ok.2 hm
/-! the words are short and plain -/
theorem strOk_of {x : Str} (h : ∀ c, c ∈ TL.tl x → c < 200) : PyData.strOk x = true := by
  unfold PyData.strOk
  rw [Array.all_eq_true_iff_forall_mem]
  intro c hc
  have := h c (Array.mem_toList_iff.mpr hc)
  exact decide_eq_true (by omega)
mutual
theorem ptk_ok : ∀ {t : Nt}, t.Ok → (∀ x, x ∈ t.ptk → PyData.strOk x = true ∧ x.length ≤ t.wt) ∧ t.ptk.length ≤ t.wt
  | .num n, h => by
    have h : n < 1000 := by simpa only [Nt.Ok] using h
    have l := digs_len h
    refine ⟨fun x hx => ?_, by show 1 ≤ 4; decide⟩
    have hx : x ∈ [digs n] := hx
    rw [List.mem_singleton.mp hx]
    refine ⟨strOk_of fun c hc => ?_, by show _ ≤ 4; omega⟩
    rw [digs_tl] at hc
    have := TL.numL_digits n c hc
    omega
  | .node w ts, h => by
    have ok : WdOk w ∧ Nt.Oks ts := by simpa only [Nt.Ok] using h
    obtain ⟨a, b⟩ := ptks_ok ok.2
    have ew : (Nt.node w ts).wt = w.length + 4 + Nt.wts ts := rfl
    have ep : (Nt.node w ts).ptk = ("(" : Str) :: w :: (Nt.ptks ts ++ [(")" : Str)]) := rfl
    have l1 : (("(" : Str)).length = 1 := by decide +kernel
    have l2 : ((")" : Str)).length = 1 := by decide +kernel
    refine ⟨fun x hx => ?_, ?_⟩
    · rw [ep] at hx
      rw [ew]
      rcases List.mem_cons.mp hx with rfl | hx
      · exact ⟨by decide +kernel, by rw [l1]; omega⟩
      rcases List.mem_cons.mp hx with rfl | hx
      · exact ⟨strOk_of fun c hc => by have := ok.1.2 c hc; omega, by omega⟩
      rcases List.mem_append.mp hx with hx | hx
      · have := a x hx
        exact ⟨this.1, by omega⟩
      · rw [List.mem_singleton.mp hx]
        exact ⟨by decide +kernel, by rw [l2]; omega⟩
    · rw [ep, ew, List.length_cons, List.length_cons, List.length_append, List.length_singleton]
      omega
theorem ptks_ok : ∀ {ts : List Nt}, Nt.Oks ts → (∀ x, x ∈ Nt.ptks ts → PyData.strOk x = true ∧ x.length ≤ Nt.wts ts) ∧ (Nt.ptks ts).length ≤ Nt.wts ts
  | [], _ => ⟨fun x hx => (by cases hx), Nat.le_refl 0⟩
  | t :: ts, h => by
    have ok : t.Ok ∧ Nt.Oks ts := by simpa only [Nt.Oks] using h
    obtain ⟨a1, b1⟩ := ptk_ok ok.1
    obtain ⟨a2, b2⟩ := ptks_ok ok.2
    have ew : Nt.wts (t :: ts) = t.wt + 1 + Nt.wts ts := rfl
    have ep : Nt.ptks (t :: ts) = t.ptk ++ Nt.ptks ts := rfl
    refine ⟨fun x hx => ?_, by rw [ep, ew, List.length_append]; omega⟩
    rw [ep] at hx
    rw [ew]
    rcases List.mem_append.mp hx with hx | hx
    · have := a1 x hx
      exact ⟨this.1, by omega⟩
    · have := a2 x hx
      exact ⟨this.1, by omega⟩
end
theorem join_snoc {xs : List Str} {y : Str} (h : xs ≠ []) : Txt.join " " (xs ++ [y]) = Txt.join " " xs ++ " " ++ y := by
  refine TL.ext_tl ?_
  rw [TL.tl_append, TL.tl_append, tl_join32, tl_join32, List.map_append, join_app (fun z => h (List.map_eq_nil_iff.mp z)) (by simp), List.append_assoc]
  rfl
theorem sum_take (f : Str → Nat) : ∀ (l : List Str) (i : Nat), ((l.take i).map f).sum ≤ (l.map f).sum
  | [], _ => by rw [List.take_nil]; exact Nat.le_refl _
  | x :: l, 0 => Nat.zero_le _
  | x :: l, i + 1 => by
    have := sum_take f l i
    rw [List.take_succ_cons, List.map_cons, List.map_cons, List.sum_cons, List.sum_cons]
    omega
theorem acc_len {w : Str} {ts : List Nt} (h : Nt.Oks ts) (i : Nat) : (Txt.join " " (w :: (Nt.ptxs ts).take i)).length ≤ w.length + 1 + Nt.wts ts := by
  have a := ptxs_len h
  have b := join_len (w :: (Nt.ptxs ts).take i)
  have c := sum_take (·.length) (Nt.ptxs ts) i
  rw [List.map_cons, List.sum_cons, List.length_cons, List.length_take] at b
  omega
theorem joinL_nil : ∀ xs : List (List Nat), TL.joinL [] xs = xs.flatten
  | [] => rfl
  | [p] => by rw [List.flatten_cons, List.flatten_nil, List.append_nil]; rfl
  | p :: q :: r => by
    show p ++ ([] ++ TL.joinL [] (q :: r)) = p ++ (q :: r).flatten
    rw [List.nil_append, joinL_nil (q :: r)]
theorem joinL_32 (p : List Nat) : ∀ xs : List (List Nat), TL.joinL [32] (p :: xs) = p ++ (xs.map fun x => 32 :: x).flatten
  | [] => by simp [TL.joinL]
  | q :: r => by
    show p ++ ([32] ++ TL.joinL [32] (q :: r)) = _
    rw [joinL_32 q r, List.map_cons, List.flatten_cons]
    rfl
theorem tbl_txt (w : Str) (ts : List Nt) : w ++ Txt.join "" (ts.map fun t => (" " : Str) ++ t.ptx) = ntx w ts := by
  refine TL.ext_tl ?_
  unfold ntx
  rw [TL.tl_append, tl_join32, List.map_cons, joinL_32, TL.join_eq, TL.tl_join, ptxs_map]
  show _ ++ TL.joinL [] _ = _
  rw [joinL_nil, List.map_map, List.map_map, List.map_map]
  congr 2
  refine List.map_inj_left.mpr fun t _ => ?_
  show TL.tl ((" " : Str) ++ t.ptx) = 32 :: TL.tl t.ptx
  rw [TL.tl_append]
  rfl
theorem tbl_sum : ∀ {ts : List Nt}, Nt.Oks ts → ((ts.map fun t => (" " : Str) ++ t.ptx).map (·.length)).sum ≤ Nt.wts ts
  | [], _ => Nat.le_refl 0
  | t :: ts, h => by
    have ok : t.Ok ∧ Nt.Oks ts := by simpa only [Nt.Oks] using h
    have a := ptx_len ok.1
    have b := tbl_sum ok.2
    have e : ((" " : Str) ++ t.ptx).length = 1 + t.ptx.length := by
      rw [TL.len_tl, TL.tl_append, List.length_append, ← TL.len_tl t.ptx]
      rfl
    rw [List.map_cons, List.map_cons, List.sum_cons, e]
    show _ ≤ t.wt + 1 + Nt.wts ts
    omega
/-! makers as nested texts -/
def Mk.nt : Mk → Nt
  | .counter r s t => .node "counter" [.num r, .num s, .num t]
  | .table ns => .node "table" (ns.map fun n => .num n.toNat)
  | .turned w s => .node "turned" [.num w, .num s]
  | .register w p s => .node "register" [.num w, .num p, .num s]
  | .slow n m => .node "slow" [.num n, m.nt]
  | .slip n m => .node "slip" [.num n, m.nt]
  | .late n m => .node "late" [.num n, m.nt]
theorem wdOk_of {w : Str} (h : w ≠ "") (g : ((TL.tl w).all fun c => decide (97 ≤ c) && decide (c ≤ 122)) = true) : WdOk w := ⟨h, fun c hc => by
  have := List.all_eq_true.mp g c hc
  rw [Bool.and_eq_true, decide_eq_true_eq, decide_eq_true_eq] at this
  exact this⟩
theorem wo_counter : WdOk "counter" := wdOk_of (by decide +kernel) (by decide +kernel)
theorem wo_table : WdOk "table" := wdOk_of (by decide +kernel) (by decide +kernel)
theorem wo_turned : WdOk "turned" := wdOk_of (by decide +kernel) (by decide +kernel)
theorem wo_register : WdOk "register" := wdOk_of (by decide +kernel) (by decide +kernel)
theorem wo_slow : WdOk "slow" := wdOk_of (by decide +kernel) (by decide +kernel)
theorem wo_slip : WdOk "slip" := wdOk_of (by decide +kernel) (by decide +kernel)
theorem wo_late : WdOk "late" := wdOk_of (by decide +kernel) (by decide +kernel)
theorem node_data {w : Str} {ts : List Nt} (h : w ≠ "table") : (Nt.node w ts).data = .tuple (.str w :: Nt.datas ts) := by
  show (if w = "table" then _ else _) = _
  rw [if_neg h]
theorem tbl_data (ts : List Nt) : (Nt.node "table" ts).data = .tuple [.str "table", .tuple (Nt.datas ts)] := by
  show (if ("table" : Str) = "table" then PyData.tuple [.str "table", .tuple (Nt.datas ts)] else .tuple (.str "table" :: Nt.datas ts)) = _
  rw [if_pos rfl]
theorem mnt_data : ∀ {m : Mk}, m.Ok → m.nt.data = mkd m
  | .counter r s t, _ => node_data (by decide +kernel)
  | .turned w s, _ => node_data (by decide +kernel)
  | .register w p s, _ => node_data (by decide +kernel)
  | .table ns, ok => by
    obtain ⟨_, _, h⟩ : 1 ≤ ns.length ∧ ns.length ≤ 64 ∧ ∀ x, x ∈ ns → 0 ≤ x ∧ x ≤ 63 := ok
    show (Nt.node "table" _).data = _
    rw [tbl_data, datas_map, List.map_map]
    have e : ns.map (Nt.data ∘ fun n => Nt.num n.toNat) = ns.map PyData.int := List.map_inj_left.mpr fun n hn => by
      show PyData.int ((n.toNat : Nat) : Int) = .int n
      have := h n hn
      exact congrArg PyData.int (by omega)
    rw [e]
    rfl
  | .slow n m, ok => by
    show (Nt.node "slow" [.num n, m.nt]).data = _
    rw [node_data (by decide +kernel)]
    show PyData.tuple [.str "slow", .int (n : Nat), m.nt.data] = _
    rw [mnt_data ok.2.2]
    rfl
  | .slip n m, ok => by
    show (Nt.node "slip" [.num n, m.nt]).data = _
    rw [node_data (by decide +kernel)]
    show PyData.tuple [.str "slip", .int (n : Nat), m.nt.data] = _
    rw [mnt_data ok.2.2]
    rfl
  | .late n m, ok => by
    show (Nt.node "late" [.num n, m.nt]).data = _
    rw [node_data (by decide +kernel)]
    show PyData.tuple [.str "late", .int (n : Nat), m.nt.data] = _
    rw [mnt_data ok.2]
    rfl
theorem nums_oks : ∀ {ns : List Int}, (∀ x, x ∈ ns → 0 ≤ x ∧ x ≤ 63) → Nt.Oks (ns.map fun n => Nt.num n.toNat) ∧ Nt.deps (ns.map fun n => Nt.num n.toNat) = 0 ∧ Nt.wts (ns.map fun n => Nt.num n.toNat) = 5 * ns.length ∧ Nt.Tbs (ns.map fun n => Nt.num n.toNat)
  | [], _ => ⟨trivial, rfl, rfl, trivial⟩
  | n :: ns, h => by
    obtain ⟨a, b, c, d⟩ := nums_oks fun x hx => h x (List.mem_cons_of_mem _ hx)
    have := h n List.mem_cons_self
    rw [List.map_cons]
    refine ⟨?_, ?_, ?_, ?_⟩
    · show Nt.Ok (.num n.toNat) ∧ _
      exact ⟨by simp only [Nt.Ok]; omega, a⟩
    · show max 0 _ = 0
      rw [b]
      rfl
    · show 4 + 1 + _ = _
      rw [c, List.length_cons]
      omega
    · show Nt.Tb (.num n.toNat) ∧ _
      exact ⟨trivial, d⟩
theorem len_mk : ("counter" : Str).length ≤ 8 ∧ ("table" : Str).length ≤ 8 ∧ ("turned" : Str).length ≤ 8 ∧ ("register" : Str).length ≤ 8 ∧ ("slow" : Str).length ≤ 8 ∧ ("slip" : Str).length ≤ 8 ∧ ("late" : Str).length ≤ 8 := by decide +kernel
theorem mnt_is : ∀ {m : Mk}, m.Ok → m.nt.Ok ∧ m.nt.dep = m.dep + 1 ∧ m.nt.wt ≤ 400 + 20 * m.dep ∧ m.nt.Tb
  | .counter r s t, ok => by
    obtain ⟨h1, h2, h3, h4⟩ : 1 ≤ r ∧ r ≤ 64 ∧ s ≤ 64 ∧ t < r := ok
    have := len_mk
    simp only [Mk.nt, Nt.Ok, Nt.Oks, Nt.dep, Nt.deps, Nt.wt, Nt.wts, Nt.Tb, Nt.Tbs, Mk.dep]
    exact ⟨⟨wo_counter, by omega, by omega, by omega, trivial⟩, by omega, by omega, fun z => absurd z (by decide +kernel), trivial, trivial, trivial, trivial⟩
  | .turned w s, ok => by
    obtain ⟨h1, h2, h3⟩ : 1 ≤ w ∧ w ≤ 6 ∧ s < 2 ^ w := ok
    have p := Nat.pow_le_pow_right (n := 2) (by decide) h2
    have := len_mk
    simp only [Mk.nt, Nt.Ok, Nt.Oks, Nt.dep, Nt.deps, Nt.wt, Nt.wts, Nt.Tb, Nt.Tbs, Mk.dep]
    exact ⟨⟨wo_turned, by omega, by omega, trivial⟩, by omega, by omega, fun z => absurd z (by decide +kernel), trivial, trivial, trivial⟩
  | .register w q s, ok => by
    obtain ⟨⟨g1, g2, g3, g4⟩, h1, h2⟩ : RgW w q ∧ 1 ≤ s ∧ s < 2 ^ w := ok
    have p := Nat.pow_le_pow_right (n := 2) (by decide) g2
    have := len_mk
    simp only [Mk.nt, Nt.Ok, Nt.Oks, Nt.dep, Nt.deps, Nt.wt, Nt.wts, Nt.Tb, Nt.Tbs, Mk.dep]
    exact ⟨⟨wo_register, by omega, by omega, by omega, trivial⟩, by omega, by omega, fun z => absurd z (by decide +kernel), trivial, trivial, trivial, trivial⟩
  | .table ns, ok => by
    obtain ⟨h1, h2, h3⟩ : 1 ≤ ns.length ∧ ns.length ≤ 64 ∧ ∀ x, x ∈ ns → 0 ≤ x ∧ x ≤ 63 := ok
    obtain ⟨a, b, c, d⟩ := nums_oks h3
    have := len_mk
    simp only [Mk.nt, Nt.Ok, Nt.dep, Nt.wt, Nt.Tb, Mk.dep, b, c]
    refine ⟨⟨wo_table, a⟩, trivial, by omega, fun _ t ht => ?_, d⟩
    obtain ⟨n, _, rfl⟩ := List.mem_map.mp ht
    exact ⟨_, rfl⟩
  | .slow n m, ok => by
    obtain ⟨h1, h2, h3⟩ : 1 ≤ n ∧ n ≤ 64 ∧ m.Ok := ok
    obtain ⟨a, b, c, d⟩ := mnt_is h3
    have := len_mk
    simp only [Mk.nt, Nt.Ok, Nt.Oks, Nt.dep, Nt.deps, Nt.wt, Nt.wts, Nt.Tb, Nt.Tbs, Mk.dep]
    exact ⟨⟨wo_slow, by omega, a, trivial⟩, by omega, by omega, fun z => absurd z (by decide +kernel), trivial, d, trivial⟩
  | .slip n m, ok => by
    obtain ⟨h1, h2, h3⟩ : 1 ≤ n ∧ n ≤ 64 ∧ m.Ok := ok
    obtain ⟨a, b, c, d⟩ := mnt_is h3
    have := len_mk
    simp only [Mk.nt, Nt.Ok, Nt.Oks, Nt.dep, Nt.deps, Nt.wt, Nt.wts, Nt.Tb, Nt.Tbs, Mk.dep]
    exact ⟨⟨wo_slip, by omega, a, trivial⟩, by omega, by omega, fun z => absurd z (by decide +kernel), trivial, d, trivial⟩
  | .late n m, ok => by
    obtain ⟨h2, h3⟩ : n ≤ 64 ∧ m.Ok := ok
    obtain ⟨a, b, c, d⟩ := mnt_is h3
    have := len_mk
    simp only [Mk.nt, Nt.Ok, Nt.Oks, Nt.dep, Nt.deps, Nt.wt, Nt.wts, Nt.Tb, Nt.Tbs, Mk.dep]
    exact ⟨⟨wo_late, by omega, a, trivial⟩, by omega, by omega, fun z => absurd z (by decide +kernel), trivial, d, trivial⟩
def Nt.wd : Nt → Str
  | .node w _ => w
  | _ => ""
def Nt.sub : Nt → List Nt
  | .node _ ts => ts
  | _ => []
theorem mnt_node (m : Mk) : m.nt = .node m.nt.wd m.nt.sub := by cases m <;> rfl
/-- what is written of it -/
def Mk.txt (m : Mk) : Str := ntx m.nt.wd m.nt.sub
/-! texts of rows and makers -/
structure GdM (m : Mk) : Prop where
  ok : m.Ok
  vd : m.inn.Vd
  dp : m.dep ≤ 3
  rn : m.rnd ≤ 4096
theorem GdM.is {m : Mk} (h : GdM m) : isMkD (mkd m) := ⟨m, rfl, h.ok, h.vd, h.dp, h.rn⟩
theorem GdM.sho {m : Mk} (h : GdM m) : Sho (mkd m) := ((mkd_bd h.ok).mono (Nat.le_refl _) (by have := h.dp; show m.dep + 2 ≤ 20; omega) (by have := h.dp; show 6000 + 100 * m.dep ≤ 60000; omega)).shs.sho (by decide) (by decide) (by decide) (by decide)
theorem GdM.nt {m : Mk} (h : GdM m) : ∃ w ts, m.nt = .node w ts ∧ m.txt = ntx w ts ∧ (Nt.node w ts).data = mkd m ∧ (Nt.node w ts).Ok ∧ (Nt.node w ts).dep ≤ 8 ∧ (Nt.node w ts).wt ≤ 1000000 ∧ (Nt.node w ts).Tb := by
  have en := mnt_node m
  have ed := mnt_data h.ok
  obtain ⟨a, b, c, d⟩ := mnt_is h.ok
  have := h.dp
  refine ⟨m.nt.wd, m.nt.sub, en, rfl, ?_⟩
  rw [← en]
  exact ⟨ed, a, by omega, by omega, d⟩
theorem tgm_ref {p : Addr → Prop} {H : Hp} {v : V} {m : Mk} (h : Tg p H v (mkd m)) : ∃ a, v = .ref a := by
  cases m <;> (cases h; exact ⟨_, rfl⟩)
/-- a row's text -/
def bitS (b : Int) : Str := digs b.toNat
def rowS (bs : List Int) : Str := Txt.join "" (bs.map bitS)
theorem tl_bit {b : Int} (h : b = 0 ∨ b = 1) : TL.tl (bitS b) = [48 + b.toNat] := by
  unfold bitS
  rw [digs_tl]
  rcases h with rfl | rfl <;> rfl
theorem tl_rowS : ∀ {bs : List Int}, Bits bs → TL.tl (rowS bs) = bs.map fun b => 48 + b.toNat
  | bs, h => by
    unfold rowS
    rw [TL.join_eq, TL.tl_join]
    show TL.joinL [] _ = _
    rw [joinL_nil, List.map_map]
    induction bs with
    | nil => rfl
    | cons b bs ih =>
      rw [List.map_cons, List.flatten_cons, ih fun x hx => h x (List.mem_cons_of_mem _ hx), List.map_cons]
      show TL.tl (bitS b) ++ _ = _
      rw [tl_bit (h b List.mem_cons_self)]
      rfl
theorem rowS_len {bs : List Int} (h : Bits bs) : (rowS bs).length = bs.length := by
  rw [TL.len_tl, tl_rowS h, List.length_map]
theorem Bits.take' {bs : List Int} (h : Bits bs) (i : Nat) : Bits (bs.take i) := fun x hx => h x (List.mem_of_mem_take hx)
theorem rowS_snoc {bs : List Int} {i : Nat} {b : Int} (h : Bits bs) (e : bs[i]? = some b) : rowS (bs.take i) ++ bitS b = rowS (bs.take (i + 1)) := by
  refine TL.ext_tl ?_
  rw [TL.tl_append, tl_rowS (h.take' i), tl_rowS (h.take' (i + 1)), tl_bit (h b (List.mem_of_getElem? e)), List.take_add_one, e, List.map_append]
  rfl
theorem bit_sign {b : Int} (h : b = 0 ∨ b = 1) : bitS b = ⟨#[48 + b.toNat]⟩ := by
  refine TL.ext_tl ?_
  rw [tl_bit h]
theorem sign_word {b : Int} (h : b = 0 ∨ b = 1) : wordV (⟨#[48 + b.toNat]⟩ : Str) = .int b := by
  rw [← bit_sign h]
  unfold wordV bitS
  rw [numF_digs (by omega)]
  show V.int ((b.toNat : Nat) : Int) = _
  exact congrArg V.int (by omega)
theorem bits_row {bs : List Int} (h : Bits bs) (l1 : 1 ≤ bs.length) (l2 : bs.length ≤ 4096) : isRowD (.tuple (bs.map PyData.int)) = true := by
  show (decide (1 ≤ (bs.map PyData.int).length ∧ (bs.map PyData.int).length ≤ 4096) && (bs.map PyData.int).all fun x => withinD x 0 1) = true
  rw [List.length_map, decide_eq_true ⟨l1, l2⟩, Bool.true_and, List.all_eq_true]
  intro x hx
  obtain ⟨b, hb, rfl⟩ := List.mem_map.mp hx
  rcases h b hb with rfl | rfl <;> rfl
/-! formulas -/
inductive Fm where
  | inp (i : Nat)
  | less (f : Fm)
  | both (f g : Fm)
  | either (f g : Fm)
  | oneof (f g : Fm)
  | pick (f g h : Fm)
namespace Fm
def word : Fm → Str
  | inp _ => "in"
  | less _ => "less"
  | both _ _ => "both"
  | either _ _ => "either"
  | oneof _ _ => "oneof"
  | pick _ _ _ => "pick"
def sds : Fm → List Fm
  | inp _ => []
  | less f => [f]
  | both f g => [f, g]
  | either f g => [f, g]
  | oneof f g => [f, g]
  | pick f g h => [f, g, h]
def dep : Fm → Nat
  | inp _ => 1
  | less f => f.dep + 1
  | both f g => max f.dep g.dep + 1
  | either f g => max f.dep g.dep + 1
  | oneof f g => max f.dep g.dep + 1
  | pick f g h => max f.dep (max g.dep h.dep) + 1
def sz : Fm → Nat
  | inp _ => 1
  | less f => f.sz + 1
  | both f g => f.sz + g.sz + 1
  | either f g => f.sz + g.sz + 1
  | oneof f g => f.sz + g.sz + 1
  | pick f g h => f.sz + g.sz + h.sz + 1
def ins : Fm → List Nat
  | inp i => [i]
  | less f => f.ins
  | both f g => f.ins ++ g.ins
  | either f g => f.ins ++ g.ins
  | oneof f g => f.ins ++ g.ins
  | pick f g h => f.ins ++ (g.ins ++ h.ins)
theorem sz_pos (f : Fm) : 1 ≤ f.sz := by
  cases f <;> simp [sz]
theorem dep_pos (f : Fm) : 1 ≤ f.dep := by
  cases f <;> simp [dep]
theorem ins_len : ∀ f : Fm, 1 ≤ f.ins.length ∧ f.ins.length ≤ f.sz
  | inp i => ⟨Nat.le_refl 1, Nat.le_refl 1⟩
  | less f => by
    have := ins_len f
    simp only [ins, sz]
    omega
  | both f g => by
    have := ins_len f
    have := ins_len g
    simp only [ins, sz, List.length_append]
    omega
  | either f g => by
    have := ins_len f
    have := ins_len g
    simp only [ins, sz, List.length_append]
    omega
  | oneof f g => by
    have := ins_len f
    have := ins_len g
    simp only [ins, sz, List.length_append]
    omega
  | pick f g h => by
    have := ins_len f
    have := ins_len g
    have := ins_len h
    simp only [ins, sz, List.length_append]
    omega
theorem sds_dep {f g : Fm} (h : g ∈ f.sds) : g.dep < f.dep ∧ g.sz < f.sz := by
  cases f <;> simp only [sds, List.mem_cons, List.not_mem_nil, or_false] at h
  · subst h
    simp only [dep, sz]
    omega
  all_goals
    simp only [dep, sz]
    rcases h with rfl | h
    · omega
  · subst h; omega
  · subst h; omega
  · subst h; omega
  · rcases h with rfl | rfl <;> omega
theorem sds_ins {f : Fm} (h : f.word ≠ "in") : (f.sds.map ins).flatten = f.ins := by
  cases f with
  | inp i => exact absurd rfl h
  | _ => simp [sds, ins]
theorem sds_mem {f g : Fm} {i : Nat} (h : g ∈ f.sds) (hi : i ∈ g.ins) : i ∈ f.ins := by
  cases f <;> simp only [sds, List.mem_cons, List.not_mem_nil, or_false] at h
  · subst h
    exact hi
  all_goals
    simp only [ins, List.mem_append]
  · rcases h with rfl | rfl
    · exact .inl hi
    · exact .inr hi
  · rcases h with rfl | rfl
    · exact .inl hi
    · exact .inr hi
  · rcases h with rfl | rfl
    · exact .inl hi
    · exact .inr hi
  · rcases h with rfl | rfl | rfl
    · exact .inl hi
    · exact .inr (.inl hi)
    · exact .inr (.inr hi)
end Fm
def FmAt (H : Hp) : Fm → V → Prop
  | .inp i, v => ∃ a, v = .ref a ∧ H a = some (.tup [.str "in", .int (i : Nat)])
  | .less f, v => ∃ a u, v = .ref a ∧ H a = some (.tup [.str "less", u]) ∧ FmAt H f u
  | .both f g, v => ∃ a u x, v = .ref a ∧ H a = some (.tup [.str "both", u, x]) ∧ FmAt H f u ∧ FmAt H g x
  | .either f g, v => ∃ a u x, v = .ref a ∧ H a = some (.tup [.str "either", u, x]) ∧ FmAt H f u ∧ FmAt H g x
  | .oneof f g, v => ∃ a u x, v = .ref a ∧ H a = some (.tup [.str "oneof", u, x]) ∧ FmAt H f u ∧ FmAt H g x
  | .pick f g h, v => ∃ a u x y, v = .ref a ∧ H a = some (.tup [.str "pick", u, x, y]) ∧ FmAt H f u ∧ FmAt H g x ∧ FmAt H h y
theorem FmAt.keep {H H' : Hp} (k : ∀ a xs, H a = some (.tup xs) → H' a = some (.tup xs)) : ∀ {f : Fm} {v : V}, FmAt H f v → FmAt H' f v
  | .inp i, v, ⟨a, e, h⟩ => ⟨a, e, k _ _ h⟩
  | .less f, v, ⟨a, u, e, h, h1⟩ => ⟨a, u, e, k _ _ h, FmAt.keep k h1⟩
  | .both f g, v, ⟨a, u, x, e, h, h1, h2⟩ => ⟨a, u, x, e, k _ _ h, FmAt.keep k h1, FmAt.keep k h2⟩
  | .either f g, v, ⟨a, u, x, e, h, h1, h2⟩ => ⟨a, u, x, e, k _ _ h, FmAt.keep k h1, FmAt.keep k h2⟩
  | .oneof f g, v, ⟨a, u, x, e, h, h1, h2⟩ => ⟨a, u, x, e, k _ _ h, FmAt.keep k h1, FmAt.keep k h2⟩
  | .pick f g h, v, ⟨a, u, x, y, e, h0, h1, h2, h3⟩ => ⟨a, u, x, y, e, k _ _ h0, FmAt.keep k h1, FmAt.keep k h2, FmAt.keep k h3⟩
theorem FmAt.same {H H' : Hp} {f : Fm} {v : V} (h : FmAt H f v) (s : Same H H') : FmAt H' f v := h.keep fun _ _ e => s _ _ e
theorem FmAt.but {H H' : Hp} {f : Fm} {v : V} {p : Addr} {n : Nat} (h : FmAt H f v) (B : Bx H p n) (s : But p H H') : FmAt H' f v := h.keep fun _ _ e => s _ _ (B.ne_tup e) e
/-- the sides of a part, as they stand -/
def FsAt (H : Hp) (fs : List Fm) (us : List V) : Prop := us.length = fs.length ∧ ∀ (i : Nat) (f : Fm) (u : V), fs[i]? = some f → us[i]? = some u → FmAt H f u
theorem FsAt.keep {H H' : Hp} {fs : List Fm} {us : List V} (h : FsAt H fs us) (k : ∀ a xs, H a = some (.tup xs) → H' a = some (.tup xs)) : FsAt H' fs us := ⟨h.1, fun i f u e1 e2 => (h.2 i f u e1 e2).keep k⟩
theorem FsAt.same {H H' : Hp} {fs : List Fm} {us : List V} (h : FsAt H fs us) (s : Same H H') : FsAt H' fs us := h.keep fun _ _ e => s _ _ e
theorem FmAt.shape {H : Hp} {f : Fm} {v : V} (h : FmAt H f v) : (∃ i a, f = .inp i ∧ v = .ref a ∧ H a = some (.tup [.str "in", .int (i : Nat)])) ∨ ∃ a us, v = .ref a ∧ H a = some (.tup (.str f.word :: us)) ∧ f.word ≠ "in" ∧ FsAt H f.sds us := by
  cases f with
  | inp i =>
    obtain ⟨a, e, h⟩ := h
    exact .inl ⟨i, a, rfl, e, h⟩
  | less f =>
    obtain ⟨a, u, e, h, h1⟩ := h
    refine .inr ⟨a, [u], e, h, by simp only [Fm.word]; decide +kernel, rfl, fun i g x e1 e2 => ?_⟩
    match i with
    | 0 => cases e1; cases e2; exact h1
    | i + 1 => cases e1
  | both f g =>
    obtain ⟨a, u, x, e, h, h1, h2⟩ := h
    refine .inr ⟨a, [u, x], e, h, by simp only [Fm.word]; decide +kernel, rfl, fun i g x e1 e2 => ?_⟩
    match i with
    | 0 => cases e1; cases e2; exact h1
    | 1 => cases e1; cases e2; exact h2
    | i + 2 => cases e1
  | either f g =>
    obtain ⟨a, u, x, e, h, h1, h2⟩ := h
    refine .inr ⟨a, [u, x], e, h, by simp only [Fm.word]; decide +kernel, rfl, fun i g x e1 e2 => ?_⟩
    match i with
    | 0 => cases e1; cases e2; exact h1
    | 1 => cases e1; cases e2; exact h2
    | i + 2 => cases e1
  | oneof f g =>
    obtain ⟨a, u, x, e, h, h1, h2⟩ := h
    refine .inr ⟨a, [u, x], e, h, by simp only [Fm.word]; decide +kernel, rfl, fun i g x e1 e2 => ?_⟩
    match i with
    | 0 => cases e1; cases e2; exact h1
    | 1 => cases e1; cases e2; exact h2
    | i + 2 => cases e1
  | pick f g h' =>
    obtain ⟨a, u, x, y, e, h, h1, h2, h3⟩ := h
    refine .inr ⟨a, [u, x, y], e, h, by simp only [Fm.word]; decide +kernel, rfl, fun i g x e1 e2 => ?_⟩
    match i with
    | 0 => cases e1; cases e2; exact h1
    | 1 => cases e1; cases e2; exact h2
    | 2 => cases e1; cases e2; exact h3
    | i + 3 => cases e1
theorem FsAt.get {H : Hp} {fs : List Fm} {us : List V} (h : FsAt H fs us) {i : Nat} {u : V} (hu : us[i]? = some u) : ∃ f, fs[i]? = some f ∧ f ∈ fs ∧ FmAt H f u := by
  have hi := (List.getElem?_eq_some_iff.mp hu).1
  have hi2 : i < fs.length := by rw [← h.1]; exact hi
  exact ⟨fs[i], List.getElem?_eq_getElem hi2, List.getElem_mem hi2, h.2 i _ u (List.getElem?_eq_getElem hi2) hu⟩
theorem cut_tail (v : V) (us : List V) : cutV (v :: us) (some 1) none = us := by
  unfold cutV
  rw [show (1 : Int) = ((1 : Nat) : Int) from rfl, HT.sIx_nat, HT.sIx_none]
  have e : min 1 (v :: us).length = 1 := by simp
  rw [e, List.drop_succ_cons, List.drop_zero, List.length_cons]
  exact List.take_of_length_le (by omega)
/-! formulas drawn -/
structure Fm.Ok (f : Fm) (d m w : Nat) : Prop where
  dp : f.dep ≤ max d 1
  sz : f.sz ≤ m
  ins : ∀ i, i ∈ f.ins → i < w
def spr__law_formula (d : Nat) (_ : PySem.W.Frag) : Sp := fun vs H Q _ => ∃ (p : Addr) (n de ma wi : Nat), vs = [.ref p, .int (de : Nat), .int (ma : Nat), .int (wi : Nat)] ∧ Bx H p n ∧ n + 4 * ma < 100000000 ∧ de < d ∧ 1 ≤ ma ∧ ma ≤ 100 ∧ 1 ≤ wi ∧ wi ≤ 100 ∧
  ∀ H' v f, But p H H' → Bx H' p (n + 4 * ma) → FmAt H' f v → f.Ok de ma wi → Q v H'
theorem no__law_formula {K : PySem.W.Frag} {vs : List V} {H : Hp} {Q : VK} {E : XK} (h : spr__law_formula 0 K vs H Q E) : False := by
  obtain ⟨p, n, de, ma, wi, _, _, _, z, _⟩ := h
  exact Nat.not_lt_zero _ z
/-- three formulas drawn so far -/
def F3 (p D : Addr) (X : Hp) (n l de wi : Nat) (i : Nat) (G : Hp) : Prop := ∃ fs : List (V × Fm), fs.length = i ∧ G D = some (.lst (fs.map Prod.fst)) ∧ (∀ q, q ∈ fs → FmAt G q.2 q.1 ∧ q.2.Ok de l wi) ∧ But p X G ∧ Bx G p (n + 4 * l * i)
theorem okr__law_formula (T : Defs K mg) (TT : Tabs T base) : ∀ d : Nat, FnOk P w K mg base CX0 (2 + d) T.f__law_formula T.fd__law_formula ["_law_box_here", "_law_deep", "_law_many", "_law_wide"] (spr__law_formula d K)
  | 0 => ⟨fun _ _ _ _ z => (no__law_formula z).elim, fun _ _ _ _ _ _ _ _ _ _ _ _ _ z => (no__law_formula z).elim⟩
  | d + 1 => by
    have G__law_take : FnOk P w K mg base CX0 1 T.f__law_take T.fd__law_take ["_law_box_here", "_law_many"] (sp__law_take K) := ok__law_take T TT
    have G__law_formula : FnOk P w K mg base CX0 (2 + d) T.f__law_formula T.fd__law_formula ["_law_box_here", "_law_deep", "_law_many", "_law_wide"] (spr__law_formula d K) := okr__law_formula T TT d
    show FnOk P w K mg base CX0 ((2 + d) + 1) T.f__law_formula T.fd__law_formula ["_law_box_here", "_law_deep", "_law_many", "_law_wide"] (spr__law_formula (d + 1) K)
    refine T.F__law_formula.ok sc__law_formula (fun vs H Q E h => ?_) (fun cdv A outer s H vs Q E hr h => ?_)
    · obtain ⟨p, n, de, ma, wi, rfl, hB, hn, hd, m1, m2, w1, w2, q⟩ := h
      rfl
    · obtain ⟨p, n, de, ma, wi, rfl, hB, hn, hd, m1, m2, w1, w2, q⟩ := h
      refine ⟨_, PSs.nox (pss_cons (ps_set (i := 4) sc__law_formula.nd rfl (.inl rfl) (pe_call G__law_take (hr.mono (by omega)) (by rfl) T.g__law_take T.F__law_take.kp T.b__law_take .nil pass0 (pa_cons (pv 0) (pa_cons pe_int pa_nil))))
    (pss_cons (ps_if (PW.pt (pw_or (pt_cmpR op_lt (pv 1) pe_int (nomark _)) (pw_or (pt_cmpR op_lt (pv 2) pe_int (nomark _)) (pw_or1 (pt_cmpR op_eq (pv 4) pe_int (nomark _)))))) (pss_one (ps_ret (pe_tup (pa_cons pe_str (pa_cons (pe_call G__law_take (hr.mono (by omega)) (by rfl) T.g__law_take T.F__law_take.kp T.b__law_take .nil pass0 (pa_cons (pv 0) (pa_cons (pv 3) pa_nil))) pa_nil))))) pss_nil)
    (pss_cons (ps_if (PW.pt (pw_or (pt_cmpR op_eq (pv 4) pe_int (nomark _)) (pw_or1 (pt_cmpR op_lt (pv 2) pe_int (nomark _))))) (pss_one (ps_ret (pe_tup (pa_cons pe_str (pa_cons (pe_call G__law_formula (hr.mono (by omega)) (by rfl) T.g__law_formula T.F__law_formula.kp T.b__law_formula .nil pass0 (pa_cons (pv 0) (pa_cons (pe_op op_sub (pv 1) pe_int) (pa_cons (pe_op op_sub (pv 2) pe_int) (pa_cons (pv 3) pa_nil))))) pa_nil))))) pss_nil)
    (pss_cons (ps_if (PW.pt (pw_and (pt_cmpR op_eq (pv 4) pe_int (nomark _)) (pw_and1 (pt_cmpR op_gt (pv 2) pe_int (nomark _))))) (pss_cons (ps_set (i := 5) sc__law_formula.nd rfl (.inr rfl) (pe_op op_fdiv (pe_op op_sub (pv 2) pe_int) pe_int))
    (pss_one (ps_ret (pe_op op_catA (pe_tup (pa_cons pe_str pa_nil)) (pe_callTy call_tuple_of (by rfl) T.m_tuple bt_tuple (pa_cons (pe_lc (own := [("_law_turn", 7)]) (g := gName 7) (tt := tYes) rfl sc__law_formula.nd (pi_range1 (by rfl) T.m_range (pa_cons pe_int pa_nil)) (blkOk_by (N := N__law_formula) (sc := defScope s__law_formula) (by decide +kernel)) (fun _ _ _ _ _ => (pg_name (i := 7) sc__law_formula.nd rfl (.inl rfl))) (fun _ _ _ _ _ => pts_nil) (fun _ _ _ _ _ => (pe_call G__law_formula (hr.mono (by omega)) (by rfl) T.g__law_formula T.F__law_formula.kp T.b__law_formula .nil pass0 (pa_cons (pv 0) (pa_cons (pe_op op_sub (pv 1) pe_int) (pa_cons (pv 5) (pa_cons (pv 3) pa_nil))))))) pa_nil)))))) pss_nil)
    (pss_cons (ps_asg (pe_tup (pa_cons (pe_ix ix_list (pe_lst (pa_cons pe_str (pa_cons pe_str (pa_cons pe_str pa_nil)))) (pe_call G__law_take (hr.mono (by omega)) (by rfl) T.g__law_take T.F__law_take.kp T.b__law_take .nil pass0 (pa_cons (pv 0) (pa_cons pe_int pa_nil))) (fun _ _ => rfl)) (pa_cons (pe_op op_add pe_int (pe_call G__law_take (hr.mono (by omega)) (by rfl) T.g__law_take T.F__law_take.kp T.b__law_take .nil pass0 (pa_cons (pv 0) (pa_cons (pe_op op_sub (pv 2) pe_int) pa_nil)))) pa_nil))) (pg_tup rfl (pgs_cons (pg_name (i := 6) sc__law_formula.nd rfl (.inl rfl)) (pgs_cons (pg_name (i := 5) sc__law_formula.nd rfl (.inr rfl)) pgs_nil))))
    (pss_one (ps_ret (pe_tup (pa_cons (pv 6) (pa_cons (pe_call G__law_formula (hr.mono (by omega)) (by rfl) T.g__law_formula T.F__law_formula.kp T.b__law_formula .nil pass0 (pa_cons (pv 0) (pa_cons (pe_op op_sub (pv 1) pe_int) (pa_cons (pv 5) (pa_cons (pv 3) pa_nil))))) (pa_cons (pe_call G__law_formula (hr.mono (by omega)) (by rfl) T.g__law_formula T.F__law_formula.kp T.b__law_formula .nil pass0 (pa_cons (pv 0) (pa_cons (pe_op op_sub (pv 1) pe_int) (pa_cons (pe_op op_sub (pe_op op_sub (pv 2) pe_int) (pv 5)) (pa_cons (pv 3) pa_nil))))) pa_nil))))))))))), ?_⟩
      have hsl : sizeLine = 16777216 := by decide
      refine ⟨.ref p, rfl, p, 7, n, rfl, hB, by decide, by decide, by omega, fun H1 way c1 B1 l1 u1 => ?_⟩
      have fin : ∀ H' v f, But p H1 H' → Bx H' p (n + 4 * ma) → FmAt H' f v → f.Ok de ma wi → Q v H' := fun H' v f b B hf ok => q H' v f (c1.trans b) B hf ok
      refine ⟨_, rfl, _, _, rfl, rfl, _, rfl, ite2 (fun _ => ?_) (fun e1 => ?_)⟩
      · refine iteT ?_
        refine ⟨.ref p, rfl, _, rfl, p, (wi : Int), _, rfl, B1, by omega, by omega, by omega, fun H2 r c2 B2 l2 u2 => ⟨(show 2 ≤ sizeLine by decide), fun t nt => ?_⟩⟩
        obtain ⟨r, rfl⟩ := nat_of l2
        exact fin _ _ (.inp r) (c2.new nt) ((B2.new nt).mono (by omega)) ⟨t, rfl, upd_same⟩ ⟨by simp only [Fm.dep]; omega, by simp only [Fm.sz]; omega, fun i hi => by
          rw [List.mem_singleton.mp hi]
          omega⟩
      have de2 : 2 ≤ de := by
        have : ¬ (de : Int) < 2 := fun z => e1 (decide_eq_true z)
        omega
      refine ⟨_, rfl, _, _, rfl, rfl, _, rfl, ite2 (fun _ => ?_) (fun e2 => ?_)⟩
      · refine iteT ?_
        refine ⟨.ref p, rfl, _, rfl, p, (wi : Int), _, rfl, B1, by omega, by omega, by omega, fun H2 r c2 B2 l2 u2 => ⟨(show 2 ≤ sizeLine by decide), fun t nt => ?_⟩⟩
        obtain ⟨r, rfl⟩ := nat_of l2
        exact fin _ _ (.inp r) (c2.new nt) ((B2.new nt).mono (by omega)) ⟨t, rfl, upd_same⟩ ⟨by simp only [Fm.dep]; omega, by simp only [Fm.sz]; omega, fun i hi => by
          rw [List.mem_singleton.mp hi]
          omega⟩
      have ma2 : 2 ≤ ma := by
        have : ¬ (ma : Int) < 2 := fun z => e2 (decide_eq_true z)
        omega
      refine ⟨_, rfl, rfl, _, rfl, ite2 (fun _ => ?_) (fun _ => ?_)⟩
      · refine ⟨.ref p, rfl, _, rfl, p, (wi : Int), _, rfl, B1, by omega, by omega, by omega, fun H2 r c2 B2 l2 u2 => ⟨(show 2 ≤ sizeLine by decide), fun t nt => ?_⟩⟩
        obtain ⟨r, rfl⟩ := nat_of l2
        exact fin _ _ (.inp r) (c2.new nt) ((B2.new nt).mono (by omega)) ⟨t, rfl, upd_same⟩ ⟨by simp only [Fm.dep]; omega, by simp only [Fm.sz]; omega, fun i hi => by
          rw [List.mem_singleton.mp hi]
          omega⟩
      have ed : (de : Int) - 1 = ((de - 1 : Nat) : Int) := by omega
      have em : (ma : Int) - 1 = ((ma - 1 : Nat) : Int) := by omega
      clear e1 e2
      refine ⟨_, rfl, rfl, _, rfl, ite2 (fun _ => iteT ?_) (fun _ => ⟨_, rfl, _, _, rfl, rfl, _, rfl, ite2 (fun _ => ?_) (fun e3 => ?_)⟩)⟩
      · refine ⟨.ref p, rfl, _, rfl, _, _, rfl, rfl, _, rfl, _, _, rfl, rfl, _, rfl, p, _, de - 1, ma - 1, wi, by rw [← ed, ← em]; rfl, B1, by omega, by omega, by omega, by omega, w1, w2, fun H2 v f c2 B2 hf ok => ⟨(show 2 ≤ sizeLine by decide), fun t nt => ?_⟩⟩
        have o1 := ok.dp
        have o2 := ok.sz
        exact fin _ _ (.less f) (c2.new nt) ((B2.new nt).mono (by omega)) ⟨t, v, rfl, upd_same, hf.same (same_upd nt)⟩ ⟨by simp only [Fm.dep]; omega, by simp only [Fm.sz]; omega, ok.ins⟩
      · refine ⟨.ref p, rfl, _, rfl, _, _, rfl, rfl, _, rfl, _, _, rfl, rfl, _, rfl, p, _, de - 1, ma - 1, wi, by rw [← ed, ← em]; rfl, B1, by omega, by omega, by omega, by omega, w1, w2, fun H2 v f c2 B2 hf ok => ⟨(show 2 ≤ sizeLine by decide), fun t nt => ?_⟩⟩
        have o1 := ok.dp
        have o2 := ok.sz
        exact fin _ _ (.less f) (c2.new nt) ((B2.new nt).mono (by omega)) ⟨t, v, rfl, upd_same, hf.same (same_upd nt)⟩ ⟨by simp only [Fm.dep]; omega, by simp only [Fm.sz]; omega, ok.ins⟩
      have ma3 : 3 ≤ ma := by
        have : ¬ (ma : Int) < 3 := fun z => e3 (decide_eq_true z)
        omega
      clear e3
      refine nx_via (fun σ F => (∃ y5 y6 y7, σ = [some (.ref p), some (.int (de : Nat)), some (.int (ma : Nat)), some (.int (wi : Nat)), some (.int way), y5, y6, y7]) ∧ F = H1) (fun N key => ?_) ?_
      · refine ⟨_, rfl, rfl, _, rfl, ite2 (fun _ => ?_) (fun _ => iteF (key _ _ ⟨⟨_, _, _, rfl⟩, rfl⟩))⟩
        refine ⟨_, rfl, _, _, rfl, rfl, _, rfl, ite2 (fun e4 => ?_) (fun _ => key _ _ ⟨⟨_, _, _, rfl⟩, rfl⟩)⟩
        have ma4 : 4 ≤ ma := by
          have : (3 : Int) < (ma : Int) := of_decide_eq_true e4
          omega
        obtain ⟨l, hl⟩ : ∃ l : Nat, ((ma : Int) - 1) / 3 = (l : Int) := ⟨(ma - 1) / 3, by omega⟩
        have l1 : 1 ≤ l := by omega
        have l3 : 3 * l + 1 ≤ ma := by omega
        refine ⟨_, rfl, _, _, rfl, rfl, _, _, rfl, rfl, ⟨by decide, by decide⟩, ?_⟩
        try dsimp only
        rw [hl]
        refine ⟨(show 1 ≤ sizeLine by decide), fun t0 nt0 => ?_⟩
        have u0 := same_upd nt0 (o := .tup [.str "pick"])
        refine ⟨3, rfl, by decide, by decide, fun D nD => ?_⟩
        have nDp : D ≠ p := ne_new (B1.new (o := .tup [.str "pick"]) nt0) nD
        have ht0 := upd_same (H := H1) (a := t0) (o := .tup [.str "pick"])
        generalize upd H1 t0 (.tup [.str "pick"]) = X at u0 nD ht0 ⊢
        have BX := B1.same u0
        refine lc_range (F3 p D X (n + 1) l (de - 1) wi) ⟨[], rfl, upd_same, fun _ z => (by cases z), (But.refl p X).new nD, BX.new nD⟩ (fun j G hj h => ?_) (fun G h => ?_)
        · obtain ⟨fs, lf, hD, hfs, cG, BG⟩ := h
          have hj3 : j < 3 := by
            have : (3 : Int).toNat = 3 := rfl
            omega
          have ll : 4 * l * j ≤ 4 * l * 2 := Nat.mul_le_mul_left _ (by omega)
          refine ⟨rfl, yes_ite ?_⟩
          refine ⟨.ref p, rfl, _, rfl, _, _, rfl, rfl, _, rfl, _, rfl, p, _, de - 1, l, wi, by rw [← ed]; rfl, BG, by omega, by omega, l1, by omega, w1, w2, fun G2 v f c2 B2 hf ok => ?_⟩
          refine ⟨_, c2 _ _ nDp hD, by rw [List.length_map]; omega, fs ++ [(v, f)], by rw [List.length_append, lf]; rfl, by rw [upd_same, List.map_append]; rfl, fun q' hq => ?_, but_newer (cG.trans c2) nD, ?_⟩
          · have keep : ∀ t xs, G2 t = some (.tup xs) → (upd G2 D (.lst (fs.map Prod.fst ++ [v]))) t = some (.tup xs) := fun t xs e => by
              rw [upd_ne (ne_of e (c2 _ _ nDp hD) (fun z => by cases z))]
              exact e
            rcases List.mem_append.mp hq with hq | hq
            · exact ⟨((hfs q' hq).1.but BG c2).keep keep, (hfs q' hq).2⟩
            · rw [List.mem_singleton.mp hq]
              exact ⟨hf.keep keep, ok⟩
          · have e : n + 1 + 4 * l * j + 4 * l = n + 1 + 4 * l * (j + 1) := by rw [Nat.mul_add, Nat.mul_one]; omega
            rw [← e]
            exact B2.other nDp
        obtain ⟨fs, lf, hD, hfs, cG, BG⟩ := h
        have lf : fs.length = 3 := lf
        have BG : Bx G p (n + 1 + 4 * l * 3) := BG
        obtain ⟨q1, q2, q3, rfl⟩ : ∃ q1 q2 q3, fs = [q1, q2, q3] := by
          match fs, lf with
          | [a, b, c], _ => exact ⟨a, b, c, rfl⟩
        obtain ⟨f1, o1⟩ := hfs q1 (by simp)
        obtain ⟨f2, o2⟩ := hfs q2 (by simp)
        obtain ⟨f3, o3⟩ := hfs q3 (by simp)
        refine ⟨D, _, rfl, .inl ⟨SqL.mk hD, fun t1 nt1 => ?_⟩⟩
        have u1 := same_upd nt1 (o := .tup ([q1, q2, q3].map Prod.fst))
        refine ⟨t0, t1, _, _, rfl, rfl, SqT.mk (u1 _ _ (cG _ _ (BX.ne_tup ht0) ht0)), SqT.mk upd_same, (show 4 ≤ sizeLine by decide), fun z => (by cases z), fun _ z => (by cases z), fun _ _ t2 nt2 => ?_⟩
        have u2 := u1.trans (same_upd nt2 (o := .tup [.str "pick", q1.1, q2.1, q3.1]))
        have cA : But p H1 (upd (upd G t1 (.tup ([q1, q2, q3].map Prod.fst))) t2 (.tup ([V.str "pick"] ++ [q1, q2, q3].map Prod.fst))) := (same_but u0).trans (cG.trans (same_but u2))
        have d1 := o1.dp
        have d2 := o2.dp
        have d3 := o3.dp
        have z1 := o1.sz
        have z2 := o2.sz
        have z3 := o3.sz
        refine fin _ _ (.pick q1.2 q2.2 q3.2) cA ((BG.same u2).mono (by omega)) ⟨t2, q1.1, q2.1, q3.1, rfl, upd_same, f1.same u2, f2.same u2, f3.same u2⟩ ⟨by simp only [Fm.dep]; omega, by simp only [Fm.sz]; omega, fun i hi => ?_⟩
        simp only [Fm.ins, List.mem_append] at hi
        rcases hi with hi | hi | hi
        · exact o1.ins i hi
        · exact o2.ins i hi
        · exact o3.ins i hi
      rintro σ F ⟨⟨y5, y6, y7, rfl⟩, rfl⟩
      refine ⟨(show 3 ≤ sizeLine by decide), fun L nL => ?_⟩
      have uL := same_upd nL (o := .lst [.str "both", .str "either", .str "oneof"])
      have hL := upd_same (H := F) (a := L) (o := .lst [.str "both", .str "either", .str "oneof"])
      generalize upd F L (.lst [.str "both", .str "either", .str "oneof"]) = X at uL hL ⊢
      have BX := B1.same uL
      have nLp : L ≠ p := fun e => by
        obtain ⟨_, _, _, z, _⟩ := BX
        rw [← e, hL] at z
        cases z
      refine ⟨.ref p, rfl, p, 3, _, rfl, BX, by decide, by decide, by omega, fun G1 r1 d1 B2 l2 u2 => ?_⟩
      obtain ⟨wd, ewd, hwd⟩ : ∃ wd : Str, atI [V.str "both", .str "either", .str "oneof"] r1 = some (.str wd) ∧ (wd = "both" ∨ wd = "either" ∨ wd = "oneof") := by
        obtain ⟨r1, rfl⟩ := nat_of l2
        match r1, u2 with
        | 0, _ => exact ⟨"both", atI_nat (j := 0) rfl, .inl rfl⟩
        | 1, _ => exact ⟨"either", atI_nat (j := 1) rfl, .inr (.inl rfl)⟩
        | 2, _ => exact ⟨"oneof", atI_nat (j := 2) rfl, .inr (.inr rfl)⟩
        | r + 3, h => exact absurd h (by omega)
      refine ⟨L, _, _, _, rfl, rfl, SqL.mk (d1 _ _ nLp hL), ewd, ?_⟩
      have em2 : (ma : Int) - 2 = ((ma - 2 : Nat) : Int) := by omega
      refine ⟨.ref p, rfl, _, rfl, _, _, rfl, rfl, p, (ma : Int) - 2, _, rfl, B2, by omega, by omega, by omega, fun G2 r2 d2 B3 l3 u3 => ⟨_, _, rfl, rfl, ?_⟩⟩
      obtain ⟨l, hl⟩ := nat_of (show 0 ≤ 1 + r2 by omega)
      try dsimp only
      rw [hl]
      refine ⟨(show 2 ≤ sizeLine by decide), fun tp ntp => ⟨tp, _, rfl, SqT.mk upd_same, rfl, _, _, rfl, _, _, rfl, rfl, ?_⟩⟩
      have uT := same_upd ntp (o := .tup [.str wd, .int (l : Nat)])
      have BT := B3.same uT
      have cT : But p F (upd G2 tp (.tup [.str wd, .int (l : Nat)])) := (same_but uL).trans (d1.trans (d2.trans (same_but uT)))
      generalize upd G2 tp (.tup [.str wd, .int (l : Nat)]) = Y at BT cT ⊢
      have el : (ma : Int) - 1 - (l : Int) = ((ma - 1 - l : Nat) : Int) := by omega
      refine ⟨_, rfl, .ref p, rfl, _, rfl, _, _, rfl, rfl, _, rfl, _, rfl, p, _, de - 1, l, wi, by rw [← ed]; rfl, BT, by omega, by omega, by omega, by omega, w1, w2, fun Y1 v1 f1 y1 C1 h1 o1 => ?_⟩
      refine ⟨.ref p, rfl, _, rfl, _, _, rfl, rfl, _, rfl, _, _, rfl, rfl, _, rfl, _, _, rfl, rfl, _, rfl, p, _, de - 1, ma - 1 - l, wi, by rw [← ed, ← el]; rfl, C1, by omega, by omega, by omega, by omega, w1, w2, fun Y2 v2 f2 y2 C2 h2 o2 => ⟨(show 3 ≤ sizeLine by decide), fun t nt => ?_⟩⟩
      have cZ : But p F (upd Y2 t (.tup [.str wd, v1, v2])) := (cT.trans (y1.trans y2)).new nt
      have sT := same_upd nt (o := .tup [.str wd, v1, v2])
      have BZ : Bx (upd Y2 t (.tup [.str wd, v1, v2])) p (n + 4 * ma) := (C2.new nt).mono (by omega)
      have a1 := (h1.but C1 y2).same sT
      have a2 := h2.same sT
      have p1 := o1.dp
      have p2 := o2.dp
      have z1 := o1.sz
      have z2 := o2.sz
      have oi : ∀ i, i ∈ f1.ins ++ f2.ins → i < wi := fun i hi => by
        rcases List.mem_append.mp hi with hi | hi
        · exact o1.ins i hi
        · exact o2.ins i hi
      rcases hwd with rfl | rfl | rfl
      · exact fin _ _ (.both f1 f2) cZ BZ ⟨t, v1, v2, rfl, upd_same, a1, a2⟩ ⟨by simp only [Fm.dep]; omega, by simp only [Fm.sz]; omega, oi⟩
      · exact fin _ _ (.either f1 f2) cZ BZ ⟨t, v1, v2, rfl, upd_same, a1, a2⟩ ⟨by simp only [Fm.dep]; omega, by simp only [Fm.sz]; omega, oi⟩
      · exact fin _ _ (.oneof f1 f2) cZ BZ ⟨t, v1, v2, rfl, upd_same, a1, a2⟩ ⟨by simp only [Fm.dep]; omega, by simp only [Fm.sz]; omega, oi⟩
def sp__law_formula (K : PySem.W.Frag) : Sp := spr__law_formula 9 K
theorem ok__law_formula (T : Defs K mg) (TT : Tabs T base) : FnOk P w K mg base CX0 11 T.f__law_formula T.fd__law_formula ["_law_box_here", "_law_deep", "_law_many", "_law_wide"] (sp__law_formula K) := okr__law_formula T TT 9
def sp__law_any (_ : PySem.W.Frag) : Sp := fun vs H Q _ => ∃ (p : Addr) (n : Nat), vs = [.ref p] ∧ Bx H p n ∧ n < 1000000 ∧
  ∀ H' v f, But p H H' → Bx H' p (n + 200) → FmAt H' f v → f.dep ≤ 8 → f.sz ≤ 24 → (∀ i, i ∈ f.ins → i < 6) → Q v H'
theorem bl01 {c : Bool} : 0 ≤ (if c = true then (1 : Int) else 0) ∧ (if c = true then (1 : Int) else 0) < ((2 : Nat) : Int) := by
  cases c <;> decide
theorem ok__law_any (T : Defs K mg) (TT : Tabs T base) : FnOk P w K mg base CX0 12 T.f__law_any T.fd__law_any ["_law_box_here"] (sp__law_any K) := by
  have G__law_formula : FnOk P w K mg base CX0 11 T.f__law_formula T.fd__law_formula ["_law_box_here", "_law_deep", "_law_many", "_law_wide"] (sp__law_formula K) := ok__law_formula T TT
  have G__law_take : FnOk P w K mg base CX0 1 T.f__law_take T.fd__law_take ["_law_box_here", "_law_many"] (sp__law_take K) := ok__law_take T TT
  refine T.F__law_any.ok sc__law_any (fun vs H Q E h => ?_) (fun cdv A outer s H vs Q E hr h => ?_)
  · obtain ⟨p, n, rfl, hB, hn, q⟩ := h
    rfl
  · obtain ⟨p, n, rfl, hB, hn, q⟩ := h
    refine ⟨_, PSs.nox (pss_cons (ps_par (i := 1) (j := 2) (by rfl) sc__law_any.nd rfl rfl (by decide) rfl rfl (pa_cons (pe_cmpR op_eq (pe_call G__law_take (hr.mono (by decide)) (by rfl) T.g__law_take T.F__law_take.kp T.b__law_take .nil pass0 (pa_cons (pv 0) (pa_cons pe_int pa_nil))) pe_int (nomark _)) (pa_cons (pe_op op_add pe_int (pe_call G__law_take (hr.mono (by decide)) (by rfl) T.g__law_take T.F__law_take.kp T.b__law_take .nil pass0 (pa_cons (pv 0) (pa_cons pe_int pa_nil)))) pa_nil)) (by rfl))
    (pss_one (ps_ret (pe_call G__law_formula (hr.mono (by decide)) (by rfl) T.g__law_formula T.F__law_formula.kp T.b__law_formula .nil pass0 (pa_cons (pv 0) (pa_cons (pe_ix ix_list (pe_lst (pa_cons pe_int (pa_cons pe_int pa_nil))) (pe_callTy call_int1 (by rfl) T.m_int bt_int (pa_cons (pv 1) pa_nil)) (fun _ _ => rfl)) (pa_cons (pe_ix ix_list (pe_lst (pa_cons (pe_op op_add pe_int (pe_call G__law_take (hr.mono (by decide)) (by rfl) T.g__law_take T.F__law_take.kp T.b__law_take .nil pass0 (pa_cons (pv 0) (pa_cons pe_int pa_nil)))) (pa_cons pe_int pa_nil))) (pe_callTy call_int1 (by rfl) T.m_int bt_int (pa_cons (pv 1) pa_nil)) (fun _ _ => rfl)) (pa_cons (pv 2) pa_nil)))))))), ?_⟩
    have hsl : sizeLine = 16777216 := by decide
    refine ⟨.ref p, rfl, p, 4, n, rfl, hB, by decide, by decide, by omega, fun H1 r1 c1 B1 l1 u1 => ⟨rfl, ?_⟩⟩
    obtain ⟨gr, egr⟩ : ∃ gr, decide (V.int r1 = V.int 0) = gr := ⟨_, rfl⟩
    rw [egr]
    refine ⟨.ref p, rfl, p, 6, _, rfl, B1, by decide, by decide, by omega, fun H2 r2 c2 B2 l2 u2 => ⟨_, _, rfl, rfl, ?_⟩⟩
    obtain ⟨wi, hwi⟩ := nat_of (show 0 ≤ 1 + r2 by omega)
    try dsimp only
    rw [hwi]
    refine ⟨_, _, rfl, ?_⟩
    refine ⟨.ref p, rfl, (show 2 ≤ sizeLine by decide), fun la na => ?_⟩
    have s3 := same_upd na (o := .lst [.int 5, .int 8])
    obtain ⟨de, ev1, hde⟩ := at_menu (Pr := fun v => v = 5 ∨ v = 8) (xs := [5, 8]) (r := if gr = true then (1 : Int) else 0) bl01.1 bl01.2 (fun x hx => by
      simp only [List.mem_cons, List.not_mem_nil, or_false] at hx
      exact hx)
    refine ⟨.bl gr, rfl, .inr ⟨_, rfl, la, _, _, _, rfl, rfl, SqL.mk upd_same, ev1, ?_⟩⟩
    have B3 := B2.same s3
    have c3 := (c1.trans c2).trans (same_but s3)
    generalize upd H2 la (.lst [.int 5, .int 8]) = H3 at B3 c3 ⊢
    refine ⟨.ref p, rfl, p, 9, _, rfl, B3, by decide, by decide, by omega, fun H4 r4 c4 B4 l4 u4 => ⟨_, _, rfl, rfl, (show 2 ≤ sizeLine by decide), fun lb nb => ?_⟩⟩
    obtain ⟨ma, ev2, hma⟩ := at_menu (Pr := fun v => 1 ≤ v ∧ v ≤ 24) (xs := [1 + r4, 24]) (r := if gr = true then (1 : Int) else 0) bl01.1 bl01.2 (fun x hx => by
      simp only [List.mem_cons, List.not_mem_nil, or_false] at hx
      omega)
    have s5 := same_upd nb (o := .lst [.int (1 + r4), .int 24])
    refine ⟨.bl gr, rfl, .inr ⟨_, rfl, lb, _, _, _, rfl, rfl, SqL.mk upd_same, ev2, ?_⟩⟩
    have B5 := B4.same s5
    obtain ⟨de, rfl⟩ := nat_of (show 0 ≤ de by omega)
    obtain ⟨ma, rfl⟩ := nat_of (show 0 ≤ ma by omega)
    refine ⟨_, rfl, p, _, de, ma, wi, rfl, B5, by omega, by omega, by omega, by omega, by omega, by omega, fun H6 v f c6 B6 hf ok => ?_⟩
    have o1 := ok.dp
    have o2 := ok.sz
    exact q H6 v f ((c3.trans c4).trans ((same_but s5).trans c6)) (B6.mono (by omega)) hf (by omega) (by omega) fun i hi => by
      have := ok.ins i hi
      omega
theorem wd_in {w : Str} (h : w ≠ "in") : decide (V.str w = V.str "in") = false := decide_eq_false fun e => h (V.str.inj e)
theorem not_whole {v : V} {us : List V} : ¬ (HT.sIx (v :: us).length 0 (some 1) = 0 ∧ HT.sIx (v :: us).length (v :: us).length none = (v :: us).length) := by
  rintro ⟨e, _⟩
  rw [show (1 : Int) = ((1 : Nat) : Int) from rfl, HT.sIx_nat] at e
  simp at e
def spr__law_inputs (d : Nat) (_ : PySem.W.Frag) : Sp := fun vs H Q _ => ∃ f v, vs = [v] ∧ FmAt H f v ∧ f.dep ≤ d ∧ f.sz ≤ 100 ∧
  ∀ H' p, Same H H' → H p = none → H' p = some (.lst ((f.ins.map fun (i : Nat) => (i : Int)).map V.int)) → Q (.ref p) H'
theorem no__law_inputs {K : PySem.W.Frag} {vs : List V} {H : Hp} {Q : VK} {E : XK} (h : spr__law_inputs 0 K vs H Q E) : False := by
  obtain ⟨f, v, _, _, z, _⟩ := h
  have := f.dep_pos
  omega
def insN (fs : List Fm) : List Int := ((fs.map Fm.ins).flatten).map fun (i : Nat) => (i : Int)
theorem insN_snoc (fs : List Fm) (f : Fm) : insN (fs ++ [f]) = insN fs ++ f.ins.map fun (i : Nat) => (i : Int) := by
  unfold insN
  rw [List.map_append, List.flatten_append, List.map_append]
  simp
theorem insN_le {f : Fm} (i : Nat) : (insN (f.sds.take i)).length ≤ f.sz := by
  unfold insN
  rw [List.length_map]
  have a : ((f.sds.take i).map Fm.ins).flatten.length ≤ (f.sds.map Fm.ins).flatten.length := by
    conv => rhs; rw [← List.take_append_drop i f.sds, List.map_append, List.flatten_append, List.length_append]
    exact Nat.le_add_right _ _
  have b := f.ins_len
  by_cases h : f.word = "in"
  · cases f with
    | inp j =>
      rw [show (Fm.inp j).sds.take i = [] by simp [Fm.sds]]
      exact Nat.zero_le _
    | _ => exact absurd h (by simp only [Fm.word]; decide +kernel)
  · rw [Fm.sds_ins h] at a
    omega
/-! two lists of the same numbers -/
theorem dp_ints {K : PySem.W.Frag} {H : Hp} : ∀ ns : List Int, DpAll K H (ns.map V.int) (ns.map PyData.int)
  | [] => .nil
  | x :: r => .cons (.int x) (dp_ints r)
theorem sh_ints (ns : List Int) : SeqAt.shaped (.list (ns.map PyData.int)) = true := by
  have h1 : PyData.canLayAll0 (ns.map PyData.int) = true := by
    induction ns with
    | nil => rfl
    | cons x r ih =>
      show (PyData.canLay0 (.int x) && PyData.canLayAll0 (r.map PyData.int)) = true
      rw [ih]
      rfl
  have h2 : PyData.depthAll (ns.map PyData.int) = 0 := by
    induction ns with
    | nil => rfl
    | cons x r ih =>
      show max (PyData.depth (.int x)) (PyData.depthAll (r.map PyData.int)) = 0
      rw [ih (by
        have : (PyData.canLay0 (.int x) && PyData.canLayAll0 (r.map PyData.int)) = true := h1
        exact (Bool.and_eq_true_iff.mp this).2)]
      rfl
  show (PyData.canLayAll0 (ns.map PyData.int) && decide (PyData.depthAll (ns.map PyData.int) + 1 ≤ 64)) = true
  rw [h1, h2]
  rfl
theorem eqv_ints (ns : List Int) : PyData.eqv (.list (ns.map PyData.int)) (.list (ns.map PyData.int)) = true := by
  have : PyData.eqvAll (ns.map PyData.int) (ns.map PyData.int) = true := by
    induction ns with
    | nil => rfl
    | cons x r ih =>
      show (PyData.eqv (.int x) (.int x) && PyData.eqvAll (r.map PyData.int) (r.map PyData.int)) = true
      rw [ih]
      show ((x == x) && true) = true
      simp
  exact this
theorem neL {K : PySem.W.Frag} {H : Hp} {a b : Addr} {ns ms : List Int} (ha : H a = some (.lst (ns.map V.int))) (hb : H b = some (.lst (ms.map V.int))) (e : ns = ms) {Q : VK} (q : Q (.bl false) H) : rNeD K (.ref a) (.ref b) H Q := by
  subst e
  refine ⟨_, _, .lst (SqL.mk ha) (dp_ints ns), .lst (SqL.mk hb) (dp_ints ns), sh_ints ns, sh_ints ns, ?_⟩
  rw [eqv_ints]
  exact q
/-! texts of formulas and of what is told of them -/
def Fm.data : Fm → PyData
  | .inp i => .tuple [.str "in", .int (i : Nat)]
  | .less f => .tuple [.str "less", f.data]
  | .both f g => .tuple [.str "both", f.data, g.data]
  | .either f g => .tuple [.str "either", f.data, g.data]
  | .oneof f g => .tuple [.str "oneof", f.data, g.data]
  | .pick f g h => .tuple [.str "pick", f.data, g.data, h.data]
theorem fm_dp {K : PySem.W.Frag} {H : Hp} : ∀ {f : Fm} {v : V}, FmAt H f v → Dp K H v f.data
  | .inp i, _, ⟨_, rfl, h⟩ => .tup (SqT.mk h) (.cons (.str _) (.cons (.int _) .nil))
  | .less f, _, ⟨_, _, rfl, h, h1⟩ => .tup (SqT.mk h) (.cons (.str _) (.cons (fm_dp h1) .nil))
  | .both f g, _, ⟨_, _, _, rfl, h, h1, h2⟩ => .tup (SqT.mk h) (.cons (.str _) (.cons (fm_dp h1) (.cons (fm_dp h2) .nil)))
  | .either f g, _, ⟨_, _, _, rfl, h, h1, h2⟩ => .tup (SqT.mk h) (.cons (.str _) (.cons (fm_dp h1) (.cons (fm_dp h2) .nil)))
  | .oneof f g, _, ⟨_, _, _, rfl, h, h1, h2⟩ => .tup (SqT.mk h) (.cons (.str _) (.cons (fm_dp h1) (.cons (fm_dp h2) .nil)))
  | .pick f g k, _, ⟨_, _, _, _, rfl, h, h1, h2, h3⟩ => .tup (SqT.mk h) (.cons (.str _) (.cons (fm_dp h1) (.cons (fm_dp h2) (.cons (fm_dp h3) .nil))))
theorem shs_t {k n w : Nat} {ds : List PyData} (a : lvsA k ds = true) (b : PyData.depthAll ds ≤ n) (c : PyData.weightAll ds ≤ w) : Shs k (n + 1) w (.tuple ds) := ⟨by simpa only [lvs] using a, by simp only [PyData.depth]; omega, by simpa only [PyData.weight] using c⟩
theorem wd_ok (s : Str) (h : (s.cps.toList.all fun c => decide (c < 16 ^ 8)) = true) (w : s.cps.size ≤ 12) : Shs 12 0 12 (.str s) := shs_str h w
theorem s_in : Shs 12 0 12 (.str "in") := wd_ok _ (by decide +kernel) (by decide +kernel)
theorem s_less : Shs 12 0 12 (.str "less") := wd_ok _ (by decide +kernel) (by decide +kernel)
theorem s_both : Shs 12 0 12 (.str "both") := wd_ok _ (by decide +kernel) (by decide +kernel)
theorem s_either : Shs 12 0 12 (.str "either") := wd_ok _ (by decide +kernel) (by decide +kernel)
theorem s_oneof : Shs 12 0 12 (.str "oneof") := wd_ok _ (by decide +kernel) (by decide +kernel)
theorem s_pick : Shs 12 0 12 (.str "pick") := wd_ok _ (by decide +kernel) (by decide +kernel)
theorem shs_2 {k n w v m : Nat} {a b : PyData} (h : Shs k 0 w a) (g : Shs k n v b) (e : w + v + 2 ≤ m) : Shs k (n + 1) m (.tuple [a, b]) := shs_t (by simp only [lvsA, h.l, g.l]; rfl) (by have := h.dp; have := g.dp; simp only [PyData.depthAll]; omega) (by have := h.wt; have := g.wt; simp only [PyData.weightAll]; omega)
theorem shs_3 {k n w v u m : Nat} {a b c : PyData} (h : Shs k 0 w a) (g : Shs k n v b) (j : Shs k n u c) (e : w + v + u + 3 ≤ m) : Shs k (n + 1) m (.tuple [a, b, c]) := shs_t (by simp only [lvsA, h.l, g.l, j.l]; rfl) (by have := h.dp; have := g.dp; have := j.dp; simp only [PyData.depthAll]; omega) (by have := h.wt; have := g.wt; have := j.wt; simp only [PyData.weightAll]; omega)
theorem shs_4 {k n w v u x m : Nat} {a b c d : PyData} (h : Shs k 0 w a) (g : Shs k n v b) (j : Shs k n u c) (i : Shs k n x d) (e : w + v + u + x + 4 ≤ m) : Shs k (n + 1) m (.tuple [a, b, c, d]) := shs_t (by simp only [lvsA, h.l, g.l, j.l, i.l]; rfl) (by have := h.dp; have := g.dp; have := j.dp; have := i.dp; simp only [PyData.depthAll]; omega) (by have := h.wt; have := g.wt; have := j.wt; have := i.wt; simp only [PyData.weightAll]; omega)
theorem fm_shs : ∀ {f : Fm}, (∀ i, i ∈ f.ins → i < 6) → Shs 12 f.dep (80 * f.sz) f.data
  | .inp i, h => shs_2 s_in (shs_int (i := (i : Int)) (by have := h i List.mem_cons_self; omega)) (by simp only [Fm.sz]; decide)
  | .less f, h => shs_2 s_less (fm_shs (f := f) h) (by simp only [Fm.sz]; omega)
  | .both f g, h => by
    have a := fm_shs (f := f) fun i hi => h i (List.mem_append_left _ hi)
    have b := fm_shs (f := g) fun i hi => h i (List.mem_append_right _ hi)
    exact shs_3 s_both (a.mono (Nat.le_max_left _ _) (Nat.le_refl _)) (b.mono (Nat.le_max_right _ _) (Nat.le_refl _)) (by simp only [Fm.sz]; omega)
  | .either f g, h => by
    have a := fm_shs (f := f) fun i hi => h i (List.mem_append_left _ hi)
    have b := fm_shs (f := g) fun i hi => h i (List.mem_append_right _ hi)
    exact shs_3 s_either (a.mono (Nat.le_max_left _ _) (Nat.le_refl _)) (b.mono (Nat.le_max_right _ _) (Nat.le_refl _)) (by simp only [Fm.sz]; omega)
  | .oneof f g, h => by
    have a := fm_shs (f := f) fun i hi => h i (List.mem_append_left _ hi)
    have b := fm_shs (f := g) fun i hi => h i (List.mem_append_right _ hi)
    exact shs_3 s_oneof (a.mono (Nat.le_max_left _ _) (Nat.le_refl _)) (b.mono (Nat.le_max_right _ _) (Nat.le_refl _)) (by simp only [Fm.sz]; omega)
  | .pick f g k, h => by
    have a := fm_shs (f := f) fun i hi => h i (List.mem_append_left _ hi)
    have b := fm_shs (f := g) fun i hi => h i (List.mem_append_right _ (List.mem_append_left _ hi))
    have c := fm_shs (f := k) fun i hi => h i (List.mem_append_right _ (List.mem_append_right _ hi))
    exact shs_4 s_pick (a.mono (Nat.le_max_left _ _) (Nat.le_refl _)) (b.mono (Nat.le_trans (Nat.le_max_left _ _) (Nat.le_max_right _ _)) (Nat.le_refl _)) (c.mono (Nat.le_trans (Nat.le_max_right _ _) (Nat.le_max_right _ _)) (Nat.le_refl _)) (by simp only [Fm.sz]; omega)
/-! which things are formulas: their parts, how many and how deep -/
def sideN (z : Str) : Option Int := dl_SIDES.lookup z
def okArg : List PyData → Bool
  | [.int i] => decide (0 ≤ i ∧ i ≤ 5)
  | _ => false
def wordOf : PyData → Option Str
  | .str z => some z
  | _ => none
mutual
def well : PyData → Bool
  | .tuple xs => wellT xs
  | _ => false
def wellT : List PyData → Bool
  | [] => false
  | x :: xs => match wordOf x with
    | some z => if z = "in" then okArg xs else (decide (sideN z = some (xs.length : Int)) && wellA xs)
    | none => false
def wellA : List PyData → Bool
  | [] => true
  | x :: xs => well x && wellA xs
end
mutual
def siz : PyData → Nat
  | .tuple xs => sizT xs
  | _ => 1
def sizT : List PyData → Nat
  | [] => 1
  | x :: xs => match wordOf x with
    | some z => if z = "in" then 1 else 1 + sizA xs
    | none => 1
def sizA : List PyData → Nat
  | [] => 0
  | x :: xs => siz x + sizA xs
end
mutual
def dpt : PyData → Nat
  | .tuple xs => dptT xs
  | _ => 1
def dptT : List PyData → Nat
  | [] => 1
  | x :: xs => match wordOf x with
    | some z => if z = "in" then 1 else 1 + dptA xs
    | none => 1
def dptA : List PyData → Nat
  | [] => 0
  | x :: xs => max (dpt x) (dptA xs)
end
def partD : PyData → Bool
  | .tuple (.str z :: xs) => if z = "in" then okArg xs else decide (sideN z = some (xs.length : Int))
  | _ => false
def sdsD : PyData → List PyData
  | .tuple (.str z :: xs) => if z = "in" then [] else xs
  | _ => []
theorem siz_pos (d : PyData) : 1 ≤ siz d := by
  cases d with
  | tuple xs =>
    cases xs with
    | nil => exact Nat.le_refl _
    | cons x xs =>
      simp only [siz, sizT]
      split
      · split <;> omega
      · exact Nat.le_refl _
  | _ => exact Nat.le_refl _
theorem dpt_pos (d : PyData) : 1 ≤ dpt d := by
  cases d with
  | tuple xs =>
    cases xs with
    | nil => exact Nat.le_refl _
    | cons x xs =>
      simp only [dpt, dptT]
      split
      · split <;> omega
      · exact Nat.le_refl _
  | _ => exact Nat.le_refl _
theorem wellA_all : ∀ {xs : List PyData}, wellA xs = true ↔ ∀ x, x ∈ xs → well x = true
  | [] => ⟨fun _ x hx => (by cases hx), fun _ => rfl⟩
  | x :: xs => by
    simp only [wellA, Bool.and_eq_true, wellA_all (xs := xs)]
    exact ⟨fun h y hy => by
      rcases List.mem_cons.mp hy with rfl | hy
      · exact h.1
      · exact h.2 y hy, fun h => ⟨h x List.mem_cons_self, fun y hy => h y (List.mem_cons_of_mem _ hy)⟩⟩
theorem sizA_sum : ∀ {xs : List PyData}, sizA xs = (xs.map siz).sum
  | [] => rfl
  | x :: xs => by
    simp only [sizA, List.map_cons, List.sum_cons, sizA_sum (xs := xs)]
theorem dptA_le {n : Nat} : ∀ {xs : List PyData}, dptA xs ≤ n ↔ ∀ x, x ∈ xs → dpt x ≤ n
  | [] => ⟨fun _ x hx => (by cases hx), fun _ => Nat.zero_le _⟩
  | x :: xs => by
    have ih := dptA_le (n := n) (xs := xs)
    simp only [dptA]
    exact ⟨fun h y hy => by
      rcases List.mem_cons.mp hy with rfl | hy
      · omega
      · exact ih.mp (by omega) y hy, fun h => by
      have := h x List.mem_cons_self
      have := ih.mpr fun y hy => h y (List.mem_cons_of_mem _ hy)
      omega⟩
theorem part_form {d : PyData} (h : partD d = true) : ∃ z xs, d = .tuple (.str z :: xs) := by
  unfold partD at h
  split at h
  · exact ⟨_, _, rfl⟩
  · cases h
theorem well_eq (d : PyData) : well d = true ↔ partD d = true ∧ ∀ x, x ∈ sdsD d → well x = true := by
  cases d with
  | tuple xs =>
    cases xs with
    | nil => exact ⟨fun h => (by simp only [well, wellT] at h; exact nomatch h), fun h => nomatch h.1⟩
    | cons x xs =>
      cases x with
      | str z =>
        simp only [well, wellT, wordOf, partD, sdsD]
        by_cases e : z = "in"
        · simp only [if_pos e]
          exact ⟨fun h => ⟨h, fun x hx => (by cases hx)⟩, fun h => h.1⟩
        · simp only [if_neg e, Bool.and_eq_true, wellA_all]
      | _ => exact ⟨fun h => (by simp only [well, wellT, wordOf] at h; exact nomatch h), fun h => nomatch h.1⟩
  | _ => exact ⟨fun h => (by simp only [well] at h; exact nomatch h), fun h => nomatch h.1⟩
theorem siz_eq {d : PyData} (h : partD d = true) : siz d = 1 + ((sdsD d).map siz).sum := by
  obtain ⟨z, xs, rfl⟩ := part_form h
  simp only [siz, sizT, wordOf, sdsD]
  by_cases e : z = "in"
  · simp only [if_pos e]
    rfl
  · simp only [if_neg e, sizA_sum]
theorem dpt_le {d : PyData} {n : Nat} (h : partD d = true) : dpt d ≤ n + 1 ↔ ∀ x, x ∈ sdsD d → dpt x ≤ n := by
  obtain ⟨z, xs, rfl⟩ := part_form h
  simp only [dpt, dptT, wordOf, sdsD]
  by_cases e : z = "in"
  · simp only [if_pos e]
    exact ⟨fun _ x hx => (by cases hx), fun _ => by omega⟩
  · simp only [if_neg e]
    rw [← dptA_le]
    omega
theorem sides3 {d : PyData} (h : partD d = true) : (sdsD d).length ≤ 3 := by
  obtain ⟨z, xs, rfl⟩ := part_form h
  simp only [partD] at h
  simp only [sdsD]
  by_cases e : z = "in"
  · simp only [if_pos e]
    exact Nat.zero_le _
  · simp only [if_neg e, decide_eq_true_eq] at h ⊢
    unfold sideN dl_SIDES at h
    simp only [List.lookup] at h
    split at h
    · have := Option.some.inj h; omega
    · split at h
      · have := Option.some.inj h; omega
      · split at h
        · have := Option.some.inj h; omega
        · split at h
          · have := Option.some.inj h; omega
          · split at h
            · have := Option.some.inj h; omega
            · cases h
/-- what waits: things, and how deep they stand -/
def OkW (W : List (PyData × Nat)) (c : Nat) : Prop := (∀ e, e ∈ W → well e.1 = true ∧ e.2 + dpt e.1 ≤ 9) ∧ c + (W.map fun e => siz e.1).sum ≤ 24
theorem ok_step {W : List (PyData × Nat)} {d : PyData} {k c : Nat} (hp : partD d = true) (hk : k ≤ 8) : OkW (W ++ [(d, k)]) c ↔ OkW (W ++ (sdsD d).map fun s => (s, k + 1)) (c + 1) := by
  have e1 : ((W ++ [(d, k)]).map fun e => siz e.1).sum = (W.map fun e => siz e.1).sum + siz d := by
    rw [List.map_append, List.sum_append, List.map_cons, List.map_nil, List.sum_cons, List.sum_nil, Nat.add_zero]
  have e2 : ((W ++ (sdsD d).map fun s => (s, k + 1)).map fun e => siz e.1).sum = (W.map fun e => siz e.1).sum + ((sdsD d).map siz).sum := by
    rw [List.map_append, List.sum_append, List.map_map]
    rfl
  unfold OkW
  rw [e1, e2, siz_eq hp]
  refine ⟨fun ⟨a, b⟩ => ⟨fun e he => ?_, by omega⟩, fun ⟨a, b⟩ => ⟨fun e he => ?_, by omega⟩⟩
  · rcases List.mem_append.mp he with he | he
    · exact a e (List.mem_append_left _ he)
    · obtain ⟨s, hs, rfl⟩ := List.mem_map.mp he
      obtain ⟨w, l⟩ := a (d, k) (List.mem_append_right _ List.mem_cons_self)
      have l : k + dpt d ≤ 9 := l
      have := (dpt_le (n := 8 - k) hp).mp (by omega) s hs
      exact ⟨((well_eq d).mp w).2 s hs, by show k + 1 + dpt s ≤ 9; omega⟩
  · rcases List.mem_append.mp he with he | he
    · exact a e (List.mem_append_left _ he)
    · obtain rfl := List.mem_singleton.mp he
      have q : ∀ s, s ∈ sdsD d → well s = true ∧ k + 1 + dpt s ≤ 9 := fun s hs => a (s, k + 1) (List.mem_append_right _ (List.mem_map.mpr ⟨s, hs, rfl⟩))
      refine ⟨(well_eq d).mpr ⟨hp, fun s hs => (q s hs).1⟩, ?_⟩
      have := (dpt_le (n := 8 - k) hp).mpr fun s hs => by
        have := (q s hs).2
        omega
      show k + dpt d ≤ 9
      omega
theorem ok_no {W : List (PyData × Nat)} {d : PyData} {k c : Nat} (h : c + 1 > 24 ∨ k > 8 ∨ partD d = false) : ¬ OkW (W ++ [(d, k)]) c := fun ⟨a, b⟩ => by
  obtain ⟨w, l⟩ := a (d, k) (List.mem_append_right _ List.mem_cons_self)
  have l : k + dpt d ≤ 9 := l
  have := siz_pos d
  have := dpt_pos d
  rw [List.map_append, List.sum_append, List.map_cons, List.map_nil, List.sum_cons, List.sum_nil] at b
  rcases h with h | h | h
  · have b : c + ((W.map fun e => siz e.1).sum + (siz d + 0)) ≤ 24 := b
    omega
  · omega
  · have := ((well_eq d).mp w).1
    rw [h] at this
    cases this
def isF (d : PyData) : Bool := well d && (decide (siz d < 25) && decide (dpt d < 9))
theorem ok_isF {d : PyData} : OkW [(d, 1)] 0 ↔ isF d = true := by
  unfold OkW isF
  simp only [Bool.and_eq_true, decide_eq_true_eq, List.mem_singleton, List.map_cons, List.map_nil, List.sum_cons, List.sum_nil]
  exact ⟨fun ⟨a, b⟩ => by
    obtain ⟨w, l⟩ := a _ rfl
    have l : 1 + dpt d ≤ 9 := l
    exact ⟨w, by omega, by omega⟩, fun ⟨w, l, m⟩ => ⟨fun e he => by subst he; exact ⟨w, by show 1 + dpt d ≤ 9; omega⟩, by omega⟩⟩
/-! the program's dict of sides -/
theorem ent_key {e : DictEntry} {z : Str} {i : Int} (h : entI e = some (z, i)) : ∃ t u, e.key = .str z t ∧ e.val = .int i u := by
  unfold entI at h
  split at h
  · rename_i x t j u h1 h2
    cases h
    exact ⟨t, u, h1, h2⟩
  · cases h
theorem ents_find (z : Str) : ∀ (l : List DictEntry) (kvs : List (Str × Int)), l.map entI = kvs.map some →
    l.any (·.refKey) = false ∧ ((kvs.lookup z = none ∧ l.find? (·.key.isStr z) = none) ∨ ∃ i e t, kvs.lookup z = some i ∧ l.find? (·.key.isStr z) = some e ∧ e.val = .int i t)
  | [], [], _ => ⟨rfl, .inl ⟨rfl, rfl⟩⟩
  | [], _ :: _, h => by cases h
  | _ :: _, [], h => by cases h
  | e :: l, (k, i) :: kvs, h => by
    simp only [List.map_cons, List.cons.injEq] at h
    obtain ⟨t, u, h1, h2⟩ := ent_key h.1
    obtain ⟨r, ih⟩ := ents_find z l kvs h.2
    have rk : e.refKey = false := by
      unfold DictEntry.refKey
      rw [h1]
    refine ⟨by rw [List.any_cons, rk, r]; rfl, ?_⟩
    have ek : e.key.isStr z = (k == z) := by rw [h1]; rfl
    rw [List.find?_cons, ek, List.lookup_cons]
    by_cases c : k = z
    · subst c
      refine .inr ⟨i, e, u, ?_, ?_, h2⟩
      · simp
      · simp
    · have c1 : (k == z) = false := beq_false_of_ne c
      have c2 : (z == k) = false := beq_false_of_ne fun e => c e.symm
      rw [c1, c2]
      exact ih
theorem dic_ns {K : PySem.W.Frag} {a : Addr} {kvs : List (Str × Int)} (h : dicB K a kvs = true) (z : Str) : (kvs.lookup z = none ∧ PySem.W.nsIn K a z = some none) ∨ ∃ i t, kvs.lookup z = some i ∧ PySem.W.nsIn K a z = some (some (.int i t)) := by
  unfold dicB at h
  split at h
  · rename_i c d es n sl e
    obtain ⟨r, q⟩ := ents_find z _ _ (of_decide_eq_true h)
    unfold PySem.W.nsIn
    rw [e]
    dsimp only
    rcases q with ⟨h1, h2⟩ | ⟨i, e', t, h1, h2, h3⟩
    · rw [h2, r]
      exact .inl ⟨h1, rfl⟩
    · rw [h2]
      exact .inr ⟨i, t, h1, by rw [← h3]⟩
  · cases h
theorem op_inS {X : Cx} {K' : PySem.W.Frag} {w' : World} [D : DW K' w'] {C : Addr} (hK : X.K = K') (hw : X.w = w') (hC : C = He.ga K' "SIDES") : OpR X (compareOp .In) (fun x y H Q => ∃ z, x = .str z ∧ y = .ref C ∧ Q (.bl (sideN z).isSome) H) := by
  subst hK hw hC
  obtain ⟨es, n, kd⟩ := D.k_SIDES
  intro pins s σ H x y v u Q I rx ry h
  obtain ⟨z, rfl, rfl, q⟩ := h
  rcases dic_ns D.v_SIDES z with ⟨h1, h2⟩ | ⟨i, t, h1, h2⟩
  · refine op_in_kd kd pins s σ H _ _ v u Q I rx ry ⟨z, _, rfl, rfl, h2, ?_⟩
    have e : sideN z = none := h1
    rw [e] at q
    exact q
  · refine op_in_kd kd pins s σ H _ _ v u Q I rx ry ⟨z, _, rfl, rfl, h2, ?_⟩
    have e : sideN z = some i := h1
    rw [e] at q
    exact q
theorem ix_S {X : Cx} {K' : PySem.W.Frag} {w' : World} [D : DW K' w'] {C : Addr} (hK : X.K = K') (hw : X.w = w') (hC : C = He.ga K' "SIDES") : IxR X (fun x y H Q => ∃ z i, x = .ref C ∧ y = .str z ∧ sideN z = some i ∧ Q (.int i) H) := by
  subst hK hw hC
  obtain ⟨es, n, kd⟩ := D.k_SIDES
  intro value slice pins s σ H x y v u Q I rx ry h hs
  obtain ⟨z, i, rfl, rfl, e, q⟩ := h
  have ru := rx
  cases rx
  refine tail_any (kd_type kd I) PySem.slot_dict_getitem.lookup ?_ hs
  rcases dic_ns D.v_SIDES z with ⟨h1, h2⟩ | ⟨j, t, h1, h2⟩
  · have h1 : sideN z = none := h1
    rw [e] at h1
    cases h1
  · have h1 : sideN z = some j := h1
    rw [e] at h1
    cases h1
    exact op_item_kd kd pins s σ H (V.ref (He.ga X.K "SIDES")) (V.str z) _ u Q I ru ry ⟨z, _, .int i, rfl, rfl, h2, ⟨_, rfl⟩, q⟩
def sp_is_part (K : PySem.W.Frag) : Sp := fun vs H Q _ => ∃ (p : Addr → Prop) (v : V) (d : PyData), vs = [v] ∧ Tg p H v d ∧ Q (.bl (partD d)) H
theorem okArg_len {xs : List PyData} (h : ¬ xs.length = 1) : okArg xs = false := by
  unfold okArg
  split
  · exact absurd rfl h
  · rfl
theorem ok_is_part (T : Defs K mg) (TT : Tabs T base) : FnOk P w K mg base CX0 3 T.f_is_part T.fd_is_part ["thing"] (sp_is_part K) := by
  have G_is_within : FnOk P w K mg base CX0 2 T.f_is_within T.fd_is_within ["thing", "least", "greatest"] (sp_is_within K) := ok_is_within T TT
  refine T.F_is_part.ok sc_is_part (fun vs H Q E h => ?_) (fun cdv A outer s H vs Q E hr h => ?_)
  · obtain ⟨p, v, d, rfl, hv, q⟩ := h
    rfl
  · obtain ⟨p, v, d, rfl, hv, q⟩ := h
    refine ⟨_, PSs.nox (pss_cons (ps_if (PW.pt (pw_or (pt_not (pt_val (pe_callB call_isi (by rfl) T.m_isinstance bt_isinstance (pa_cons (pv 0) (pa_cons (pe_bltn (v := .ty "tuple") (by rfl) T.m_tuple bt_tuple rfl) pa_nil))))) (pw_or (pt_not (pt_truth (pv 0) (by intro _; rfl))) (pw_or1 (pt_not (pt_val (pe_callB call_isi (by rfl) T.m_isinstance bt_isinstance (pa_cons (pe_ix ix_tup (pv 0) pe_int (fun _ _ => rfl)) (pa_cons (pe_bltn (v := .ty "str") (by rfl) T.m_str bt_str rfl) pa_nil))))))))) (pss_one (ps_ret pe_bl)) pss_nil)
    (pss_cons (ps_if (pt_cmpR op_eq (pe_ix ix_tup (pv 0) pe_int (fun _ _ => rfl)) pe_str (nomark _)) (pss_one (ps_ret (pe_and (pe_cmpR op_eq (pe_callB call_len_seq (by rfl) T.m_len bt_len (pa_cons (pv 0) pa_nil)) pe_int (nomark _)) (pe_one (pe_call G_is_within (hr.mono (by decide)) (by rfl) T.g_is_within T.F_is_within.kp T.b_is_within .nil pass0 (pa_cons (pe_ix ix_tup (pv 0) pe_int (fun _ _ => rfl)) (pa_cons pe_int (pa_cons (pe_globI (by rfl) T.i_GREATEST_INPUT) pa_nil)))))))) pss_nil)
    (pss_one (ps_ret (pe_and (pe_cmpR (op_inS (K' := K) (w' := w) rfl rfl T.e_SIDES) (pe_ix ix_tup (pv 0) pe_int (fun _ _ => rfl)) ((pe_glob (v := .ref T.C_SIDES) (by rfl) T.g_SIDES rfl)) rfl) (pe_one (pe_cmpR op_eq (pe_callB call_len_seq (by rfl) T.m_len bt_len (pa_cons (pv 0) pa_nil)) (pe_op op_add pe_int (pe_ix (ix_S (K' := K) (w' := w) rfl rfl T.e_SIDES) ((pe_glob (v := .ref T.C_SIDES) (by rfl) T.g_SIDES rfl)) (pe_ix ix_tup (pv 0) pe_int (fun _ _ => rfl)) (fun _ _ => rfl))) (nomark _)))))))), ?_⟩
    obtain ⟨t, ty, -, -, kt, -, -⟩ := hv.ty (K := K)
    refine ⟨v, rfl, _, _, _, _, _, rfl, .ty "tuple", ty, kt, _, rfl, ?_⟩
    cases hv with
    | tup ne ha ts =>
      rename_i a xs ds
      refine iteF ⟨.ref a, rfl, !xs.isEmpty, .inr (.inl ⟨xs, SqT.mk ha, rfl⟩), ?_⟩
      cases ts with
      | nil => exact iteT q
      | cons h1 ts =>
        rename_i x xs d ds
        refine iteF ⟨.ref a, rfl, a, _, 0, _, rfl, rfl, SqT.mk ha, atI_nat (j := 0) rfl, ?_⟩
        obtain ⟨t1, ty1, -, -, -, ks, -⟩ := h1.ty (K := K)
        refine ⟨_, _, _, _, _, rfl, .ty "str", ty1, ks, _, rfl, ?_⟩
        cases h1 with
        | str z =>
          refine iteF ⟨.ref a, rfl, a, _, 0, _, rfl, rfl, SqT.mk ha, atI_nat (j := 0) rfl, rfl, _, rfl, ?_⟩
          by_cases e : z = "in"
          · subst e
            rw [decide_eq_true rfl]
            refine iteT ⟨.ref a, rfl, a, _, rfl, .inr (SqT.mk ha), rfl, _, rfl, ?_⟩
            have e2 : partD (.tuple (.str "in" :: ds)) = okArg ds := by simp only [partD, if_true]
            rw [e2] at q
            have ln := ts.len
            by_cases l : ds.length = 1
            · rw [decide_eq_true (show V.int ((V.str "in" :: xs).length : Nat) = V.int 2 by rw [List.length_cons, ln, l]; rfl)]
              match ds, l, xs, ts with
              | [d1], _, [x1], .cons h2 .nil =>
                refine iteT ⟨.ref a, rfl, a, _, 1, _, rfl, rfl, SqT.mk ha, atI_nat (j := 1) rfl, p, x1, d1, 0, 5, rfl, h2, ?_⟩
                have e3 : withinD d1 0 5 = okArg [d1] := by cases d1 <;> rfl
                rw [e3]
                exact q
            · rw [decide_eq_false (show ¬ V.int ((V.str "in" :: xs).length : Nat) = V.int 2 from fun y => by
                have := V.int.inj y
                rw [List.length_cons, ln] at this
                omega)]
              refine iteF ?_
              rw [okArg_len l] at q
              exact q
          · rw [decide_eq_false (show ¬ V.str z = V.str "in" from fun y => e (V.str.inj y))]
            refine iteF ⟨.ref a, rfl, a, _, 0, _, rfl, rfl, SqT.mk ha, atI_nat (j := 0) rfl, z, rfl, rfl, _, rfl, ?_⟩
            have e2 : partD (.tuple (.str z :: ds)) = decide (sideN z = some (ds.length : Int)) := by simp only [partD, if_neg e]
            rw [e2] at q
            cases e3 : sideN z with
            | none =>
              rw [e3] at q
              exact iteF q
            | some n =>
              rw [e3] at q
              refine iteT ⟨.ref a, rfl, a, _, rfl, .inr (SqT.mk ha), .ref a, rfl, a, _, 0, _, rfl, rfl, SqT.mk ha, atI_nat (j := 0) rfl, z, n, rfl, rfl, e3, _, _, rfl, rfl, rfl, ?_⟩
              have e4 : decide (V.int ((V.str z :: xs).length : Nat) = V.int (1 + n)) = decide (some n = some (ds.length : Int)) := decide_eq_decide.mpr ⟨fun y => by
                have := V.int.inj y
                rw [List.length_cons, ts.len] at this
                exact congrArg some (by omega), fun y => by
                have := Option.some.inj y
                rw [List.length_cons, ts.len]
                exact congrArg V.int (by omega)⟩
              show Q (.bl (decide (V.int ((V.str z :: xs).length : Nat) = V.int (1 + n)))) H
              rw [e4]
              exact q
        | _ => exact iteT q
    | _ => exact iteT q
def sp_sides_of (K : PySem.W.Frag) : Sp := fun vs H Q _ => ∃ (p : Addr → Prop) (v : V) (d : PyData), vs = [v] ∧ Tg p H v d ∧ partD d = true ∧ ∀ H' t us, Same H H' → H' t = some (.tup us) → TgA p H' us (sdsD d) → Q (.ref t) H'
theorem ok_sides_of (T : Defs K mg) (TT : Tabs T base) : FnOk P w K mg base CX0 1 T.f_sides_of T.fd_sides_of ["part"] (sp_sides_of K) := by
  refine T.F_sides_of.ok sc_sides_of (fun vs H Q E h => ?_) (fun cdv A outer s H vs Q E hr h => ?_)
  · obtain ⟨p, v, d, rfl, hv, hp, q⟩ := h
    rfl
  · obtain ⟨p, v, d, rfl, hv, hp, q⟩ := h
    refine ⟨_, PSs.nox (pss_cons (ps_if (pt_cmpR op_eq (pe_ix ix_tup (pv 0) pe_int (fun _ _ => rfl)) pe_str (nomark _)) (pss_one (ps_ret (pe_tup pa_nil))) pss_nil)
    (pss_one (ps_ret (pe_slice sl_tup (pv 0) (po_some pe_int) po_none)))), ?_⟩
    obtain ⟨z, ds, rfl⟩ := part_form hp
    cases hv with
    | tup ne ha ts =>
      rename_i a xs
      cases ts with
      | cons h1 ts =>
        rename_i x xs
        cases h1
        refine ⟨.ref a, rfl, a, _, 0, _, rfl, rfl, SqT.mk ha, atI_nat (j := 0) rfl, rfl, _, rfl, ?_⟩
        by_cases e : z = "in"
        · subst e
          rw [decide_eq_true rfl]
          exact iteT ⟨Nat.zero_le _, fun t nt => q _ t [] (same_upd nt) upd_same .nil⟩
        · rw [decide_eq_false (show ¬ V.str z = V.str "in" from fun y => e (V.str.inj y))]
          refine iteF ⟨.ref a, rfl, 1, rfl, a, _, rfl, SqT.mk ha, not_whole, fun t nt => ?_⟩
          rw [cut_tail]
          have e2 : sdsD (.tuple (.str z :: ds)) = ds := by simp only [sdsD, if_neg e]
          rw [e2] at q
          exact q _ t xs (same_upd nt) upd_same (ts.same (same_upd nt))
/-- the things that wait -/
def Wt (l : Addr) (G : Hp) (us : List V) (W : List (PyData × Nat)) : Prop := us.length = W.length ∧ ∀ (i : Nat) (u : V) (e : PyData × Nat), us[i]? = some u → W[i]? = some e → ∃ t v, u = .ref t ∧ t ≠ l ∧ G t = some (.tup [v, .int (e.2 : Nat)]) ∧ Tg (· = l) G v e.1
theorem Wt.but {l : Addr} {G G' : Hp} {us : List V} {W : List (PyData × Nat)} (h : Wt l G us W) (s : But l G G') : Wt l G' us W := ⟨h.1, fun i u e h1 h2 => by
  obtain ⟨t, v, a, b, c, d⟩ := h.2 i u e h1 h2
  exact ⟨t, v, a, b, s _ _ b c, d.but s⟩⟩
theorem Wt.app {l : Addr} {G : Hp} {us vs : List V} {W V' : List (PyData × Nat)} (h : Wt l G us W) (g : Wt l G vs V') : Wt l G (us ++ vs) (W ++ V') := ⟨by rw [List.length_append, List.length_append, h.1, g.1], fun i u e h1 h2 => by
  by_cases z : i < us.length
  · rw [List.getElem?_append_left z] at h1
    rw [List.getElem?_append_left (by rw [← h.1]; exact z)] at h2
    exact h.2 i u e h1 h2
  · rw [List.getElem?_append_right (by omega)] at h1
    rw [List.getElem?_append_right (by rw [← h.1]; omega), ← h.1] at h2
    exact g.2 _ u e h1 h2⟩
theorem Wt.init {l : Addr} {G : Hp} {us : List V} {u : V} {W : List (PyData × Nat)} {e : PyData × Nat} (h : Wt l G (us ++ [u]) (W ++ [e])) : Wt l G us W ∧ us.length = W.length ∧ ∃ t v, u = .ref t ∧ t ≠ l ∧ G t = some (.tup [v, .int (e.2 : Nat)]) ∧ Tg (· = l) G v e.1 := by
  have ln : us.length = W.length := by
    have := h.1
    rw [List.length_append, List.length_append, List.length_singleton, List.length_singleton] at this
    omega
  refine ⟨⟨ln, fun i x y h1 h2 => ?_⟩, ln, h.2 us.length u e (by simp) (by rw [ln]; simp)⟩
  have i1 := (List.getElem?_eq_some_iff.mp h1).1
  exact h.2 i x y (by rw [List.getElem?_append_left i1]; exact h1) (by rw [List.getElem?_append_left (by omega)]; exact h2)
theorem snoc_of {α : Type} {xs : List α} (h : xs ≠ []) : ∃ ys y, xs = ys ++ [y] := ⟨xs.dropLast, xs.getLast h, (List.dropLast_concat_getLast h).symm⟩
theorem sz25 {c : Nat} : (25 - (((c + 1 : Nat) : Int)).toNat) < 25 - ((c : Int)).toNat ∨ 25 ≤ c := by omega
def sp_is_formula (K : PySem.W.Frag) : Sp := fun vs H Q _ => ∃ (p : Addr → Prop) (v : V) (d : PyData), vs = [v] ∧ Tg p H v d ∧ ∀ H', Same H H' → Q (.bl (isF d)) H'
theorem ok_is_formula (T : Defs K mg) (TT : Tabs T base) : FnOk P w K mg base CX0 4 T.f_is_formula T.fd_is_formula ["thing"] (sp_is_formula K) := by
  have G_is_part : FnOk P w K mg base CX0 3 T.f_is_part T.fd_is_part ["thing"] (sp_is_part K) := ok_is_part T TT
  have G_sides_of : FnOk P w K mg base CX0 1 T.f_sides_of T.fd_sides_of ["part"] (sp_sides_of K) := ok_sides_of T TT
  refine T.F_is_formula.ok sc_is_formula (fun vs H Q E h => ?_) (fun cdv A outer s H vs Q E hr h => ?_)
  · obtain ⟨p, v, d, rfl, hv, q⟩ := h
    rfl
  · obtain ⟨p, v, d, rfl, hv, q⟩ := h
    refine ⟨_, PSs.nox (pss_cons (ps_set (i := 1) sc_is_formula.nd rfl (.inl rfl) (pe_lst (pa_cons (pe_tup (pa_cons (pv 0) (pa_cons pe_int pa_nil))) pa_nil)))
    (pss_cons (ps_set (i := 2) sc_is_formula.nd rfl (.inl rfl) pe_int)
    (pss_cons (ps_while PassesOwn.never (pt_truth (pv 1) (by intro _; rfl)) (pss_cons (ps_asg (pe_bm0 PySem.F.plainAttrs_list PySem.F.slot_list_pop PySem.F.type_list_pop mt_pop (pv 1)) (pg_tup rfl (pgs_cons (pg_name (i := 3) sc_is_formula.nd rfl (.inl rfl)) (pgs_cons (pg_name (i := 4) sc_is_formula.nd rfl (.inr rfl)) pgs_nil))))
    (pss_cons (ps_aug (i := 2) sc_is_formula.nd rfl (.inl rfl) pe_int ip_add)
    (pss_cons (ps_if (PW.pt (pw_or (pt_cmpR op_gt (pv 2) (pe_globI (by rfl) T.i_MOST_PARTS) (nomark _)) (pw_or (pt_cmpR op_gt (pv 4) (pe_globI (by rfl) T.i_DEEPEST) (nomark _)) (pw_or1 (pt_not (pt_val (pe_call G_is_part (hr.mono (by decide)) (by rfl) T.g_is_part T.F_is_part.kp T.b_is_part .nil pass0 (pa_cons (pv 3) pa_nil)))))))) (pss_one (ps_ret pe_bl)) pss_nil)
    (pss_one (ps_expr (pe_bm PySem.F.plainAttrs_list PySem.F.slot_list_extend PySem.F.type_list_extend mt_extend (pv 1) (pa_cons (pe_lc (own := [("side", 5)]) (g := gName 5) (tt := tYes) rfl sc_is_formula.nd (pi_tup (pe_call G_sides_of (hr.mono (by decide)) (by rfl) T.g_sides_of T.F_sides_of.kp T.b_sides_of .nil pass0 (pa_cons (pv 3) pa_nil))) (blkOk_by (N := N_is_formula) (sc := defScope s_is_formula) (by decide +kernel)) (fun _ _ _ _ _ => (pg_name (i := 5) sc_is_formula.nd rfl (.inl rfl))) (fun _ _ _ _ _ => pts_nil) (fun _ _ _ _ _ => (pe_tup (pa_cons (pv 5) (pa_cons (pe_op op_add (pv 4) pe_int) pa_nil))))) pa_nil))))))))
    (pss_one (ps_ret pe_bl))))), ?_⟩
    have hsl : sizeLine = 16777216 := by decide
    refine ⟨v, rfl, (show 2 ≤ sizeLine by decide), fun t nt => ⟨(show 1 ≤ sizeLine by decide), fun l nl => ?_⟩⟩
    have s1 := same_upd nt (o := .tup [v, .int 1])
    have ht := upd_same (H := H) (a := t) (o := .tup [v, .int 1])
    have nlH : H l = none := s1.free nl
    generalize upd H t (.tup [v, .int 1]) = H1 at s1 ht nl ⊢
    have hv1 := (hv.same s1).new nl (o := .lst [.ref t])
    have tl : t ≠ l := ne_of_none ht nl
    have ht2 := same_upd nl (o := .lst [.ref t]) _ _ ht
    have s2 := s1.trans (same_upd nl (o := .lst [.ref t]))
    have hl := upd_same (H := H1) (a := l) (o := .lst [.ref t])
    generalize upd H1 l (.lst [.ref t]) = H2 at s2 hl ht2 hv1 ⊢
    dsimp only [gName, tSeq, tAsg, tC, L2.start]
    show tWhile _ _ _ [some v, some (.ref l), some (.int 0), none, none, none] H2
    refine while_by (fun σ G => ∃ (c : Nat) (y3 y4 y5 : Option V) (us : List V) (W : List (PyData × Nat)), σ = [some v, some (.ref l), some (.int (c : Nat)), y3, y4, y5] ∧ Same H G ∧ G l = some (.lst us) ∧ Wt l G us W ∧ c ≤ 24 ∧ W.length ≤ 1 + 3 * c ∧ (OkW W c ↔ isF d = true)) (fun σ _ => match σ with | [_, _, some (.int c), _, _, _] => 25 - c.toNat | _ => 0) ⟨0, none, none, none, [.ref t], [(d, 1)], rfl, s2, hl, ⟨rfl, fun i u e h1 h2 => ?_⟩, Nat.zero_le _, Nat.le_refl _, ok_isF⟩ ?_ ?_
    · cases i with
      | zero =>
        cases h1
        cases h2
        exact ⟨t, v, rfl, tl, ht2, hv1⟩
      | succ i => cases h1
    · rintro σ G ⟨c, y3, y4, y5, us, W, rfl, sG, hG, hW, hc, hl1, hok⟩
      refine ⟨.ref l, rfl, !us.isEmpty, .inl ⟨us, SqL.mk hG, rfl⟩, ?_⟩
      by_cases em : us = []
      · subst em
        have e1 : W = [] := List.eq_nil_of_length_eq_zero hW.1.symm
        subst e1
        have e2 : isF d = true := hok.mp ⟨fun e he => (by cases he), by simpa using hc⟩
        rw [e2] at q
        exact iteF (q _ sG)
      · have em2 : us.isEmpty = false := by
          cases us
          · exact absurd rfl em
          · rfl
        rw [em2]
        refine iteT ?_
        obtain ⟨us', u, rfl⟩ := snoc_of em
        obtain ⟨W', ⟨de, k⟩, rfl⟩ := snoc_of (xs := W) (fun e => by
          have := hW.1
          rw [e] at this
          simp at this)
        obtain ⟨hW', lnW, tt, vv, rfl, ntl, htt, hvv⟩ := hW.init
        refine ⟨.ref l, rfl, .inl ⟨rfl, _, SqL.mk hG⟩, l, _, .ref tt, rfl, rfl, hG, by simp, ?_⟩
        rw [List.dropLast_concat]
        have b1 := (But.refl l G).put (o := .lst us')
        have sG1 := same_newer sG nlH (o := .lst us')
        have hG1 := upd_same (H := G) (a := l) (o := .lst us')
        generalize upd G l (.lst us') = G1 at b1 sG1 hG1 ⊢
        refine ⟨tt, _, rfl, SqT.mk (b1 _ _ ntl htt), rfl, ?_⟩
        refine ⟨_, _, rfl, _, _, rfl, rfl, .int (c : Nat), rfl, _, _, rfl, rfl, ?_⟩
        have hW1 := hW'.but b1
        have hv1 := hvv.but b1
        have fls : (c + 1 > 24 ∨ k > 8 ∨ partD de = false) → isF d = false := fun h => by
          cases e : isF d
          · rfl
          · exact absurd (hok.mpr e) (ok_no h)
        refine ⟨_, rfl, _, _, rfl, rfl, _, rfl, ?_⟩
        by_cases c1 : (24 : Int) < (c : Int) + 1
        · rw [decide_eq_true c1]
          have e := fls (.inl (by omega))
          rw [e] at q
          exact iteT (iteT (q _ sG1))
        rw [decide_eq_false c1]
        refine iteF ⟨_, rfl, _, _, rfl, rfl, _, rfl, ?_⟩
        by_cases c2 : (8 : Int) < ((k : Nat) : Int)
        · have c2' : decide ((8 : Int) < (((de, k) : PyData × Nat).2 : Int)) = true := decide_eq_true c2
          rw [c2']
          have e := fls (.inr (.inl (by omega)))
          rw [e] at q
          exact iteT (iteT (q _ sG1))
        have c2' : decide ((8 : Int) < (((de, k) : PyData × Nat).2 : Int)) = false := decide_eq_false c2
        rw [c2']
        refine iteF ⟨vv, rfl, (· = l), vv, de, rfl, hv1, _, rfl, ?_⟩
        by_cases c3 : partD de = true
        · rw [c3]
          refine iteF ?_
          have s3 := sides3 c3
          have lW : W'.length + 1 ≤ 1 + 3 * c := by
            rw [List.length_append, List.length_singleton] at hl1
            exact hl1
          refine ⟨.ref l, rfl, .inl ⟨rfl, _, SqL.mk hG1⟩, vv, rfl, (· = l), vv, de, rfl, hv1, c3, fun G2 t2 us2 s2 ht2 hts2 => ⟨t2, rfl, ⟨_, SqT.mk ht2⟩, fun C nC => ?_⟩⟩
          have l2 := hts2.len
          have hl2 := s2 _ _ hG1
          refine lc_tup (xs := us2) (fun i G => Same G2 G ∧ ∃ ws, G C = some (.lst ws) ∧ ws.length = i ∧ ∀ j u, j < i → us2[j]? = some u → ∃ t, ws[j]? = some (.ref t) ∧ t ≠ l ∧ G t = some (.tup [u, .int ((k + 1 : Nat) : Int)])) ⟨same_upd nC, [], upd_same, rfl, fun j u hj => absurd hj (Nat.not_lt_zero j)⟩ (fun i G _ h => SqT.mk (h.1 _ _ ht2)) (fun i u G hu h => ?_) (fun G h => ?_)
          · obtain ⟨sG3, ws, hC, lw, hws⟩ := h
            have iu := (List.getElem?_eq_some_iff.mp hu).1
            refine ⟨rfl, yes_ite ?_⟩
            refine ⟨u, rfl, .int (k : Nat), rfl, _, _, rfl, rfl, (show 2 ≤ sizeLine by decide), fun t5 n5 => ?_⟩
            have s5 := same_upd n5 (o := .tup [u, .int ((k : Nat) + 1 : Int)])
            have ne5 : t5 ≠ C := fun e => by rw [e, hC] at n5; cases n5
            have nl5 : t5 ≠ l := fun e => by rw [e, sG3 _ _ hl2] at n5; cases n5
            refine ⟨ws, s5 _ _ hC, by omega, same_newer (sG3.trans s5) nC, _, upd_same, by rw [List.length_append, List.length_singleton, lw], fun j x hj hx => ?_⟩
            by_cases z : j < i
            · obtain ⟨t, h1, h2, h3⟩ := hws j x z hx
              refine ⟨t, by rw [List.getElem?_append_left (by omega)]; exact h1, h2, ?_⟩
              rw [upd_ne (ne_of h3 hC (fun e => by cases e))]
              exact s5 _ _ h3
            · obtain rfl : j = i := by omega
              rw [hu] at hx
              cases hx
              refine ⟨t5, by rw [← lw]; simp, nl5, ?_⟩
              rw [upd_ne ne5]
              exact upd_same
          · obtain ⟨sG3, ws, hC, lw, hws⟩ := h
            have hl3 := sG3 _ _ hl2
            have nlC : l ≠ C := fun e => by rw [← e, hl2] at nC; cases nC
            refine ⟨l, C, us', ws, rfl, rfl, hl3, hC, by omega, ?_⟩
            have bL : But l G1 (upd G l (.lst (us' ++ ws))) := (same_but (s2.trans sG3)).put
            have bL2 : But l G2 (upd G l (.lst (us' ++ ws))) := (same_but sG3).put
            have bL3 : But l G (upd G l (.lst (us' ++ ws))) := (But.refl l G).put
            have wts : Wt l (upd G l (.lst (us' ++ ws))) ws ((sdsD de).map fun s => (s, k + 1)) := by
              refine ⟨by rw [lw, List.length_map, l2], fun i u e h1 h2 => ?_⟩
              have iw := (List.getElem?_eq_some_iff.mp h1).1
              have iu : i < us2.length := by omega
              obtain ⟨t, g1, g2, g3⟩ := hws i us2[i] iu (List.getElem?_eq_getElem iu)
              obtain ⟨dd, g4, g5⟩ := hts2.get (List.getElem?_eq_getElem iu)
              rw [h1] at g1
              cases g1
              rw [List.getElem?_map, g4] at h2
              cases h2
              exact ⟨t, _, rfl, g2, bL3 _ _ g2 g3, g5.but bL2⟩
            refine ⟨⟨c + 1, _, _, _, us' ++ ws, W' ++ (sdsD de).map fun s => (s, k + 1), rfl, same_newer (sG1.trans (s2.trans sG3)) nlH, upd_same, (hW1.but bL).app wts, by omega, by rw [List.length_append, List.length_map]; omega, (ok_step c3 (by omega)).symm.trans hok⟩, ?_⟩
            show 25 - ((c : Int) + 1).toNat < 25 - ((c : Int)).toNat
            omega
        · have c3' : partD de = false := by
            cases e : partD de
            · rfl
            · exact absurd e c3
          rw [c3']
          have e := fls (.inr (.inr c3'))
          rw [e] at q
          exact iteT (q _ sG1)
    · rintro σ H1 Q1 Q2 hQ ⟨v, hv, k, tk, h3⟩
      exact ⟨v, hv, k, tk, hQ _ _ h3⟩
/-! formulas as nested texts -/
theorem fm_well : ∀ {f : Fm}, (∀ i, i ∈ f.ins → i < 6) → well f.data = true ∧ siz f.data = f.sz ∧ dpt f.data = f.dep
  | .inp i, h => by
    have := h i List.mem_cons_self
    refine ⟨?_, ?_, ?_⟩
    · simp only [Fm.data, well, wellT, wordOf, if_true, okArg]
      exact decide_eq_true (by omega)
    · simp only [Fm.data, siz, sizT, wordOf, if_true, Fm.sz]
    · simp only [Fm.data, dpt, dptT, wordOf, if_true, Fm.dep]
  | .less f, h => by
    obtain ⟨a, b, c⟩ := fm_well (f := f) h
    have n : ¬ ("less" : Str) = "in" := by decide +kernel
    refine ⟨?_, ?_, ?_⟩
    · simp only [Fm.data, well, wellT, wordOf, if_neg n, wellA, a, Bool.and_true]
      exact decide_eq_true (show sideN "less" = some 1 by decide +kernel)
    · simp only [Fm.data, siz, sizT, wordOf, if_neg n, sizA, b, Fm.sz]
      omega
    · simp only [Fm.data, dpt, dptT, wordOf, if_neg n, dptA, c, Fm.dep]
      omega
  | .both f g, h => by
    obtain ⟨a, b, c⟩ := fm_well (f := f) fun i hi => h i (List.mem_append_left _ hi)
    obtain ⟨a2, b2, c2⟩ := fm_well (f := g) fun i hi => h i (List.mem_append_right _ hi)
    have n : ¬ ("both" : Str) = "in" := by decide +kernel
    refine ⟨?_, ?_, ?_⟩
    · simp only [Fm.data, well, wellT, wordOf, if_neg n, wellA, a, a2, Bool.and_true]
      exact decide_eq_true (show sideN "both" = some 2 by decide +kernel)
    · simp only [Fm.data, siz, sizT, wordOf, if_neg n, sizA, b, b2, Fm.sz]
      omega
    · simp only [Fm.data, dpt, dptT, wordOf, if_neg n, dptA, c, c2, Fm.dep]
      omega
  | .either f g, h => by
    obtain ⟨a, b, c⟩ := fm_well (f := f) fun i hi => h i (List.mem_append_left _ hi)
    obtain ⟨a2, b2, c2⟩ := fm_well (f := g) fun i hi => h i (List.mem_append_right _ hi)
    have n : ¬ ("either" : Str) = "in" := by decide +kernel
    refine ⟨?_, ?_, ?_⟩
    · simp only [Fm.data, well, wellT, wordOf, if_neg n, wellA, a, a2, Bool.and_true]
      exact decide_eq_true (show sideN "either" = some 2 by decide +kernel)
    · simp only [Fm.data, siz, sizT, wordOf, if_neg n, sizA, b, b2, Fm.sz]
      omega
    · simp only [Fm.data, dpt, dptT, wordOf, if_neg n, dptA, c, c2, Fm.dep]
      omega
  | .oneof f g, h => by
    obtain ⟨a, b, c⟩ := fm_well (f := f) fun i hi => h i (List.mem_append_left _ hi)
    obtain ⟨a2, b2, c2⟩ := fm_well (f := g) fun i hi => h i (List.mem_append_right _ hi)
    have n : ¬ ("oneof" : Str) = "in" := by decide +kernel
    refine ⟨?_, ?_, ?_⟩
    · simp only [Fm.data, well, wellT, wordOf, if_neg n, wellA, a, a2, Bool.and_true]
      exact decide_eq_true (show sideN "oneof" = some 2 by decide +kernel)
    · simp only [Fm.data, siz, sizT, wordOf, if_neg n, sizA, b, b2, Fm.sz]
      omega
    · simp only [Fm.data, dpt, dptT, wordOf, if_neg n, dptA, c, c2, Fm.dep]
      omega
  | .pick f g k, h => by
    obtain ⟨a, b, c⟩ := fm_well (f := f) fun i hi => h i (List.mem_append_left _ hi)
    obtain ⟨a2, b2, c2⟩ := fm_well (f := g) fun i hi => h i (List.mem_append_right _ (List.mem_append_left _ hi))
    obtain ⟨a3, b3, c3⟩ := fm_well (f := k) fun i hi => h i (List.mem_append_right _ (List.mem_append_right _ hi))
    have n : ¬ ("pick" : Str) = "in" := by decide +kernel
    refine ⟨?_, ?_, ?_⟩
    · simp only [Fm.data, well, wellT, wordOf, if_neg n, wellA, a, a2, a3, Bool.and_true]
      exact decide_eq_true (show sideN "pick" = some 3 by decide +kernel)
    · simp only [Fm.data, siz, sizT, wordOf, if_neg n, sizA, b, b2, b3, Fm.sz]
      omega
    · simp only [Fm.data, dpt, dptT, wordOf, if_neg n, dptA, c, c2, c3, Fm.dep]
      omega
theorem fm_isF {f : Fm} (h : ∀ i, i ∈ f.ins → i < 6) (d : f.dep ≤ 8) (s : f.sz ≤ 24) : isF f.data = true := by
  obtain ⟨a, b, c⟩ := fm_well h
  unfold isF
  rw [a, b, c, decide_eq_true (by omega), decide_eq_true (by omega)]
  rfl


def Fm.nt : Fm → Nt
  | .inp i => .node "in" [.num i]
  | .less f => .node "less" [f.nt]
  | .both f g => .node "both" [f.nt, g.nt]
  | .either f g => .node "either" [f.nt, g.nt]
  | .oneof f g => .node "oneof" [f.nt, g.nt]
  | .pick f g h => .node "pick" [f.nt, g.nt, h.nt]
theorem wo_in : WdOk "in" := wdOk_of (by decide +kernel) (by decide +kernel)
theorem wo_less : WdOk "less" := wdOk_of (by decide +kernel) (by decide +kernel)
theorem wo_both : WdOk "both" := wdOk_of (by decide +kernel) (by decide +kernel)
theorem wo_either : WdOk "either" := wdOk_of (by decide +kernel) (by decide +kernel)
theorem wo_oneof : WdOk "oneof" := wdOk_of (by decide +kernel) (by decide +kernel)
theorem wo_pick : WdOk "pick" := wdOk_of (by decide +kernel) (by decide +kernel)
theorem fnt_data : ∀ f : Fm, f.nt.data = f.data
  | .inp i => node_data (by decide +kernel)
  | .less f => by
    show (Nt.node "less" [f.nt]).data = _
    rw [node_data (by decide +kernel)]
    show PyData.tuple [.str "less", f.nt.data] = _
    rw [fnt_data f]
    rfl
  | .both f g => by
    show (Nt.node "both" [f.nt, g.nt]).data = _
    rw [node_data (by decide +kernel)]
    show PyData.tuple [.str "both", f.nt.data, g.nt.data] = _
    rw [fnt_data f, fnt_data g]
    rfl
  | .either f g => by
    show (Nt.node "either" [f.nt, g.nt]).data = _
    rw [node_data (by decide +kernel)]
    show PyData.tuple [.str "either", f.nt.data, g.nt.data] = _
    rw [fnt_data f, fnt_data g]
    rfl
  | .oneof f g => by
    show (Nt.node "oneof" [f.nt, g.nt]).data = _
    rw [node_data (by decide +kernel)]
    show PyData.tuple [.str "oneof", f.nt.data, g.nt.data] = _
    rw [fnt_data f, fnt_data g]
    rfl
  | .pick f g h => by
    show (Nt.node "pick" [f.nt, g.nt, h.nt]).data = _
    rw [node_data (by decide +kernel)]
    show PyData.tuple [.str "pick", f.nt.data, g.nt.data, h.nt.data] = _
    rw [fnt_data f, fnt_data g, fnt_data h]
    rfl
theorem fnt_dep : ∀ f : Fm, f.nt.dep = f.dep
  | .inp i => by
    simp only [Fm.nt, Nt.dep, Nt.deps, Fm.dep]
    omega
  | .less f => by
    have := fnt_dep f
    simp only [Fm.nt, Nt.dep, Nt.deps, Fm.dep]
    omega
  | .both f g => by
    have := fnt_dep f
    have := fnt_dep g
    simp only [Fm.nt, Nt.dep, Nt.deps, Fm.dep]
    omega
  | .either f g => by
    have := fnt_dep f
    have := fnt_dep g
    simp only [Fm.nt, Nt.dep, Nt.deps, Fm.dep]
    omega
  | .oneof f g => by
    have := fnt_dep f
    have := fnt_dep g
    simp only [Fm.nt, Nt.dep, Nt.deps, Fm.dep]
    omega
  | .pick f g h => by
    have := fnt_dep f
    have := fnt_dep g
    have := fnt_dep h
    simp only [Fm.nt, Nt.dep, Nt.deps, Fm.dep]
    omega
theorem len_in : ("in" : Str).length ≤ 6 ∧ ("less" : Str).length ≤ 6 ∧ ("both" : Str).length ≤ 6 ∧ ("either" : Str).length ≤ 6 ∧ ("oneof" : Str).length ≤ 6 ∧ ("pick" : Str).length ≤ 6 := by decide +kernel
theorem fnt_wt : ∀ f : Fm, f.nt.wt + 1 ≤ 20 * f.sz
  | .inp i => by
    have := len_in
    simp only [Fm.nt, Nt.wt, Nt.wts, Fm.sz]
    omega
  | .less f => by
    have := fnt_wt f
    have := len_in
    simp only [Fm.nt, Nt.wt, Nt.wts, Fm.sz]
    omega
  | .both f g => by
    have := fnt_wt f
    have := fnt_wt g
    have := len_in
    simp only [Fm.nt, Nt.wt, Nt.wts, Fm.sz]
    omega
  | .either f g => by
    have := fnt_wt f
    have := fnt_wt g
    have := len_in
    simp only [Fm.nt, Nt.wt, Nt.wts, Fm.sz]
    omega
  | .oneof f g => by
    have := fnt_wt f
    have := fnt_wt g
    have := len_in
    simp only [Fm.nt, Nt.wt, Nt.wts, Fm.sz]
    omega
  | .pick f g h => by
    have := fnt_wt f
    have := fnt_wt g
    have := fnt_wt h
    have := len_in
    simp only [Fm.nt, Nt.wt, Nt.wts, Fm.sz]
    omega
theorem fnt_ok : ∀ f : Fm, (∀ i, i ∈ f.ins → i < 6) → f.nt.Ok
  | .inp i, h => by
    have := h i List.mem_cons_self
    simp only [Fm.nt, Nt.Ok, Nt.Oks]
    exact ⟨wo_in, by omega, trivial⟩
  | .less f, h => by
    simp only [Fm.nt, Nt.Ok, Nt.Oks]
    exact ⟨wo_less, fnt_ok f h, trivial⟩
  | .both f g, h => by
    simp only [Fm.nt, Nt.Ok, Nt.Oks]
    exact ⟨wo_both, fnt_ok f fun i hi => h i (List.mem_append_left _ hi), fnt_ok g fun i hi => h i (List.mem_append_right _ hi), trivial⟩
  | .either f g, h => by
    simp only [Fm.nt, Nt.Ok, Nt.Oks]
    exact ⟨wo_either, fnt_ok f fun i hi => h i (List.mem_append_left _ hi), fnt_ok g fun i hi => h i (List.mem_append_right _ hi), trivial⟩
  | .oneof f g, h => by
    simp only [Fm.nt, Nt.Ok, Nt.Oks]
    exact ⟨wo_oneof, fnt_ok f fun i hi => h i (List.mem_append_left _ hi), fnt_ok g fun i hi => h i (List.mem_append_right _ hi), trivial⟩
  | .pick f g k, h => by
    simp only [Fm.nt, Nt.Ok, Nt.Oks]
    exact ⟨wo_pick, fnt_ok f fun i hi => h i (List.mem_append_left _ hi), fnt_ok g fun i hi => h i (List.mem_append_right _ (List.mem_append_left _ hi)), fnt_ok k fun i hi => h i (List.mem_append_right _ (List.mem_append_right _ hi)), trivial⟩
theorem fnt_node (f : Fm) : f.nt = .node f.nt.wd f.nt.sub := by cases f <;> rfl
/-- what is written of it -/
def Fm.txt (f : Fm) : Str := ntx f.nt.wd f.nt.sub
theorem fnt_tb : ∀ f : Fm, f.nt.Tb
  | .inp i => by
    simp only [Fm.nt, Nt.Tb, Nt.Tbs]
    exact ⟨fun z => absurd z (by decide +kernel), trivial, trivial⟩
  | .less f => by
    simp only [Fm.nt, Nt.Tb, Nt.Tbs]
    exact ⟨fun z => absurd z (by decide +kernel), fnt_tb f, trivial⟩
  | .both f g => by
    simp only [Fm.nt, Nt.Tb, Nt.Tbs]
    exact ⟨fun z => absurd z (by decide +kernel), fnt_tb f, fnt_tb g, trivial⟩
  | .either f g => by
    simp only [Fm.nt, Nt.Tb, Nt.Tbs]
    exact ⟨fun z => absurd z (by decide +kernel), fnt_tb f, fnt_tb g, trivial⟩
  | .oneof f g => by
    simp only [Fm.nt, Nt.Tb, Nt.Tbs]
    exact ⟨fun z => absurd z (by decide +kernel), fnt_tb f, fnt_tb g, trivial⟩
  | .pick f g h => by
    simp only [Fm.nt, Nt.Tb, Nt.Tbs]
    exact ⟨fun z => absurd z (by decide +kernel), fnt_tb f, fnt_tb g, fnt_tb h, trivial⟩
/-! k57: what is read of any text; raw trees -/
inductive Rt where
  | w (z : Str)
  | n (ts : List Rt)
mutual
def Rt.data : Rt → PyData
  | .w z => wordD z
  | .n ts => shp (Rt.datas ts)
def Rt.datas : List Rt → List PyData
  | [] => []
  | t :: ts => t.data :: Rt.datas ts
end
mutual
def Rt.wds : Rt → List Str
  | .w z => [z]
  | .n ts => ("(" : Str) :: (Rt.wdss ts ++ [(")" : Str)])
def Rt.wdss : List Rt → List Str
  | [] => []
  | t :: ts => t.wds ++ Rt.wdss ts
end
theorem rdatas_app : ∀ a b : List Rt, Rt.datas (a ++ b) = Rt.datas a ++ Rt.datas b
  | [], _ => rfl
  | t :: a, b => by
    show t.data :: Rt.datas (a ++ b) = _
    rw [rdatas_app a b]
    rfl
theorem rwdss_app : ∀ a b : List Rt, Rt.wdss (a ++ b) = Rt.wdss a ++ Rt.wdss b
  | [], _ => rfl
  | t :: a, b => by
    show t.wds ++ Rt.wdss (a ++ b) = _
    rw [rwdss_app a b, ← List.append_assoc]
    rfl
/-- the words of the levels, the innermost first -/
def lvw : List (List Rt) → List Str
  | [] => []
  | [t] => Rt.wdss t
  | t :: r => lvw r ++ ("(" : Str) :: Rt.wdss t
theorem lvw_cons {t : List Rt} {r : List (List Rt)} (h : r ≠ []) : lvw (t :: r) = lvw r ++ ("(" : Str) :: Rt.wdss t := by
  cases r with
  | nil => exact absurd rfl h
  | cons _ _ => rfl
theorem lvw_snoc (t : List Rt) (u : Rt) : ∀ r, lvw ((t ++ [u]) :: r) = lvw (t :: r) ++ u.wds
  | [] => by
    show Rt.wdss (t ++ [u]) = Rt.wdss t ++ u.wds
    rw [rwdss_app]
    show _ ++ (u.wds ++ []) = _
    rw [List.append_nil]
  | x :: r => by
    rw [lvw_cons (r := x :: r) (fun z => by cases z), lvw_cons (r := x :: r) (fun z => by cases z), rwdss_app, List.append_assoc]
    show lvw (x :: r) ++ ("(" : Str) :: (Rt.wdss t ++ (u.wds ++ [])) = _
    rw [List.append_nil]
    rfl
theorem pstep_open (t : List PyData) (r : List (List PyData)) : pstep (t :: r) "(" = [] :: t :: r := by
  unfold pstep
  dsimp only
  rw [if_pos rfl]
theorem pstep_shut (t u : List PyData) (r : List (List PyData)) : pstep (t :: u :: r) ")" = (u ++ [shp t]) :: r := by
  unfold pstep
  dsimp only
  rw [if_neg (by decide +kernel), if_pos rfl]
theorem pstep_word (t : List PyData) (r : List (List PyData)) {z : Str} (h1 : z ≠ "(") (h2 : z = ")" → r = []) : pstep (t :: r) z = (t ++ [wordD z]) :: r := by
  unfold pstep
  dsimp only
  rw [if_neg h1]
  by_cases e : z = ")"
  · rw [if_pos e, h2 e]
  · rw [if_neg e]
theorem pstep_raw {t : List Rt} {r : List (List Rt)} (z : Str) : ∃ R : List (List Rt), R ≠ [] ∧ pstep ((t :: r).map Rt.datas) z = R.map Rt.datas ∧ lvw R = lvw (t :: r) ++ [z] := by
  by_cases e1 : z = "("
  · subst e1
    refine ⟨[] :: t :: r, by simp, ?_, ?_⟩
    · exact pstep_open _ _
    · rw [lvw_cons (by simp)]
      rfl
  by_cases e2 : z = ")" ∧ r ≠ []
  · obtain ⟨rfl, hr⟩ := e2
    obtain ⟨u, r', rfl⟩ : ∃ u r', r = u :: r' := by
      cases r with
      | nil => exact absurd rfl hr
      | cons u r' => exact ⟨u, r', rfl⟩
    refine ⟨(u ++ [.n t]) :: r', by simp, ?_, ?_⟩
    · refine (pstep_shut (Rt.datas t) (Rt.datas u) (r'.map Rt.datas)).trans ?_
      show _ = Rt.datas (u ++ [.n t]) :: r'.map Rt.datas
      rw [rdatas_app]
      rfl
    · rw [lvw_snoc, lvw_cons (t := t) (by simp)]
      show lvw (u :: r') ++ (("(" : Str) :: (Rt.wdss t ++ [(")" : Str)])) = _
      rw [List.append_assoc]
      rfl
  · refine ⟨(t ++ [.w z]) :: r, by simp, ?_, ?_⟩
    · refine (pstep_word (Rt.datas t) (r.map Rt.datas) e1 fun e4 => ?_).trans ?_
      · by_cases h : r = []
        · rw [h]
          rfl
        · exact absurd ⟨e4, h⟩ e2
      · show _ = Rt.datas (t ++ [.w z]) :: r.map Rt.datas
        rw [rdatas_app]
        rfl
    · rw [lvw_snoc]
      rfl
theorem prun_raw : ∀ (zs : List Str) (R : List (List Rt)) (L : List (List PyData)), R ≠ [] → prun zs (R.map Rt.datas) = some L → ∃ R2, R2 ≠ [] ∧ L = R2.map Rt.datas ∧ lvw R2 = lvw R ++ zs
  | [], R, L, hR, h => by
    cases h
    exact ⟨R, hR, rfl, (List.append_nil _).symm⟩
  | z :: zs, R, L, hR, h => by
    obtain ⟨t, r, rfl⟩ : ∃ t r, R = t :: r := by
      cases R with
      | nil => exact absurd rfl hR
      | cons t r => exact ⟨t, r, rfl⟩
    obtain ⟨R1, h1, h2, h3⟩ := pstep_raw (t := t) (r := r) z
    have h : (if 8 < (pstep ((t :: r).map Rt.datas) z).length then none else prun zs (pstep ((t :: r).map Rt.datas) z)) = some L := h
    split at h
    · cases h
    · rw [h2] at h
      obtain ⟨R2, g1, g2, g3⟩ := prun_raw zs R1 L h1 h
      exact ⟨R2, g1, g2, by rw [g3, h3, List.append_assoc]; rfl⟩
theorem pres_raw {zs : List Str} {d : PyData} (h : pres zs = some d) : ∃ ts : List Rt, d = shp (Rt.datas ts) ∧ Rt.wdss ts = zs := by
  unfold pres at h
  cases e : prun zs [[]] with
  | none => rw [e] at h; cases h
  | some L =>
    rw [e] at h
    obtain ⟨R2, g1, g2, g3⟩ := prun_raw zs [[]] L (by simp) e
    subst g2
    cases R2 with
    | nil => exact absurd rfl g1
    | cons t r =>
      cases r with
      | nil =>
        injection h with h
        exact ⟨t, h.symm, g3⟩
      | cons _ _ => cases h
/-! raw trees whose data is that of a tree -/
theorem wordD_str {z y : Str} (h : wordD z = .str y) : z = y := by
  unfold wordD at h
  split at h
  · cases h
  · injection h
theorem wordD_int {z : Str} {n : Nat} (h : wordD z = .int (n : Nat)) : z = digs n := by
  unfold wordD at h
  split at h
  · rename_i k hk
    unfold numF at hk
    split at hk
    · split at hk
      · rename_i c
        injection hk with hk
        injection h with h
        rw [← hk] at h
        have : NumText.digitsVal (TL.tl z) = n := by omega
        rw [← c, this]
      · cases hk
    · cases hk
  · cases h
theorem wordD_tup {z : Str} {ds : List PyData} : wordD z ≠ .tuple ds := by
  unfold wordD
  split <;> intro h <;> cases h
theorem shp_tup (ds : List PyData) : ∃ es, shp ds = .tuple es := by
  unfold shp
  split
  · split <;> exact ⟨_, rfl⟩
  · exact ⟨_, rfl⟩
theorem shp_plain {ds : List PyData} {w : Str} {es : List PyData} (hw : w ≠ "table") (h : shp ds = .tuple (.str w :: es)) : ds = .str w :: es := by
  unfold shp at h
  split at h
  · split at h
    · injection h with h
      injection h with h1 _
      injection h1 with h1
      exact absurd h1.symm hw
    · injection h
  · injection h
theorem shp_table {ds : List PyData} {es : List PyData} (h : shp ds = .tuple [.str "table", .tuple es]) : ds = .str "table" :: es := by
  unfold shp at h
  split at h
  · split at h
    · rename_i z r e
      injection h with h
      injection h with _ h2
      injection h2 with h2 _
      injection h2 with h2
      rw [h2, e]
    · rename_i z r e
      injection h with h
      injection h with h1 _
      injection h1 with h1
      exact absurd h1 e
  · rename_i x hx
    injection h with h
    exact absurd h (hx "table" [.tuple es])
mutual
theorem raw_nt : ∀ (t : Nt) (r : Rt), r.data = t.data → r.wds = t.ptk
  | .num n, .w z, h => by
    show [z] = [digs n]
    rw [wordD_int (show wordD z = .int (n : Nat) from h)]
  | .num n, .n rs, h => by
    obtain ⟨es, e⟩ := shp_tup (Rt.datas rs)
    have h : shp (Rt.datas rs) = .int (n : Nat) := h
    rw [e] at h
    cases h
  | .node w ts, .w z, h => by
    have h : wordD z = (if w = "table" then .tuple [.str "table", .tuple (Nt.datas ts)] else .tuple (.str w :: Nt.datas ts)) := h
    split at h <;> exact absurd h wordD_tup
  | .node w ts, .n rs, h => by
    have h : shp (Rt.datas rs) = (if w = "table" then .tuple [.str "table", .tuple (Nt.datas ts)] else .tuple (.str w :: Nt.datas ts)) := h
    show ("(" : Str) :: (Rt.wdss rs ++ [(")" : Str)]) = ("(" : Str) :: w :: (Nt.ptks ts ++ [(")" : Str)])
    rw [raw_node w ts rs h]
    rfl
theorem raw_node : ∀ (w : Str) (ts : List Nt) (rs : List Rt), shp (Rt.datas rs) = (if w = "table" then .tuple [.str "table", .tuple (Nt.datas ts)] else .tuple (.str w :: Nt.datas ts)) → Rt.wdss rs = w :: Nt.ptks ts
  | w, ts, rs, h => by
    have e : Rt.datas rs = .str w :: Nt.datas ts := by
      by_cases hw : w = "table"
      · rw [if_pos hw] at h
        rw [hw]
        exact shp_table h
      · rw [if_neg hw] at h
        exact shp_plain hw h
    cases rs with
    | nil => cases e
    | cons r0 rs =>
      have e : r0.data :: Rt.datas rs = .str w :: Nt.datas ts := e
      injection e with e1 e2
      have w0 : r0.wds = [w] := by
        cases r0 with
        | w z =>
          show [z] = [w]
          rw [wordD_str (show wordD z = .str w from e1)]
        | n rs2 =>
          obtain ⟨es, e3⟩ := shp_tup (Rt.datas rs2)
          have e1 : shp (Rt.datas rs2) = .str w := e1
          rw [e3] at e1
          cases e1
      show r0.wds ++ Rt.wdss rs = _
      rw [w0, raw_nts ts rs e2]
      rfl
theorem raw_nts : ∀ (ts : List Nt) (rs : List Rt), Rt.datas rs = Nt.datas ts → Rt.wdss rs = Nt.ptks ts
  | [], [], _ => rfl
  | [], _ :: _, h => by cases h
  | _ :: _, [], h => by cases h
  | t :: ts, r :: rs, h => by
    have h : r.data :: Rt.datas rs = t.data :: Nt.datas ts := h
    injection h with h1 h2
    show r.wds ++ Rt.wdss rs = t.ptk ++ Nt.ptks ts
    rw [raw_nt t r h1, raw_nts ts rs h2]
end
/-! the text itself -/
def dec : List Nat → List Nat
  | [] => []
  | [x] => [x]
  | x :: y :: r => if x = 40 ∧ y = 32 then 40 :: dec r else if x = 32 ∧ y = 41 then 41 :: dec r else x :: dec (y :: r)
theorem spcs_head : ∀ l : List Nat, (spcs l).head? ≠ some 41
  | [] => by simp [spcs]
  | x :: l => by
    show (spc x ++ spcs l).head? ≠ some 41
    unfold spc
    split
    · simp
    · split
      · simp
      · rename_i h
        simp only [List.singleton_append, List.head?_cons, ne_eq, Option.some.injEq]
        exact h
theorem dec_spcs : ∀ l : List Nat, dec (spcs l) = l
  | [] => rfl
  | x :: l => by
    have ih := dec_spcs l
    show dec (spc x ++ spcs l) = _
    unfold spc
    split
    · rename_i h
      subst h
      show dec (40 :: 32 :: spcs l) = _
      rw [dec, if_pos ⟨rfl, rfl⟩, ih]
    · rename_i h
      split
      · rename_i h2
        subst h2
        show dec (32 :: 41 :: spcs l) = _
        rw [dec, if_neg (by decide), if_pos ⟨rfl, rfl⟩, ih]
      · rename_i h2
        show dec (x :: spcs l) = _
        have hh := spcs_head l
        cases e : spcs l with
        | nil =>
          rw [e] at ih
          rw [← ih]
          rfl
        | cons y r =>
          rw [e] at hh ih
          rw [dec, if_neg (fun z => h z.1), if_neg (fun z => hh (by rw [z.2]; rfl)), ih]
theorem words_inj {a b : Str} (h : Txt.split (Txt.replace (Txt.replace a "(" "( ") ")" " )") " " = Txt.split (Txt.replace (Txt.replace b "(" "( ") ")" " )") " ") : a = b := by
  have e := congrArg ((" " : Str).join) h
  have ja := StrLaws.join_split (Txt.replace (Txt.replace a "(" "( ") ")" " )") " "
  have jb := StrLaws.join_split (Txt.replace (Txt.replace b "(" "( ") ")" " )") " "
  have e : Txt.replace (Txt.replace a "(" "( ") ")" " )" = Txt.replace (Txt.replace b "(" "( ") ")" " )" := by
    rw [← ja, ← jb]
    exact e
  have k : ∀ x : Str, TL.tl (Txt.replace (Txt.replace x "(" "( ") ")" " )") = spcs (TL.tl x) := fun x => by
    show (Txt.replace _ _ _).cps.toList = _
    rw [StrLaws.replace_list (by decide +kernel), StrLaws.replace_list (by decide +kernel)]
    exact repl2 _
  have e2 := congrArg TL.tl e
  rw [k, k] at e2
  have e3 := congrArg dec e2
  rw [dec_spcs, dec_spcs] at e3
  exact TL.ext_tl e3
def wordsZ (z : Str) : List Str := Txt.split (Txt.replace (Txt.replace z "(" "( ") ")" " )") " "
/-- what is read as a tree is just its text -/
theorem text_of {z w : Str} {ts : List Nt} (ok : (Nt.node w ts).Ok) (h : pres (wordsZ z) = some (Nt.node w ts).data) : z = ntx w ts := by
  obtain ⟨rs, h1, h2⟩ := pres_raw h
  have := raw_node w ts rs h1.symm
  rw [this] at h2
  exact words_inj (show wordsZ z = _ by rw [← h2]; exact (words_of ok).symm)
theorem pres_of {w : Str} {ts : List Nt} (ok : (Nt.node w ts).Ok) (l : (Nt.node w ts).dep ≤ 8) : pres (wordsZ (ntx w ts)) = some (Nt.node w ts).data := by
  show pres (Txt.split _ _) = _
  rw [words_of ok, pres_node ok l]
/-! the law's own reading, sign by sign -/
def isLb (c : Nat) : Bool := decide (97 ≤ c ∧ c ≤ 122)
def isFb (c : Nat) : Bool := decide (48 ≤ c ∧ c ≤ 57)
def strL (l : List Nat) : Str := ⟨l.toArray⟩
theorem tl_strL (l : List Nat) : TL.tl (strL l) = l := rfl
theorem strL_tl (w : Str) : strL (TL.tl w) = w := TL.ext_tl rfl
def numAt (r : List Nat) : Option (Nat × List Nat) := if r.takeWhile isFb = [] ∨ (1 < (r.takeWhile isFb).length ∧ (r.takeWhile isFb).head? = some 48) ∨ 3 < (r.takeWhile isFb).length then none else some (NumText.digitsVal (r.takeWhile isFb), r.dropWhile isFb)
def brAt (rec : List Nat → Option (Nt × List Nat)) (r : List Nat) : Option (Nt × List Nat) := match rec r with
  | some (t, c :: r3) => if c = 41 then some (t, r3) else none
  | _ => none
def itAt (rec : List Nat → Option (Nt × List Nat)) (br : Bool) (r1 : List Nat) : Option (Nt × List Nat) := if r1.head? = some 40 then (if br = true then brAt rec r1.tail else none) else (numAt r1).map fun q => (.num q.1, q.2)
def itemsAt (rec : List Nat → Option (Nt × List Nat)) (br : Bool) : Nat → List Nat → Option (List Nt × List Nat)
  | 0, r => some ([], r)
  | k + 1, r => if r.head? = some 32 then ((itAt rec br r.tail).bind fun p => (itemsAt rec br k p.2).map fun q => (p.1 :: q.1, q.2)) else some ([], r)
def thing1 (rec : List Nat → Option (Nt × List Nat)) (ws : List Str) (r : List Nat) : Option (Nt × List Nat) := (itemsAt rec (decide (strL (r.takeWhile isLb) ∈ ws)) r.length (r.dropWhile isLb)).map fun q => (.node (strL (r.takeWhile isLb)) q.1, q.2)
def thingAt (ws : List Str) : Nat → List Nat → Option (Nt × List Nat)
  | 0 => thing1 (fun _ => none) ws
  | D + 1 => thing1 (thingAt ws D) ws
mutual
def Nt.itL : Nt → List Nat
  | .num n => TL.numL n
  | .node w ts => 40 :: ((TL.tl w ++ Nt.itsL ts) ++ [41])
def Nt.itsL : List Nt → List Nat
  | [] => []
  | t :: ts => 32 :: (t.itL ++ Nt.itsL ts)
end
def nodeL (w : Str) (ts : List Nt) : List Nat := TL.tl w ++ Nt.itsL ts
mutual
theorem itL_eq : ∀ t : Nt, TL.tl t.ptx = t.itL
  | .num n => digs_tl n
  | .node w ts => by
    show TL.tl (("(" : Str) ++ Txt.join " " (w :: Nt.ptxs ts) ++ (")" : Str)) = _
    rw [TL.tl_append, TL.tl_append, tl_join32, List.map_cons, joinL_32, itsL_eq ts]
    rfl
theorem itsL_eq : ∀ ts : List Nt, (((Nt.ptxs ts).map TL.tl).map fun x => 32 :: x).flatten = Nt.itsL ts
  | [] => rfl
  | t :: ts => by
    show (32 :: TL.tl t.ptx) ++ (((Nt.ptxs ts).map TL.tl).map fun x => 32 :: x).flatten = 32 :: (t.itL ++ Nt.itsL ts)
    rw [itL_eq t, itsL_eq ts]
    rfl
end
theorem ntx_tl (w : Str) (ts : List Nt) : TL.tl (ntx w ts) = nodeL w ts := by
  unfold ntx nodeL
  rw [tl_join32, List.map_cons, joinL_32, itsL_eq]
def ItC (rc : Nt → Prop) (b : Prop) : Nt → Prop
  | .num n => n < 1000
  | .node w ts => b ∧ rc (.node w ts)
def Th1 (ws : List Str) (rc : Nt → Prop) : Nt → Prop
  | .num _ => False
  | .node w ts => (∀ c, c ∈ TL.tl w → isLb c = true) ∧ ∀ t, t ∈ ts → ItC rc (w ∈ ws) t
def ThC (ws : List Str) : Nat → Nt → Prop
  | 0 => Th1 ws fun _ => False
  | D + 1 => Th1 ws (ThC ws D)
/-! numbers -/
theorem numL_is : ∀ n, n < 1000 → TL.numL n = (if n < 10 then [48 + n] else if n < 100 then [48 + n / 10, 48 + n % 10] else [48 + n / 100, 48 + n / 10 % 10, 48 + n % 10]) := by decide +kernel
theorem dv_1 (a : Nat) : NumText.digitsVal [a] = a - 48 := by
  show 0 * 10 + (a - 48) = _
  omega
theorem dv_2 (a b : Nat) : NumText.digitsVal [a, b] = (a - 48) * 10 + (b - 48) := by
  show (0 * 10 + (a - 48)) * 10 + (b - 48) = _
  omega
theorem dv_3 (a b c : Nat) : NumText.digitsVal [a, b, c] = ((a - 48) * 10 + (b - 48)) * 10 + (c - 48) := by
  show ((0 * 10 + (a - 48)) * 10 + (b - 48)) * 10 + (c - 48) = _
  omega
theorem numL_of {f : List Nat} (d : ∀ c, c ∈ f → 48 ≤ c ∧ c ≤ 57) (h : ¬ (f = [] ∨ (1 < f.length ∧ f.head? = some 48) ∨ 3 < f.length)) : NumText.digitsVal f < 1000 ∧ TL.numL (NumText.digitsVal f) = f := by
  match f, h, d with
  | [], h, _ => exact absurd (.inl rfl) h
  | [a], h, d =>
    have := d a (by simp)
    rw [dv_1]
    refine ⟨by omega, ?_⟩
    rw [numL_is _ (by omega), if_pos (by omega)]
    congr 1
    omega
  | [a, b], h, d =>
    have := d a (by simp)
    have := d b (by simp)
    have ha : a ≠ 48 := fun z => h (.inr (.inl ⟨by simp, by rw [z]; rfl⟩))
    rw [dv_2]
    refine ⟨by omega, ?_⟩
    rw [numL_is _ (by omega), if_neg (by omega), if_pos (by omega)]
    have e1 : 48 + ((a - 48) * 10 + (b - 48)) / 10 = a := by omega
    have e2 : 48 + ((a - 48) * 10 + (b - 48)) % 10 = b := by omega
    rw [e1, e2]
  | [a, b, c], h, d =>
    have := d a (by simp)
    have := d b (by simp)
    have := d c (by simp)
    have ha : a ≠ 48 := fun z => h (.inr (.inl ⟨by simp, by rw [z]; rfl⟩))
    rw [dv_3]
    refine ⟨by omega, ?_⟩
    rw [numL_is _ (by omega), if_neg (by omega), if_neg (by omega)]
    have e1 : 48 + (((a - 48) * 10 + (b - 48)) * 10 + (c - 48)) / 100 = a := by omega
    have e2 : 48 + (((a - 48) * 10 + (b - 48)) * 10 + (c - 48)) / 10 % 10 = b := by omega
    have e3 : 48 + (((a - 48) * 10 + (b - 48)) * 10 + (c - 48)) % 10 = c := by omega
    rw [e1, e2, e3]
  | a :: b :: c :: e :: r, h, _ => exact absurd (.inr (.inr (by simp))) h
theorem numL_ok {n : Nat} (h : n < 1000) : ¬ (TL.numL n = [] ∨ (1 < (TL.numL n).length ∧ (TL.numL n).head? = some 48) ∨ 3 < (TL.numL n).length) := by
  rw [numL_is n h]
  split
  · simp
  · split
    · rintro (z | ⟨_, z⟩ | z)
      · cases z
      · simp only [List.head?_cons, Option.some.injEq] at z
        omega
      · simp at z
    · rintro (z | ⟨_, z⟩ | z)
      · cases z
      · simp only [List.head?_cons, Option.some.injEq] at z
        omega
      · simp at z
theorem numL_fig {n : Nat} : ∀ c, c ∈ TL.numL n → isFb c = true := fun c hc => by
  have := TL.numL_digits n c hc
  exact decide_eq_true ⟨this.1, by omega⟩
theorem tw_all {p : Nat → Bool} : ∀ {l e : List Nat}, (∀ c, c ∈ l → p c = true) → (∀ c, e.head? = some c → p c = false) → (l ++ e).takeWhile p = l ∧ (l ++ e).dropWhile p = e
  | [], [], _, _ => ⟨rfl, rfl⟩
  | [], c :: e, _, h => by
    have := h c rfl
    rw [List.nil_append, List.takeWhile_cons_of_neg (by rw [this]; exact Bool.false_ne_true), List.dropWhile_cons_of_neg (by rw [this]; exact Bool.false_ne_true)]
    exact ⟨rfl, rfl⟩
  | c :: l, e, h, g => by
    have hc := h c List.mem_cons_self
    obtain ⟨a, b⟩ := tw_all (p := p) (l := l) (e := e) (fun x hx => h x (List.mem_cons_of_mem _ hx)) g
    rw [List.cons_append, List.takeWhile_cons_of_pos hc, List.dropWhile_cons_of_pos hc, a, b]
    exact ⟨rfl, rfl⟩
theorem tw_mem {p : Nat → Bool} {l : List Nat} : ∀ c, c ∈ l.takeWhile p → p c = true := fun c hc => by
  induction l with
  | nil => cases hc
  | cons x l ih =>
    cases e : p x with
    | false =>
      rw [List.takeWhile_cons_of_neg (by rw [e]; exact Bool.false_ne_true)] at hc
      cases hc
    | true =>
      rw [List.takeWhile_cons_of_pos e] at hc
      rcases List.mem_cons.mp hc with rfl | hc
      · exact e
      · exact ih hc
theorem numAt_sound {r e : List Nat} {n : Nat} (h : numAt r = some (n, e)) : n < 1000 ∧ r = TL.numL n ++ e := by
  unfold numAt at h
  split at h
  · cases h
  · rename_i g
    injection h with h
    injection h with h1 h2
    obtain ⟨a, b⟩ := numL_of (fun c hc => of_decide_eq_true (tw_mem (p := isFb) c hc)) g
    rw [h1] at a b
    refine ⟨a, ?_⟩
    rw [b, ← h2]
    exact (List.takeWhile_append_dropWhile).symm
theorem numAt_full {n : Nat} {e : List Nat} (h : n < 1000) (he : ∀ c, e.head? = some c → isFb c = false) : numAt (TL.numL n ++ e) = some (n, e) := by
  obtain ⟨a, b⟩ := tw_all (p := isFb) numL_fig he
  unfold numAt
  rw [a, b, if_neg (numL_ok h), TL.numL_val]
/-! items and things: what is read is what is written -/
def SndR (rec : List Nat → Option (Nt × List Nat)) (rc : Nt → Prop) : Prop := ∀ r t e, rec r = some (t, e) → ∃ w ts, t = .node w ts ∧ rc t ∧ r = nodeL w ts ++ e
def EndOk (e : List Nat) : Prop := ∀ c, e.head? = some c → c = 41
def FulR (rec : List Nat → Option (Nt × List Nat)) (rc : Nt → Prop) : Prop := ∀ w ts e, rc (.node w ts) → EndOk e → rec (nodeL w ts ++ e) = some (.node w ts, e)
theorem itAt_sound {rec : List Nat → Option (Nt × List Nat)} {rc : Nt → Prop} {br : Bool} (S : SndR rec rc) {r e : List Nat} {t : Nt} (h : itAt rec br r = some (t, e)) : ItC rc (br = true) t ∧ r = t.itL ++ e := by
  unfold itAt at h
  split at h
  · rename_i h40
    split at h
    · rename_i hb
      unfold brAt at h
      split at h
      · rename_i t' c r3 er
        split at h
        · rename_i e41
          injection h with h
          injection h with h1 h2
          subst h1 h2 e41
          obtain ⟨w, ts, rfl, hc, e2⟩ := S _ _ _ er
          refine ⟨⟨hb, hc⟩, ?_⟩
          cases r with
          | nil => cases h40
          | cons x r =>
            injection h40 with h40
            subst h40
            have e2 : r = nodeL w ts ++ 41 :: r3 := e2
            rw [e2]
            show 40 :: (nodeL w ts ++ 41 :: r3) = 40 :: (((TL.tl w ++ Nt.itsL ts) ++ [41]) ++ r3)
            rw [List.append_assoc]
            rfl
        · cases h
      · cases h
    · cases h
  · cases e1 : numAt r with
    | none => rw [e1] at h; cases h
    | some q =>
      rw [e1] at h
      injection h with h
      injection h with h1 h2
      obtain ⟨n, e'⟩ := q
      obtain ⟨a, b⟩ := numAt_sound e1
      subst h1 h2
      exact ⟨a, b⟩
theorem itemsAt_sound {rec : List Nat → Option (Nt × List Nat)} {rc : Nt → Prop} {br : Bool} (S : SndR rec rc) : ∀ (k : Nat) {r e : List Nat} {ts : List Nt}, itemsAt rec br k r = some (ts, e) → (∀ t, t ∈ ts → ItC rc (br = true) t) ∧ r = Nt.itsL ts ++ e
  | 0, r, e, ts, h => by
    injection h with h
    injection h with h1 h2
    subst h1 h2
    exact ⟨fun _ h => (by cases h), rfl⟩
  | k + 1, r, e, ts, h => by
    unfold itemsAt at h
    split at h
    · rename_i h32
      cases e1 : itAt rec br r.tail with
      | none => rw [e1] at h; cases h
      | some p =>
        obtain ⟨t, r3⟩ := p
        rw [e1] at h
        have h : (itemsAt rec br k r3).map (fun q => (t :: q.1, q.2)) = some (ts, e) := h
        cases e2 : itemsAt rec br k r3 with
        | none => rw [e2] at h; cases h
        | some q =>
          obtain ⟨us, e'⟩ := q
          rw [e2] at h
          injection h with h
          injection h with h1 h2
          subst h1 h2
          obtain ⟨a, b⟩ := itAt_sound S e1
          obtain ⟨c, d⟩ := itemsAt_sound S k e2
          refine ⟨fun x hx => ?_, ?_⟩
          · rcases List.mem_cons.mp hx with rfl | hx
            · exact a
            · exact c x hx
          · cases r with
            | nil => cases h32
            | cons x r =>
              injection h32 with h32
              subst h32
              have b : r = t.itL ++ r3 := b
              rw [b, d]
              show 32 :: (t.itL ++ (Nt.itsL us ++ e')) = 32 :: (t.itL ++ Nt.itsL us) ++ e'
              rw [← List.append_assoc]
              rfl
    · injection h with h
      injection h with h1 h2
      subst h1 h2
      exact ⟨fun _ h => (by cases h), rfl⟩
theorem thing1_sound {rec : List Nat → Option (Nt × List Nat)} {rc : Nt → Prop} {ws : List Str} (S : SndR rec rc) : SndR (thing1 rec ws) (Th1 ws rc) := fun r t e h => by
  unfold thing1 at h
  cases e1 : itemsAt rec (decide (strL (r.takeWhile isLb) ∈ ws)) r.length (r.dropWhile isLb) with
  | none => rw [e1] at h; cases h
  | some q =>
    obtain ⟨ts, e'⟩ := q
    rw [e1] at h
    injection h with h
    injection h with h1 h2
    subst h1 h2
    obtain ⟨a, b⟩ := itemsAt_sound S _ e1
    refine ⟨_, ts, rfl, ⟨fun c hc => tw_mem (p := isLb) (l := r) c hc, fun t ht => ?_⟩, ?_⟩
    · have := a t ht
      cases t with
      | num n => exact this
      | node w us => exact ⟨of_decide_eq_true this.1, this.2⟩
    · unfold nodeL
      rw [tl_strL, List.append_assoc, ← b]
      exact (List.takeWhile_append_dropWhile).symm
theorem thingAt_sound (ws : List Str) : ∀ D, SndR (thingAt ws D) (ThC ws D)
  | 0 => thing1_sound fun _ _ _ h => by cases h
  | D + 1 => thing1_sound (thingAt_sound ws D)
theorem its_head {ts : List Nt} {e : List Nat} (he : EndOk e) : ∀ c, (Nt.itsL ts ++ e).head? = some c → c = 32 ∨ c = 41 := fun c h => by
  cases ts with
  | nil => exact .inr (he c h)
  | cons t ts =>
    injection h with h
    exact .inl h.symm
theorem itAt_full {rec : List Nat → Option (Nt × List Nat)} {rc : Nt → Prop} {br : Bool} (F : FulR rec rc) {t : Nt} {e : List Nat} (h : ItC rc (br = true) t) (he : ∀ c, e.head? = some c → c = 32 ∨ c = 41) : itAt rec br (t.itL ++ e) = some (t, e) := by
  cases t with
  | num n =>
    have hn : n < 1000 := h
    have e1 : numAt (TL.numL n ++ e) = some (n, e) := numAt_full hn fun c hc => by
      rcases he c hc with rfl | rfl <;> rfl
    have e2 : ¬ (TL.numL n ++ e).head? = some 40 := fun z => by
      cases en : TL.numL n with
      | nil => exact numL_ok hn (.inl en)
      | cons x r =>
        rw [en] at z
        injection z with z
        have := numL_fig (n := n) x (by rw [en]; exact List.mem_cons_self)
        have := of_decide_eq_true this
        omega
    show itAt rec br (TL.numL n ++ e) = _
    unfold itAt
    rw [if_neg e2, e1]
    rfl
  | node w ts =>
    obtain ⟨hb, hc⟩ := h
    have e1 := F w ts (41 :: e) hc (fun c h => by injection h with h; exact h.symm)
    have e2 : (Nt.node w ts).itL ++ e = 40 :: (nodeL w ts ++ 41 :: e) := by
      show (40 :: ((TL.tl w ++ Nt.itsL ts) ++ [41])) ++ e = _
      show 40 :: (((TL.tl w ++ Nt.itsL ts) ++ [41]) ++ e) = _
      rw [List.append_assoc]
      rfl
    rw [e2]
    unfold itAt brAt
    rw [if_pos (show (40 :: (nodeL w ts ++ 41 :: e)).head? = some 40 from rfl), if_pos hb]
    show (match rec (nodeL w ts ++ 41 :: e) with | some (t, c :: r3) => if c = 41 then some (t, r3) else none | _ => none) = _
    rw [e1]
    rfl
theorem itemsAt_full {rec : List Nat → Option (Nt × List Nat)} {rc : Nt → Prop} {br : Bool} (F : FulR rec rc) : ∀ (ts : List Nt) (k : Nat) {e : List Nat}, ts.length ≤ k → (∀ t, t ∈ ts → ItC rc (br = true) t) → EndOk e → itemsAt rec br k (Nt.itsL ts ++ e) = some (ts, e)
  | [], 0, e, _, _, _ => rfl
  | [], k + 1, e, _, _, he => by
    show itemsAt rec br (k + 1) e = _
    unfold itemsAt
    rw [if_neg (fun z => by have := he 32 z; omega)]
  | t :: ts, 0, e, h, _, _ => by cases h
  | t :: ts, k + 1, e, h, hc, he => by
    have e1 : Nt.itsL (t :: ts) ++ e = 32 :: (t.itL ++ (Nt.itsL ts ++ e)) := by
      show 32 :: ((t.itL ++ Nt.itsL ts) ++ e) = _
      rw [List.append_assoc]
    rw [e1]
    unfold itemsAt
    rw [if_pos (show (32 :: (t.itL ++ (Nt.itsL ts ++ e))).head? = some 32 from rfl)]
    show ((itAt rec br (t.itL ++ (Nt.itsL ts ++ e))).bind _) = _
    rw [itAt_full F (hc t List.mem_cons_self) (its_head he)]
    show (itemsAt rec br k (Nt.itsL ts ++ e)).map _ = _
    rw [itemsAt_full F ts k (by simpa using h) (fun x hx => hc x (List.mem_cons_of_mem _ hx)) he]
    rfl
theorem its_len : ∀ ts : List Nt, ts.length ≤ (Nt.itsL ts).length
  | [] => Nat.le_refl 0
  | t :: ts => by
    have := its_len ts
    show ts.length + 1 ≤ (32 :: (t.itL ++ Nt.itsL ts)).length
    rw [List.length_cons, List.length_append]
    omega
theorem thing1_full {rec : List Nat → Option (Nt × List Nat)} {rc : Nt → Prop} {ws : List Str} (F : FulR rec rc) : FulR (thing1 rec ws) (Th1 ws rc) := fun w ts e h he => by
  obtain ⟨hw, hts⟩ := h
  have e1 : nodeL w ts ++ e = TL.tl w ++ (Nt.itsL ts ++ e) := List.append_assoc ..
  obtain ⟨a, b⟩ := tw_all (p := isLb) hw (e := Nt.itsL ts ++ e) fun c hc => by
    rcases its_head he c hc with rfl | rfl <;> rfl
  unfold thing1
  rw [e1, a, b, strL_tl]
  have := its_len ts
  rw [itemsAt_full F ts _ (by simp only [List.length_append]; omega) (fun t ht => ?_) he]
  · rfl
  · have := hts t ht
    cases t with
    | num n => exact this
    | node w' us => exact ⟨decide_eq_true this.1, this.2⟩
theorem thingAt_full (ws : List Str) : ∀ D, FulR (thingAt ws D) (ThC ws D)
  | 0 => thing1_full fun _ _ _ h => h.elim
  | D + 1 => thing1_full (thingAt_full ws D)
/-! an error that is caught, and kept beyond the suite -/
def ExK (cls : Value) (d : Option Addr) (a : Addr) : HO := .ext fun h => ∃ (oe : Obj) (vs : Array Value), h.get? a = some oe ∧ Zc cls d oe ∧ oe.data = .fields vs
theorem exK_in {P : Program} {w : World} {G : Hp} {h : Heap} {a : Addr} {cls : Value} {d : Option Addr} {oe : Obj} {vs : Array Value} (e : h.get? a = some oe) (z : Zc cls d oe) (f : oe.data = .fields vs) : ObjOk P w G h a (ExK cls d a) :=
  ⟨⟨oe, vs, e, z, f⟩, ⟨oe, e⟩, fun _ _ hh k => by
    obtain ⟨o, v, q, r⟩ := hh
    exact ⟨o, v, k o q, r⟩⟩
section
variable {X : Cx} {pins : List (Addr × Obj)} {σ : L2.St} {H : Hp} {s : Shared} {a : Addr} {oe : Obj} {vs : Array Value} {cls : Value} {d : Option Addr}
theorem keep_track (I : Inv (X.suite a ((a, oe) :: (X.pn ++ pins))) [] σ H s) (ok : X.Ok) (new : X.s_0.heap.get? a = none) (other : ∀ p, p ∈ X.pn ++ pins → p.1 ≠ a) (hz : Zc cls d oe) (hd : oe.data = .fields vs) :
    Inv X pins σ (upd H a (ExK cls d a)) s := by
  obtain ⟨hget, hnone, nloc, nfs, ncell⟩ := I.pin (a, oe) (List.mem_append_left _ List.mem_cons_self)
  have hne : ∀ {b : Addr} {o : HO}, H b = some o → b ≠ a := fun e => ne_of_none e hnone
  have up : ∀ {b : Addr} {o : HO}, H b = some o → (upd H a (ExK cls d a)) b = some o := fun e => by
    rw [upd_ne (hne e)]
    exact e
  refine ⟨ok, I.os, I.bare, ⟨I.base.keep, I.base.slot, fun b o e n x => ?_, I.base.there, fun b xs e => up (I.base.tups b xs e), fun b o u e => up (I.base.frzs b o u e), fun b ps e => ?_⟩, I.loc, I.cell, ?_, fun x c e => ?_, fun p hp => ?_, fun b u e => ?_, I.len⟩
  · have hb : b ≠ a := fun z => by
      rw [z, new] at e
      cases e
    rw [upd_ne hb]
    exact I.base.free b o e n x
  · obtain ⟨more, q⟩ := I.base.tbls b ps e
    exact ⟨more, up q⟩
  · rw [upd_ne (Ne.symm nloc)]
    exact I.free
  · have hc : c ≠ a := fun z => by
      obtain ⟨v, o, q, r⟩ := I.cell x c e
      rw [z, hget] at q
      cases q
      first
        | exact ncell _ r
        | exact ncell _ r.1
        | exact ncell _ r.2
    rw [upd_ne hc]
    exact I.freeC x c e
  · obtain ⟨q1, q2, q3, q4, q5⟩ := I.pin p (List.mem_append_left _ (List.mem_cons_of_mem _ hp))
    exact ⟨q1, by rw [upd_ne (other p hp)]; exact q2, q3, q4, q5⟩
  · by_cases hb : b = a
    · subst hb
      rw [upd_same] at e
      cases e
      exact exK_in hget hz hd
    · rw [upd_ne hb] at e
      exact (I.hok b u e).stay (fun _ _ _ q => q) (fun _ q => up q) fun _ _ q => up q
end
def wHeld (K : PySem.W.Frag) (c : Value) (i : Nat) (ts : Addr → Value → Option Addr → TS) (Wout : WX) (D : Ends) : WX := fun cls d σ H =>
  ∃ b, PySem.W.exmOne K cls c = some b ∧ (b = false → Wout cls d σ H) ∧
    (b = true → ∀ a, H a = none → ts a cls d { nx := fun σ' G => D.nx (σ'.set i none) (upd G a (ExK cls d a)), rt := fun _ _ => False, bk := fun _ _ => False, ct := fun _ _ => False } (σ.set i (some (.ref a))) H)
theorem ps_try_held {X : Cx} {x n : Str} {c : Value} {i : Nat} {body suite : List Stmt} {b₀ : Stmt} {np pos pos' : Pos} {tb : WX → TS} {ts : Addr → Value → Option Addr → TS} {Wout : WX} (hex : X.ex = []) (hs : X.stack = X.env :: X.outer) (hf : X.env.frame = some X.env.locals) (hN : X.N.Nodup) (hi : X.N[i]? = some n) (hln : X.env.kindOf n = some .local)
    (hc : Names X x c) (tk : Takes X Wout) (hb : ∀ (W : WX) (pn : List (Addr × Obj)) (xe : Value → Shared → Prop), Takes (X.tr pn xe) W → PassesOwn (model X.prog X.w) X.A X.env xe → PSs (X.tr pn xe) body (tb W))
    (hsu : ∀ (a : Addr) (oe : Obj) (cls : Value) (d : Option Addr) (pn : List (Addr × Obj)), Zc cls d oe → (∃ vs, oe.data = .fields vs) → PSs (X.suite a ((a, oe) :: pn)) (b₀ :: suite) (ts a cls d)) :
    PS X (.Try body [.ExceptHandler (some (.Name x np)) (some n) (b₀ :: suite) pos'] [] [] pos) (fun D σ H => tb (wHeld X.K c i ts Wout D) D σ H) := by
  refine ⟨fun pins s σ H D I h => ?_⟩
  have ok := I.ok
  have hA : X.A.frames = some (X.env :: X.outer) := by
    rw [ok.frames, hs]
  let catcher : Value → Shared → Prop := fun u s₁ => wpAny (model X.prog X.w) X.A (noteFrame u X.env) (fun _ s₂ => wpAny (model X.prog X.w) X.A (setFlight u none)
    (fun _ s₃ => wpAny (model X.prog X.w) X.A (handleBy u X.env [.ExceptHandler (some (.Name x np)) (some n) (b₀ :: suite) pos']) (SP X pins D) X.xe s₃) X.xe s₂) X.xe s₁
  have main := (hb (wHeld X.K c i ts Wout D) (X.pn ++ pins) catcher ?_ PassesOwn.looking).run [] s σ H D (I.toTry _) h
  · refine wpAny_Try_except (wpAny_mono main (fun fl s1 r => ?_) fun _ _ z => z)
    cases fl with
    | next =>
      obtain ⟨σ', G, J, q⟩ := r
      exact wpAny_execs_nil ⟨σ', G, J.ofTry ok, q⟩
    | brk =>
      obtain ⟨σ', G, J, q⟩ := r
      exact ⟨σ', G, J.ofTry ok, q⟩
    | cont =>
      obtain ⟨σ', G, J, q⟩ := r
      exact ⟨σ', G, J.ofTry ok, q⟩
    | ret u =>
      obtain ⟨v, σ', G, J, q⟩ := r
      exact ⟨v, σ', G, J.ofTry ok, q⟩
  intro u s' air
  obtain ⟨a, B, sI, ps, σ', G, cls, d, rfl, J', nb, up, sky, na, os, ag, b, eb, no, yes⟩ := air
  have J : Inv X pins σ' G sI := J'.ofTry ok
  rw [show (X.tr (X.pn ++ pins) catcher).stack = X.env :: X.outer from hs] at sky nb
  have nB : B.get? a = none := by
    rcases sky with k | k | k
    · exact k.2.1
    · exact k.2.1
    · exact k.2.1
  show wpAny (model X.prog X.w) X.A (noteFrame (.ref a) X.env) _ _ _
  refine Sky.land Zc.steady hA hf sky fun h3 f3 u3 => ?_
  have nb' : ∀ b o, sI.heap.get? b = some o → b ∉ frs X.stack → B.get? b = some o := by
    rw [hs]
    exact nb
  have J3 : Inv X pins σ' G { s' with heap := h3 } := J.landed nb' f3.1 (up.trans u3) os ag
  obtain ⟨o3, v3, g3, z3, d3⟩ := f3.there
  have nfr : a ∉ frs (X.env :: X.outer) := fun hm => by
    obtain ⟨_, o', e', nf⟩ := f3.2.2.1.mem hm
    rw [g3] at e'
    cases e'
    exact nf _ d3
  have nL : a ≠ X.env.locals := fun z => nfr (List.mem_filterMap.mpr ⟨_, List.mem_cons_self, by rw [hf, z]⟩)
  have nF : a ∉ X.fs := fun hm => by
    obtain ⟨v, hv, q⟩ := List.mem_filterMap.mp hm
    exact nfr (List.mem_filterMap.mpr ⟨v, List.mem_cons_of_mem _ hv, q⟩)
  have nI : sI.heap.get? a = none := by
    cases q : sI.heap.get? a with
    | none => rfl
    | some o =>
      have := nb a o q nfr
      rw [nB] at this
      cases this
  have n0 : X.s_0.heap.get? a = none := by
    cases q : X.s_0.heap.get? a with
    | none => rfl
    | some o =>
      obtain ⟨o', e'⟩ := J.base.there a o q (by rw [hex]; exact List.not_mem_nil)
      rw [nI] at e'
      cases e'
  have nP : ∀ p, p ∈ X.pn ++ pins → p.1 ≠ a := fun p hp z => by
    have e := (J.pin p hp).1
    rw [z, nI] at e
    cases e
  have S3 := J3.suite g3 d3 na nL nF
  refine wpAny_handleBy_cons (codeAny_handlers_test ?_) (fun q => by cases q)
  have look : PySem.W.Looks (model X.prog X.w) h3 (typeOf (.ref a)) cls := fun A' Q' E' t k q => wpAny_typeOf_ref (k _ _ g3) (by rw [z3.1]; exact q)
  have fits := PySem.W.exm_one (M := model X.prog X.w) J3.kIn look eb
  have asked : ∀ {Q' : Value → Shared → Prop} {E' : Value → Shared → Prop}, Q' c { s' with heap := h3 } → wpAny (model X.prog X.w) (X.A.mark (some (.ref a))) (eval (.Name x np) X.env) Q' E' { s' with heap := h3 } := fun q => by
    obtain ⟨g, dbg, m | ⟨m, v, nn⟩⟩ := hc
    · exact ld_glob (X := X.suite a ((a, o3) :: (X.pn ++ pins))) S3 g m q dbg
    · exact ld_blt (X := X.suite a ((a, o3) :: (X.pn ++ pins))) S3 g m v q nn dbg
  refine asked (fits.here ?_)
  cases b with
  | true =>
    refine codeAny_handlers_suite_as (HandSPX.lands_againZ f3 fun h4 f4 u4 => ?_)
    have J4 : Inv X pins σ' G { s' with heap := h4 } := J.landed nb' f4.1 ((up.trans u3).trans u4) os ag
    obtain ⟨o4, v4, g4, z4, d4⟩ := f4.there
    refine store_ok (X := X.suite a ((a, o4) :: (X.pn ++ pins))) (v := .ref a) (J4.suite g4 d4 na nL nF) hN hi (.inl hln) rfl (fun s5 S5 => ?_) (.inr hln)
    refine wpAny_mono ((hsu a o4 cls d (X.pn ++ pins) z4 ⟨_, d4⟩).run [] s5 _ G _ S5 (yes rfl a na)) (fun fl s6 r => ?_) fun _ _ z => z.elim
    cases fl with
    | next =>
      obtain ⟨σ6, G6, S6, q6⟩ := r
      exact gone_ok (keep_track S6 ok n0 nP z4 d4) hN hi hln fun s7 J7 => ⟨_, _, J7, q6⟩
    | brk =>
      obtain ⟨_, _, _, q6⟩ := r
      exact q6.elim
    | cont =>
      obtain ⟨_, _, _, q6⟩ := r
      exact q6.elim
    | ret u =>
      obtain ⟨_, _, _, _, _, q6⟩ := r
      exact q6.elim
  | false =>
    show wpAny _ X.A (handleBy (.ref a) X.env []) _ _ _
    refine wpAny_handleBy_nil ?_
    have f3' := f3
    obtain ⟨_, _, _, oe, ws, T, _, _, ge, _, de, te, _⟩ := f3'
    unfold PySem.passOn
    refine wpAny_bind (wpAny_field ge de te ?_)
    rw [if_neg (by simp)]
    have out : wpAny (model X.prog X.w) X.A (setFlight (.ref a) X.env.frame) (fun _ s4 => wpAny (model X.prog X.w) X.A (throw (.ref a) : Sem Flow) (SP X pins D) X.xe s4) X.xe { s' with heap := h3 } := by
      rw [hf]
      refine HandSPX.setFlight_upZ f3 fun h4 hold u4 => wpAny_throw (tk _ _ ?_)
      refine ⟨a, B, sI, pins, σ', G, cls, d, rfl, J, nb', (up.trans u3).trans u4, .inr (.inr ?_), na, os, ag, no rfl⟩
      rw [hs]
      exact hold
    first
      | exact wpAny_bind (wpAny_pure (wpAny_bind out))
      | exact wpAny_bind out
/-! isinstance of a kept error -/
theorem kit_kept {X : Cx} {pins : List (Addr × Obj)} {σ : L2.St} {H : Hp} {s : Shared} {a D : Addr} (I : Inv X pins σ H s) (C : ExcC X.K D) (e : H a = some (ExK (.ref D) none a)) : ∃ P : Heap → Prop, PySem.W.KitX X.K (.ref a) (.ref D) P ∧ P s.heap := by
  obtain ⟨⟨oe, vs, hg, hz, hd⟩, _, _⟩ := (show ObjOk X.prog X.w H s.heap a (ExK (.ref D) none a) from I.hok a _ e)
  have J : PySem.W.InstAt s.heap a oe D none := by
    obtain ⟨c1, c2, c3, c4⟩ := oe
    obtain ⟨z1, z2⟩ := hz
    dsimp only at z1 z2 hd
    subst z1 z2 hd
    exact ⟨hg, rfl, rfl, trivial⟩
  exact ⟨_, PySem.W.handS_kitx_exc C.hg C.hk C.hs C.hd C.ha C.hn C.ht C.hm, J⟩
def rIsK (K : PySem.W.Frag) : List V → Hp → VK → Prop := fun xs H Q => ∃ (a D : Addr) (c : V) (u : Value) (b : Bool), xs = [.ref a, c] ∧ H a = some (ExK (.ref D) none a) ∧ ExcC K D ∧ ClsV c u ∧ PySem.W.kitOne K (.ref D) u = some b ∧ Q (.bl b) H
theorem call_isK {X : Cx} : CallR X (.builtin "isinstance") (rIsK X.K) := by
  intro pins s σ H xs us Q I r h
  obtain ⟨a, D, c, u, b, rfl, ha, C, k, e, q⟩ := h
  obtain ⟨u1, u2, rfl, r1, r2⟩ := vals2 r
  cases (show u1 = Value.ref a from r1)
  cases k.eq r2
  obtain ⟨P, Z, p⟩ := kit_kept I C ha
  exact PySem.W.kia_one Z I.kIn p e (fun z => nomatch z) fun tk => ⟨.bl b, H, I.tok tk, rfl, q⟩
def rIsKT (K : PySem.W.Frag) : List V → Hp → VK → Prop := fun xs H Q => ∃ (a D tp : Addr) (cs : List V) (us : List Value) (b : Bool), xs = [.ref a, .ref tp] ∧ H a = some (ExK (.ref D) none a) ∧ ExcC K D ∧ H tp = some (.tup cs) ∧ Paired ClsV cs us ∧ PySem.W.kitAny K (.ref D) us = some b ∧ Q (.bl b) H
theorem call_isKT {X : Cx} : CallR X (.builtin "isinstance") (rIsKT X.K) := by
  intro pins s σ H xs us Q I r h
  obtain ⟨a, D, tp, cs, ws, b, rfl, ha, C, hT, k, e, q⟩ := h
  obtain ⟨u1, u2, rfl, r1, r2⟩ := vals2 r
  cases (show u1 = Value.ref a from r1)
  cases (show u2 = Value.ref tp from r2)
  obtain ⟨P, Z, p⟩ := kit_kept I C ha
  obtain ⟨_, its, rv, o, h1, h2, n, h3⟩ := (show ObjOk X.prog X.w H s.heap tp (.tup cs) from I.hok tp _ hT)
  cases ClsV.all k rv
  obtain ⟨oc, od, dt, sl⟩ := o
  simp only at h2 h3
  subst h2 h3
  exact PySem.W.kia_tup Z I.kIn p h1 e (fun z => nomatch z) fun tk => ⟨.bl b, H, I.tok tk, rfl, q⟩
theorem inK {X : Cx} {K : PySem.W.Frag} (h : X.K = K) : OpR X (compareOp .In) (rIn K false) := by
  subst h
  exact op_in_seq
/-! what is read of any text: rows, makers, formulas -/
theorem side_cases {z : Str} {n : Int} (h : sideN z = some n) : (z = "less" ∧ n = 1) ∨ (z = "both" ∧ n = 2) ∨ (z = "either" ∧ n = 2) ∨ (z = "oneof" ∧ n = 2) ∨ (z = "pick" ∧ n = 3) := by
  by_cases e1 : z = "less"
  · subst e1
    rw [show sideN "less" = some 1 by decide +kernel] at h
    exact .inl ⟨rfl, (Option.some.inj h).symm⟩
  by_cases e2 : z = "both"
  · subst e2
    rw [show sideN "both" = some 2 by decide +kernel] at h
    exact .inr (.inl ⟨rfl, (Option.some.inj h).symm⟩)
  by_cases e3 : z = "either"
  · subst e3
    rw [show sideN "either" = some 2 by decide +kernel] at h
    exact .inr (.inr (.inl ⟨rfl, (Option.some.inj h).symm⟩))
  by_cases e4 : z = "oneof"
  · subst e4
    rw [show sideN "oneof" = some 2 by decide +kernel] at h
    exact .inr (.inr (.inr (.inl ⟨rfl, (Option.some.inj h).symm⟩)))
  by_cases e5 : z = "pick"
  · subst e5
    rw [show sideN "pick" = some 3 by decide +kernel] at h
    exact .inr (.inr (.inr (.inr ⟨rfl, (Option.some.inj h).symm⟩)))
  · have b : ∀ {y : Str}, z ≠ y → (z == y) = false := fun h => beq_false_of_ne h
    have : sideN z = none := by
      unfold sideN dl_SIDES
      simp only [List.lookup, b e1, b e2, b e3, b e4, b e5]
    rw [this] at h
    cases h
theorem well_fmN : ∀ (n : Nat) (d : PyData), sizeOf d < n → well d = true → ∃ f : Fm, f.data = d ∧ ∀ i, i ∈ f.ins → i < 6
  | 0, _, hn, _ => absurd hn (Nat.not_lt_zero _)
  | _ + 1, .none, _, h => by simp only [well] at h; exact nomatch h
  | _ + 1, .bool _, _, h => by simp only [well] at h; exact nomatch h
  | _ + 1, .int _, _, h => by simp only [well] at h; exact nomatch h
  | _ + 1, .str _, _, h => by simp only [well] at h; exact nomatch h
  | _ + 1, .list _, _, h => by simp only [well] at h; exact nomatch h
  | _ + 1, .dict _, _, h => by simp only [well] at h; exact nomatch h
  | _ + 1, .tuple [], _, h => by simp only [well, wellT] at h; exact nomatch h
  | k + 1, .tuple (x :: xs), hn, h => by
    have hz : ∃ z, x = .str z := by
      cases x with
      | str z => exact ⟨z, rfl⟩
      | _ => simp only [well, wellT, wordOf] at h; exact nomatch h
    obtain ⟨z, rfl⟩ := hz
    by_cases e : z = "in"
    · subst e
      have h : okArg xs = true := by simpa only [well, wellT, wordOf, if_pos] using h
      match xs, h with
      | [.int i], h =>
        have h : decide (0 ≤ i ∧ i ≤ 5) = true := h
        have h := of_decide_eq_true h
        refine ⟨.inp i.toNat, ?_, fun j hj => ?_⟩
        · show PyData.tuple [.str "in", .int ((i.toNat : Nat) : Int)] = _
          rw [Int.toNat_of_nonneg h.1]
        · have hj : j ∈ [i.toNat] := hj
          rw [List.mem_singleton.mp hj]
          omega
    · have h : decide (sideN z = some (xs.length : Int)) = true ∧ wellA xs = true := by simpa only [well, wellT, wordOf, if_neg e, Bool.and_eq_true] using h
      obtain ⟨h1, h2⟩ := h
      have h1 := of_decide_eq_true h1
      have h2 := wellA_all.mp h2
      rcases side_cases h1 with ⟨rfl, n⟩ | ⟨rfl, n⟩ | ⟨rfl, n⟩ | ⟨rfl, n⟩ | ⟨rfl, n⟩
      · match xs, n, h2, hn with
        | [d1], _, h2, hn =>
          simp only [PyData.tuple.sizeOf_spec, List.cons.sizeOf_spec] at hn
          obtain ⟨f, e1, i1⟩ := well_fmN k d1 (by omega) (h2 d1 (by simp))
          exact ⟨.less f, by show PyData.tuple [.str "less", f.data] = _; rw [e1], i1⟩
      · match xs, n, h2, hn with
        | [d1, d2], _, h2, hn =>
          simp only [PyData.tuple.sizeOf_spec, List.cons.sizeOf_spec] at hn
          obtain ⟨f, e1, i1⟩ := well_fmN k d1 (by omega) (h2 d1 (by simp))
          obtain ⟨g, e2, i2⟩ := well_fmN k d2 (by omega) (h2 d2 (by simp))
          exact ⟨.both f g, by show PyData.tuple [.str "both", f.data, g.data] = _; rw [e1, e2], fun i hi => (List.mem_append.mp hi).elim (i1 i) (i2 i)⟩
      · match xs, n, h2, hn with
        | [d1, d2], _, h2, hn =>
          simp only [PyData.tuple.sizeOf_spec, List.cons.sizeOf_spec] at hn
          obtain ⟨f, e1, i1⟩ := well_fmN k d1 (by omega) (h2 d1 (by simp))
          obtain ⟨g, e2, i2⟩ := well_fmN k d2 (by omega) (h2 d2 (by simp))
          exact ⟨.either f g, by show PyData.tuple [.str "either", f.data, g.data] = _; rw [e1, e2], fun i hi => (List.mem_append.mp hi).elim (i1 i) (i2 i)⟩
      · match xs, n, h2, hn with
        | [d1, d2], _, h2, hn =>
          simp only [PyData.tuple.sizeOf_spec, List.cons.sizeOf_spec] at hn
          obtain ⟨f, e1, i1⟩ := well_fmN k d1 (by omega) (h2 d1 (by simp))
          obtain ⟨g, e2, i2⟩ := well_fmN k d2 (by omega) (h2 d2 (by simp))
          exact ⟨.oneof f g, by show PyData.tuple [.str "oneof", f.data, g.data] = _; rw [e1, e2], fun i hi => (List.mem_append.mp hi).elim (i1 i) (i2 i)⟩
      · match xs, n, h2, hn with
        | [d1, d2, d3], _, h2, hn =>
          simp only [PyData.tuple.sizeOf_spec, List.cons.sizeOf_spec] at hn
          obtain ⟨f, e1, i1⟩ := well_fmN k d1 (by omega) (h2 d1 (by simp))
          obtain ⟨g, e2, i2⟩ := well_fmN k d2 (by omega) (h2 d2 (by simp))
          obtain ⟨k, e3, i3⟩ := well_fmN k d3 (by omega) (h2 d3 (by simp))
          exact ⟨.pick f g k, by show PyData.tuple [.str "pick", f.data, g.data, k.data] = _; rw [e1, e2, e3], fun i hi => (List.mem_append.mp hi).elim (i1 i) fun hi => (List.mem_append.mp hi).elim (i2 i) (i3 i)⟩
theorem well_fm (d : PyData) (h : well d = true) : ∃ f : Fm, f.data = d ∧ ∀ i, i ∈ f.ins → i < 6 := well_fmN (sizeOf d + 1) d (by omega) h
structure GdF (f : Fm) : Prop where
  ins : ∀ i, i ∈ f.ins → i < 6
  dp : f.dep ≤ 8
  sz : f.sz ≤ 24
theorem isF_is {d : PyData} (h : isF d = true) : ∃ f : Fm, f.data = d ∧ GdF f := by
  unfold isF at h
  rw [Bool.and_eq_true, Bool.and_eq_true, decide_eq_true_eq, decide_eq_true_eq] at h
  obtain ⟨f, rfl, hi⟩ := well_fm d h.1
  obtain ⟨_, b, c⟩ := fm_well hi
  rw [b, c] at h
  exact ⟨f, rfl, hi, by omega, by omega⟩
theorem GdF.is {f : Fm} (h : GdF f) : isF f.data = true := fm_isF h.ins h.dp h.sz
/-- a text that is not too long, of plain signs -/
structure ZOk (z : Str) : Prop where
  len : z.length ≤ 100000
  sg : ∀ c, c ∈ TL.tl z → c < 200
theorem spc_mem {x c : Nat} (h : c ∈ spc x) : c = x ∨ c = 32 := by
  by_cases e : x = 40
  · subst e
    have h : c ∈ [40, 32] := h
    rcases List.mem_cons.mp h with h | h
    · exact .inl h
    · exact .inr (List.mem_singleton.mp h)
  by_cases e2 : x = 41
  · subst e2
    have h : c ∈ [32, 41] := h
    rcases List.mem_cons.mp h with h | h
    · exact .inr h
    · exact .inl (List.mem_singleton.mp h)
  · unfold spc at h
    rw [if_neg e, if_neg e2] at h
    exact .inl (List.mem_singleton.mp h)
theorem spcs_mem : ∀ {l : List Nat} {c : Nat}, c ∈ spcs l → c ∈ l ∨ c = 32
  | [], _, h => by cases h
  | x :: l, c, h => by
    have h : c ∈ spc x ++ spcs l := h
    rcases List.mem_append.mp h with h | h
    · rcases spc_mem h with rfl | h
      · exact .inl List.mem_cons_self
      · exact .inr h
    · rcases spcs_mem h with h | h
      · exact .inl (List.mem_cons_of_mem _ h)
      · exact .inr h
theorem spcs_len : ∀ l : List Nat, (spcs l).length ≤ 2 * l.length
  | [] => Nat.le_refl 0
  | x :: l => by
    have := spcs_len l
    show (spc x ++ spcs l).length ≤ _
    rw [List.length_append, List.length_cons]
    have : (spc x).length ≤ 2 := by
      unfold spc
      split
      · exact Nat.le_refl _
      · split
        · exact Nat.le_refl _
        · exact (by decide : 1 ≤ 2)
    omega
theorem joinL_mem {S : List Nat} : ∀ {xs : List (List Nat)} {x : List Nat}, x ∈ xs → (∀ c, c ∈ x → c ∈ TL.joinL S xs) ∧ x.length ≤ (TL.joinL S xs).length
  | [p], x, h => by
    rw [List.mem_singleton.mp h]
    exact ⟨fun c hc => hc, Nat.le_refl _⟩
  | p :: q :: r, x, h => by
    have e : TL.joinL S (p :: q :: r) = p ++ (S ++ TL.joinL S (q :: r)) := rfl
    rw [e]
    rcases List.mem_cons.mp h with rfl | h
    · exact ⟨fun c hc => List.mem_append_left _ hc, by rw [List.length_append]; omega⟩
    · obtain ⟨a, b⟩ := joinL_mem h
      exact ⟨fun c hc => List.mem_append_right _ (List.mem_append_right _ (a c hc)), by rw [List.length_append, List.length_append]; omega⟩
theorem joinL_cnt {s : Nat} : ∀ xs : List (List Nat), xs.length ≤ (TL.joinL [s] xs).length + 1
  | [] => Nat.zero_le _
  | [_] => by
    show 1 ≤ _
    omega
  | p :: q :: r => by
    have := joinL_cnt (s := s) (q :: r)
    have e : TL.joinL [s] (p :: q :: r) = p ++ ([s] ++ TL.joinL [s] (q :: r)) := rfl
    rw [e, List.length_append, List.length_append, List.length_cons]
    show _ ≤ p.length + (1 + _) + 1
    omega
theorem words_small {z : Str} (h : ZOk z) : (∀ x, x ∈ wordsZ z → PyData.strOk x = true ∧ x.length ≤ 1000000) ∧ (wordsZ z).length ≤ 1000000 := by
  have k : TL.tl (Txt.replace (Txt.replace z "(" "( ") ")" " )") = spcs (TL.tl z) := by
    show (Txt.replace _ _ _).cps.toList = _
    rw [StrLaws.replace_list (by decide +kernel), StrLaws.replace_list (by decide +kernel)]
    exact repl2 _
  have j := StrLaws.join_split (Txt.replace (Txt.replace z "(" "( ") ")" " )") " "
  have j2 : TL.tl (Txt.join " " (wordsZ z)) = spcs (TL.tl z) := by
    rw [← k]
    exact congrArg TL.tl (by rw [TL.join_eq]; exact j)
  rw [tl_join32] at j2
  have l := spcs_len (TL.tl z)
  rw [← TL.len_tl] at l
  have zl := h.len
  refine ⟨fun x hx => ?_, ?_⟩
  · obtain ⟨a, b⟩ := joinL_mem (S := [32]) (List.mem_map.mpr ⟨x, hx, rfl⟩ : TL.tl x ∈ (wordsZ z).map TL.tl)
    rw [j2] at a b
    refine ⟨strOk_of fun c hc => ?_, by rw [TL.len_tl]; omega⟩
    rcases spcs_mem (a c hc) with g | g
    · exact h.sg c g
    · omega
  · have := joinL_cnt (s := 32) ((wordsZ z).map TL.tl)
    rw [j2, List.length_map] at this
    omega
theorem GdM.words {m : Mk} (h : GdM m) : pres (wordsZ m.txt) = some (mkd m) ∧ ∀ z, pres (wordsZ z) = some (mkd m) → z = m.txt := by
  obtain ⟨w, ts, en, et, ed, ok, dp, wt, tb⟩ := h.nt
  rw [et, ← ed]
  exact ⟨pres_of ok dp, fun z hz => text_of ok hz⟩
theorem GdF.words {f : Fm} (h : GdF f) : pres (wordsZ f.txt) = some f.data ∧ ∀ z, pres (wordsZ z) = some f.data → z = f.txt := by
  have ok := fnt_ok f h.ins
  have ds := fnt_dep f
  have en := fnt_node f
  have ed := fnt_data f
  have dp := h.dp
  unfold Fm.txt
  rw [← ed]
  generalize f.nt = t at ok ds en ⊢
  generalize t.wd = w, t.sub = ts at en ⊢
  subst en
  exact ⟨pres_of ok (by omega), fun z hz => text_of ok hz⟩
def sp_maker_from {K : PySem.W.Frag} {mg : Str → Option Value} (T : Defs K mg) : Sp := fun vs H Q E => ∃ z : Str, vs = [.str z] ∧ ZOk z ∧ GxR.TabG H T.P_is_table ∧ (∀ m, GdM m → z = m.txt → ∀ H' v, Sam H H' → Tg (fun _ => False) H' v (mkd m) → Q v H') ∧ ((∀ m, GdM m → z ≠ m.txt) → ∀ H', Sam H H' → E (.ref T.C_BadText) none H')
theorem ok_maker_from (T : Defs K mg) (TT : Tabs T base) : FnOk P w K mg base (L2.CX P w) 11 T.f_maker_from T.fd_maker_from ["text"] (sp_maker_from T) := by
  have G_nested_from : FnOk P w K mg base CX0 3 T.f_nested_from T.fd_nested_from ["text"] (sp_nested_from K) := ok_nested_from T TT
  have G_is_maker : FnOk P w K mg base CX0 10 T.f_is_maker T.fd_is_maker ["thing"] (sp_is_maker T) := ok_is_maker T TT
  refine okX T.F_maker_from sc_maker_from (fun vs H Q E h => ?_) (fun cdv A outer s H vs Q E hr h => ?_)
  · obtain ⟨z, rfl, hz, tab, q1, q0⟩ := h
    rfl
  · obtain ⟨z, rfl, hz, tab, q1, q0⟩ := h
    refine ⟨_, (pss_cons (ps_set (i := 1) sc_maker_from.nd rfl (.inl rfl) (pe_call G_nested_from (hr.mono (by decide)) (by rfl) T.g_nested_from T.F_nested_from.kp T.b_nested_from .nil pass0 (pa_cons (pv 0) pa_nil)))
    (pss_cons (ps_if (pt_not (pt_val (pe_call G_is_maker (hr.mono (by decide)) (by rfl) T.g_is_maker T.F_is_maker.kp T.b_is_maker .nil pass0 (pa_cons (pv 1) pa_nil)))) (pss_one (ps_raise rfl (takes_of (E := E) rfl rfl rfl rfl) (pmk_own PySem.F.excBase_ValueError T.xi_BadText T.g_BadText T.xk_BadText (raises_own T.xs_BadText T.xt_BadText) (by rfl)))) pss_nil)
    (pss_one (ps_ret (pv 1))))), ?_⟩
    obtain ⟨w1, w2⟩ := words_small hz
    have zl := hz.len
    refine ⟨_, rfl, z, wordsZ z, rfl, by omega, rfl, w1, w2, fun H1 v d s1 e tg g dp => ?_, fun H1 s1 e => ?_⟩
    · refine ⟨_, rfl, _, v, d, 21, 16, d.weight, rfl, tg, ⟨g, dp, Nat.le_refl _⟩, by decide, (Sam.of s1).tabG tab, fun H2 r s2 hr => ?_⟩
      cases r with
      | true =>
        obtain ⟨m, rfl, ok, vd, dpm, rn⟩ := hr.mp rfl
        have gm : GdM m := ⟨ok, vd, dpm, rn⟩
        exact ⟨_, rfl, iteF ⟨_, rfl, q1 m gm (gm.words.2 z e) H2 v ((Sam.of s1).trans s2) (tg.sam s2)⟩⟩
      | false =>
        refine ⟨_, rfl, iteT ?_⟩
        have no : ∀ m, GdM m → z ≠ m.txt := fun m gm ez => by
          have := gm.words.1
          rw [← ez, e] at this
          cases this
          have := hr.mpr gm.is
          cases this
        exact q0 no H2 ((Sam.of s1).trans s2)
    · refine ⟨_, rfl, fun _ => False, .non, .none, 21, 16, 100, rfl, .non, ⟨rfl, by decide, by decide⟩, by decide, (Sam.of s1).tabG tab, fun H2 r s2 hr => ?_⟩
      cases r with
      | true =>
        obtain ⟨m, em, _⟩ := hr.mp rfl
        cases m <;> cases em
      | false =>
        refine ⟨_, rfl, iteT ?_⟩
        have no : ∀ m, GdM m → z ≠ m.txt := fun m gm ez => by
          have := gm.words.1
          rw [← ez, e] at this
          cases this
        exact q0 no H2 ((Sam.of s1).trans s2)
def sp_formula_from {K : PySem.W.Frag} {mg : Str → Option Value} (T : Defs K mg) : Sp := fun vs H Q E => ∃ z : Str, vs = [.str z] ∧ ZOk z ∧ (∀ f, GdF f → z = f.txt → ∀ H' v, Same H H' → Tg (fun _ => False) H' v f.data → Q v H') ∧ ((∀ f, GdF f → z ≠ f.txt) → ∀ H', Same H H' → E (.ref T.C_BadText) none H')
theorem ok_formula_from (T : Defs K mg) (TT : Tabs T base) : FnOk P w K mg base (L2.CX P w) 5 T.f_formula_from T.fd_formula_from ["text"] (sp_formula_from T) := by
  have G_nested_from : FnOk P w K mg base CX0 3 T.f_nested_from T.fd_nested_from ["text"] (sp_nested_from K) := ok_nested_from T TT
  have G_is_formula : FnOk P w K mg base CX0 4 T.f_is_formula T.fd_is_formula ["thing"] (sp_is_formula K) := ok_is_formula T TT
  refine okX T.F_formula_from sc_formula_from (fun vs H Q E h => ?_) (fun cdv A outer s H vs Q E hr h => ?_)
  · obtain ⟨z, rfl, hz, q1, q0⟩ := h
    rfl
  · obtain ⟨z, rfl, hz, q1, q0⟩ := h
    refine ⟨_, (pss_cons (ps_set (i := 1) sc_formula_from.nd rfl (.inl rfl) (pe_call G_nested_from (hr.mono (by decide)) (by rfl) T.g_nested_from T.F_nested_from.kp T.b_nested_from .nil pass0 (pa_cons (pv 0) pa_nil)))
    (pss_cons (ps_if (pt_not (pt_val (pe_call G_is_formula (hr.mono (by decide)) (by rfl) T.g_is_formula T.F_is_formula.kp T.b_is_formula .nil pass0 (pa_cons (pv 1) pa_nil)))) (pss_one (ps_raise rfl (takes_of (E := E) rfl rfl rfl rfl) (pmk_own PySem.F.excBase_ValueError T.xi_BadText T.g_BadText T.xk_BadText (raises_own T.xs_BadText T.xt_BadText) (by rfl)))) pss_nil)
    (pss_one (ps_ret (pv 1))))), ?_⟩
    obtain ⟨w1, w2⟩ := words_small hz
    have zl := hz.len
    refine ⟨_, rfl, z, wordsZ z, rfl, by omega, rfl, w1, w2, fun H1 v d s1 e tg g dp => ?_, fun H1 s1 e => ?_⟩
    · refine ⟨_, rfl, _, v, d, rfl, tg, fun H2 s2 => ?_⟩
      cases r : isF d with
      | true =>
        obtain ⟨f, rfl, gf⟩ := isF_is r
        exact ⟨_, rfl, iteF ⟨_, rfl, q1 f gf (gf.words.2 z e) H2 v (s1.trans s2) (tg.same s2)⟩⟩
      | false =>
        refine ⟨_, rfl, iteT ?_⟩
        have no : ∀ f, GdF f → z ≠ f.txt := fun f gf ez => by
          have := gf.words.1
          rw [← ez, e] at this
          cases this
          have := gf.is
          rw [r] at this
          cases this
        exact q0 no H2 (s1.trans s2)
    · refine ⟨_, rfl, fun _ => False, .non, .none, rfl, .non, fun H2 s2 => ?_⟩
      refine ⟨_, rfl, iteT ?_⟩
      have no : ∀ f, GdF f → z ≠ f.txt := fun f gf ez => by
        have := gf.words.1
        rw [← ez, e] at this
        cases this
      exact q0 no H2 (s1.trans s2)
def sigS (c : Nat) : Str := ⟨#[c]⟩
theorem tg_wordV {p : Addr → Prop} {H : Hp} (z : Str) : Tg p H (wordV z) (wordD z) := by
  unfold wordV wordD
  cases numF z with
  | none => exact .str z
  | some n => exact .int n
theorem tg_signs {p : Addr → Prop} {H : Hp} : ∀ l : List Nat, TgA p H (l.map fun c => wordV (sigS c)) (l.map fun c => wordD (sigS c))
  | [] => .nil
  | c :: l => .cons (tg_wordV _) (tg_signs l)
theorem sgn_bit {b : Int} (h : b = 0 ∨ b = 1) : wordD (sigS (48 + b.toNat)) = .int b := by
  show wordD (⟨#[48 + b.toNat]⟩ : Str) = _
  rw [← bit_sign h]
  unfold wordD bitS
  rw [numF_digs (by omega)]
  show PyData.int ((b.toNat : Nat) : Int) = _
  exact congrArg PyData.int (by omega)
theorem bit_of_sgn {c : Nat} {b : Int} (h : b = 0 ∨ b = 1) (e : wordD (sigS c) = .int b) : c = 48 + b.toNat := by
  have e2 : sigS c = digs b.toNat := wordD_int (by rw [e]; exact congrArg PyData.int (by omega))
  have e3 := congrArg TL.tl e2
  rw [digs_tl] at e3
  rcases h with rfl | rfl
  · exact (List.cons.inj (e3.trans (show TL.numL (0 : Int).toNat = [48] by decide +kernel))).1
  · exact (List.cons.inj (e3.trans (show TL.numL (1 : Int).toNat = [49] by decide +kernel))).1
structure GdR (bs : List Int) : Prop where
  bit : Bits bs
  l1 : 1 ≤ bs.length
  l2 : bs.length ≤ 4096
theorem row_signs : ∀ {l : List Nat}, (∀ e, e ∈ l.map (fun c => wordD (sigS c)) → withinD e 0 1 = true) → ∃ bs : List Int, Bits bs ∧ l = bs.map fun b => 48 + b.toNat
  | [], _ => ⟨[], fun _ h => (by cases h), rfl⟩
  | c :: l, h => by
    obtain ⟨bs, hb, e⟩ := row_signs (l := l) fun x hx => h x (List.mem_cons_of_mem _ hx)
    have hc := h (wordD (sigS c)) List.mem_cons_self
    cases ew : wordD (sigS c) with
    | int i =>
      rw [ew] at hc
      have hi : 0 ≤ i ∧ i ≤ 1 := of_decide_eq_true hc
      have hi : i = 0 ∨ i = 1 := by omega
      refine ⟨i :: bs, fun x hx => ?_, ?_⟩
      · rcases List.mem_cons.mp hx with rfl | hx
        · exact hi
        · exact hb x hx
      · rw [List.map_cons, ← e, bit_of_sgn hi ew]
    | _ => rw [ew] at hc; cases hc
theorem row_data {z : Str} : isRowD (.tuple ((TL.tl z).map fun c => wordD (sigS c))) = true ↔ ∃ bs, GdR bs ∧ z = rowS bs := by
  constructor
  · intro h
    have h : (decide (1 ≤ ((TL.tl z).map fun c => wordD (sigS c)).length ∧ ((TL.tl z).map fun c => wordD (sigS c)).length ≤ 4096) && ((TL.tl z).map fun c => wordD (sigS c)).all fun x => withinD x 0 1) = true := h
    rw [Bool.and_eq_true, decide_eq_true_eq, List.all_eq_true, List.length_map] at h
    obtain ⟨bs, hb, e⟩ := row_signs h.2
    have el := congrArg List.length e
    rw [List.length_map] at el
    refine ⟨bs, ⟨hb, by omega, by omega⟩, TL.ext_tl ?_⟩
    rw [tl_rowS hb]
    exact e
  · rintro ⟨bs, g, rfl⟩
    rw [tl_rowS g.bit, List.map_map]
    have e : bs.map ((fun c => wordD (sigS c)) ∘ fun b => 48 + b.toNat) = bs.map PyData.int := List.map_inj_left.mpr fun b hb => sgn_bit (g.bit b hb)
    rw [e]
    exact bits_row g.bit g.l1 g.l2
theorem row_tup {bs : List Int} (g : GdR bs) : (TL.tl (rowS bs)).map (fun c => wordV (sigS c)) = bs.map V.int := by
  rw [tl_rowS g.bit, List.map_map]
  exact List.map_inj_left.mpr fun b hb => sign_word (g.bit b hb)
def sp_row_from {K : PySem.W.Frag} {mg : Str → Option Value} (T : Defs K mg) : Sp := fun vs H Q E => ∃ z : Str, vs = [.str z] ∧ ZOk z ∧ GxR.TabG H T.P_row_from ∧ GxR.TabG H T.P_is_row ∧ (∀ bs, GdR bs → z = rowS bs → ∀ H' a, Sam H H' → H' a = some (.tup (bs.map V.int)) → Q (.ref a) H') ∧ ((∀ bs, GdR bs → z ≠ rowS bs) → ∀ H', Sam H H' → E (.ref T.C_BadText) none H')
theorem ok_row_from (T : Defs K mg) (TT : Tabs T base) : FnOk P w K mg base (L2.CX P w) 6 T.f_row_from T.fd_row_from ["text"] (sp_row_from T) := by
  have G_is_row : FnOk P w K mg base CX0 5 T.f_is_row T.fd_is_row ["thing"] (sp_is_row T) := ok_is_row T TT
  have G_word_from : FnOk P w K mg base CX0 2 T.f_word_from T.fd_word_from ["text"] (sp_word_from K) := ok_word_from T TT
  refine okXC T.F_row_from T.k_row_from sc_row_from (fun vs H Q E h => ?_) (fun A outer s H vs Q E hr h => ?_)
  · obtain ⟨z, rfl, hz, tab, tab2, q1, q0⟩ := h
    rfl
  · obtain ⟨z, rfl, hz, tab, tab2, q1, q0⟩ := h
    refine ⟨_, (pss_cons (ps_set (i := 1) sc_row_from.nd rfl (.inl rfl) (pe_tupE (k := 4) (own := [("sign", 2)]) (g := gName 2) (tt := tYes) (hr.mono (by decide)) (by rfl) T.m_tuple bt_tuple rfl sc_row_from.nd TT.t_row_from rfl (genOk_by (N := N_row_from) (sc := defScope s_row_from) (own := [("sign", 2)]) (by decide +kernel) rfl (by decide +kernel) rfl) (pi_str (pv 0)) (fun _ _ _ _ _ hr => (pg_name (i := 2) sc_row_from.nd rfl (.inl rfl))) (fun _ _ _ _ _ hr => pts_nil) (fun _ _ _ _ _ hr => (pe_call G_word_from (hr.mono (by decide)) (by rfl) T.g_word_from T.F_word_from.kp T.b_word_from .nil pass0 (pa_cons (pv 2) pa_nil)))))
    (pss_cons (ps_if (pt_not (pt_val (pe_call G_is_row (hr.mono (by decide)) (by rfl) T.g_is_row T.F_is_row.kp T.b_is_row .nil pass0 (pa_cons (pv 1) pa_nil)))) (pss_one (ps_raise rfl (takes_of (E := E) rfl rfl rfl rfl) (pmk_own PySem.F.excBase_ValueError T.xi_BadText T.g_BadText T.xk_BadText (raises_own T.xs_BadText T.xt_BadText) (by rfl)))) pss_nil)
    (pss_one (ps_ret (pv 1))))), ?_⟩
    have hsl : sizeLine = 16777216 := by decide
    have zl := hz.len
    rw [TL.len_tl] at zl
    refine ⟨_, rfl, z, rfl, tab, fun F2 tb => ?_⟩
    have sz : z.cps.size = (TL.tl z).length := Array.length_toList.symm
    refine gc_it (walk_str (z := z)) (fun j zs F3 => Sam H F3 ∧ zs = ((TL.tl z).take j).map fun c => wordV (sigS c)) ⟨Sam.tabbed tab tb, rfl⟩ (fun j zs F3 _ h => trivial) ?_ ?_
    · rintro j zs v' F3 F4 hj ⟨s3, rfl⟩ ⟨rfl, c, hc, rfl⟩
      have ec : (TL.tl z)[j]? = some c := by
        show z.cps.toList[j]? = some c
        rw [Array.getElem?_toList]
        exact hc
      refine ⟨rfl, yes_ite ⟨_, rfl, _, rfl, by show 1 ≤ 1000000; decide, ?_⟩⟩
      refine ⟨by rw [List.length_map, List.length_take]; omega, fun _ => ⟨s3, ?_⟩⟩
      rw [List.take_add_one, ec, List.map_append]
      rfl
    · rintro zs F3 ⟨s3, rfl⟩
      rw [sz, List.take_length]
      intro t nt
      have st := same_upd nt (o := .tup ((TL.tl z).map fun c => wordV (sigS c)))
      have ht := upd_same (H := F3) (a := t) (o := .tup ((TL.tl z).map fun c => wordV (sigS c)))
      have s4 := s3.trans (Sam.of st)
      refine ⟨_, rfl, fun _ => False, .ref t, .tuple ((TL.tl z).map fun c => wordD (sigS c)), rfl, .tup id upd_same (tg_signs _), s4.tabG tab2, fun F5 s5 => ?_⟩
      cases r : isRowD (.tuple ((TL.tl z).map fun c => wordD (sigS c))) with
      | true =>
        obtain ⟨bs, g, ez⟩ := row_data.mp r
        refine ⟨_, rfl, iteF ⟨_, rfl, q1 bs g ez F5 t (s4.trans s5) ?_⟩⟩
        have := s5.tup ht
        rw [ez, row_tup g] at this
        rw [this]
      | false =>
        refine ⟨_, rfl, iteT ?_⟩
        have no : ∀ bs, GdR bs → z ≠ rowS bs := fun bs g ez => by
          have := row_data.mpr ⟨bs, g, ez⟩
          rw [r] at this
          cases this
        exact q0 no F5 (s4.trans s5)
/-! the law's own text -/
def spr__law_written (d : Nat) (_ : PySem.W.Frag) : Sp := fun vs H Q _ => ∃ (v : V) (p : Addr → Prop) (w : Str) (ts : List Nt), vs = [v] ∧ Tg p H v (Nt.node w ts).data ∧ (Nt.node w ts).Ok ∧ (Nt.node w ts).dep ≤ d ∧ (Nt.node w ts).wt ≤ 1000000 ∧ (Nt.node w ts).Tb ∧ ∀ H', Same H H' → Q (.str (ntx w ts)) H'
theorem no__law_written {K : PySem.W.Frag} {vs : List V} {H : Hp} {Q : VK} {E : XK} (h : spr__law_written 0 K vs H Q E) : False := by
  obtain ⟨v, p, w, ts, _, _, _, z, _⟩ := h
  have z : Nt.deps ts + 1 ≤ 0 := by simpa only [Nt.dep] using z
  omega
theorem okr__law_written (T : Defs K mg) (TT : Tabs T base) : ∀ d : Nat, FnOk P w K mg base CX0 (1 + d) T.f__law_written T.fd__law_written ["_law_thing"] (spr__law_written d K)
  | 0 => ⟨fun _ _ _ _ z => (no__law_written z).elim, fun _ _ _ _ _ _ _ _ _ _ _ _ _ z => (no__law_written z).elim⟩
  | d + 1 => by
    have G__law_written : FnOk P w K mg base CX0 (1 + d) T.f__law_written T.fd__law_written ["_law_thing"] (spr__law_written d K) := okr__law_written T TT d
    show FnOk P w K mg base CX0 ((1 + d) + 1) T.f__law_written T.fd__law_written ["_law_thing"] (spr__law_written (d + 1) K)
    refine T.F__law_written.ok sc__law_written (fun vs H Q E h => ?_) (fun cdv A outer s H vs Q E hr h => ?_)
    · obtain ⟨v, p, wd, ts, rfl, hv, ok, dp, wt, tbb, q⟩ := h
      rfl
    · obtain ⟨v, p, wd, ts, rfl, hv, ok, dp, wt, tbb, q⟩ := h
      refine ⟨_, PSs.nox (pss_cons (ps_set (i := 1) sc__law_written.nd rfl (.inl rfl) (pe_ix ix_tup (pv 0) pe_int (fun _ _ => rfl)))
    (pss_cons ((ps_for PassesOwn.never rfl (pi_tup (pe_slice sl_tupS (pv 0) (po_some pe_int) po_none)) (pg_name (i := 2) sc__law_written.nd rfl (.inl rfl)) (pss_one (ps_if (pt_val (pe_callB call_isi (by rfl) T.m_isinstance bt_isinstance (pa_cons (pv 2) (pa_cons (pe_bltn (v := .ty "int") (by rfl) T.m_int bt_int rfl) pa_nil)))) (pss_one (ps_set (i := 1) sc__law_written.nd rfl (.inl rfl) (pe_op op_add_str (pe_op op_add_str (pv 1) pe_str) (pe_callTy call_strT (by rfl) T.m_str bt_str (pa_cons (pv 2) pa_nil))))) (pss_one (ps_if (pt_cmpR op_eq (pe_ix ix_tup (pv 0) pe_int (fun _ _ => rfl)) pe_str (nomark _)) (pss_one (ps_set (i := 1) sc__law_written.nd rfl (.inl rfl) (pe_op op_add_str (pv 1) (pe_join pe_str (pe_lc (own := [("_law_number", 3)]) (g := gName 3) (tt := tYes) rfl sc__law_written.nd (pi_tup (pv 2)) (blkOk_by (N := N__law_written) (sc := defScope s__law_written) (by decide +kernel)) (fun _ _ _ _ _ => (pg_name (i := 3) sc__law_written.nd rfl (.inl rfl))) (fun _ _ _ _ _ => pts_nil) (fun _ _ _ _ _ => (pe_op op_add_str pe_str (pe_callTy call_strT (by rfl) T.m_str bt_str (pa_cons (pv 3) pa_nil))))))))) (pss_one (ps_set (i := 1) sc__law_written.nd rfl (.inl rfl) (pe_op op_add_str (pe_op op_add_str (pe_op op_add_str (pv 1) pe_str) (pe_call G__law_written (hr.mono (by omega)) (by rfl) T.g__law_written T.F__law_written.kp T.b__law_written .nil pass0 (pa_cons (pv 2) pa_nil))) pe_str)))))))))
    (pss_one (ps_ret (pv 1))))), ?_⟩
      have hsl : sizeLine = 16777216 := by decide
      have ok2 : WdOk wd ∧ Nt.Oks ts := by simpa only [Nt.Ok] using ok
      have tb2 : (wd = "table" → ∀ t, t ∈ ts → ∃ n, t = .num n) ∧ Nt.Tbs ts := by simpa only [Nt.Tb] using tbb
      have dp2 : Nt.deps ts + 1 ≤ d + 1 := by simpa only [Nt.dep] using dp
      have wt2 : wd.length + 4 + Nt.wts ts ≤ 1000000 := by simpa only [Nt.wt] using wt
      have ed : (Nt.node wd ts).data = if wd = "table" then PyData.tuple [.str "table", .tuple (Nt.datas ts)] else .tuple (.str wd :: Nt.datas ts) := rfl
      have al := acc_len (w := wd) ok2.2
      have tl1 : ((" " : Str)).length = 1 := by decide +kernel
      have tl2 : ((" (" : Str)).length = 2 := by decide +kernel
      have tl3 : ((")" : Str)).length = 1 := by decide +kernel
      have lap : ∀ a b : Str, (a ++ b).length = a.length + b.length := fun a b => by rw [TL.len_tl, TL.len_tl, TL.len_tl, TL.tl_append, List.length_append]
      have ltx := ntx_len ok
      rw [ed] at hv
      by_cases tb : wd = "table"
      · rw [if_pos tb] at hv
        cases hv with
        | tup n ha t =>
          rename_i a xs
          cases t with
          | cons t1 t =>
            cases t1
            cases t with
            | cons t2 t =>
              cases t
              cases t2 with
              | tup n2 ha2 t2 =>
                rename_i a2 ys
                refine ⟨_, rfl, a, _, _, _, rfl, rfl, SqT.mk ha, atI_nat (j := 0) rfl, ?_⟩
                refine ⟨_, rfl, 1, rfl, a, _, rfl, ha, fun G c sG hc => ?_⟩
                rw [show cutV [V.str "table", V.ref a2] (some 1) none = [V.ref a2] from cut_hi [V.str "table", V.ref a2] 1] at hc
                obtain ⟨ly, hy⟩ := TgA.getD t2
                rw [datas_map, List.length_map] at ly
                have tk : ("table" : Str) ++ Txt.join "" (ts.map fun t => (" " : Str) ++ t.ptx) = ntx "table" ts := tbl_txt "table" ts
                have wl := wts_len ts
                rw [tb] at q ltx
                refine ⟨c, rfl, ⟨_, SqT.mk hc⟩, for_tup (xs := [V.ref a2]) (fun i σ E => ∃ y2, σ = [some (.ref a), some (.str (if i = 0 then "table" else ntx "table" ts)), y2, none] ∧ Same G E) ⟨none, rfl, Same.refl G⟩ ?_ ?_ ?_⟩
                · rintro i σ E _ ⟨_, _, sE⟩
                  exact SqT.mk (sE _ _ hc)
                · rintro i v' σ E hv' ⟨y2, rfl, sE⟩
                  obtain ⟨rfl, rfl⟩ : i = 0 ∧ v' = .ref a2 := by
                    match i, hv' with
                    | 0, e => exact ⟨rfl, (Option.some.inj e).symm⟩
                  have sHE := sG.trans sE
                  refine ⟨_, rfl, _, _, _, _, false, rfl, .ty "int", .base (.tup (sHE _ _ ha2)), kit_ty (by decide +kernel), false, rfl, iteF ?_⟩
                  refine ⟨_, rfl, a, _, _, _, rfl, rfl, SqT.mk (sHE _ _ ha), atI_nat (j := 0) rfl, rfl, _, rfl, ?_⟩
                  rw [decide_eq_true rfl]
                  refine iteT ⟨_, rfl, ⟨_, rfl⟩, _, rfl, a2, rfl, ⟨_, SqT.mk (sHE _ _ ha2)⟩, fun C nC => ?_⟩
                  refine lc_it (walk_tup (xs := ys)) (fun k F => Same E F ∧ F C = some (.lst ((ts.take k).map fun t => V.str ((" " : Str) ++ t.ptx)))) ⟨same_upd nC, upd_same⟩ (fun k F _ h => SqT.mk (h.1 _ _ (sHE _ _ ha2))) (fun k v' F F' hk h y => ?_) (fun F h => ?_)
                  · obtain ⟨sF, hC⟩ := h
                    obtain ⟨rfl, hv1⟩ := y
                    obtain ⟨dd, h1, h2⟩ := hy k v' hv1
                    rw [datas_map, List.getElem?_map] at h1
                    obtain ⟨t, ht, rfl⟩ := Option.map_eq_some_iff.mp h1
                    have tm := List.mem_of_getElem? ht
                    obtain ⟨n, rfl⟩ := tb2.1 tb t tm
                    obtain ⟨o1, _, _⟩ := oks_mem ok2.2 tm
                    have n3 : n < 1000 := by simpa only [Nt.Ok] using o1
                    cases h2 with
                    | int i' =>
                      have l3 : (Str.ofString (toString ((n : Nat) : Int))).length ≤ 3 := digs_len n3
                      refine ⟨rfl, yes_ite ⟨_, rfl, _, rfl, .inr ⟨_, rfl, small_log n3, _, _, rfl, rfl, by rw [tl1]; omega, _, hC, by rw [List.length_map, List.length_take]; omega, same_newer sF nC, ?_⟩⟩⟩
                      rw [upd_same, List.take_add_one, ht, List.map_append]
                      rfl
                  · obtain ⟨sF, hC⟩ := h
                    rw [ly, List.take_length] at hC
                    have ts2 := tbl_sum ok2.2
                    have e : (ts.map fun t => V.str ((" " : Str) ++ t.ptx)) = (ts.map fun t => (" " : Str) ++ t.ptx).map V.str := by rw [List.map_map]; rfl
                    rw [e] at hC
                    have lk : (("table" : Str) ++ Txt.join "" (ts.map fun t => (" " : Str) ++ t.ptx)).length ≤ 1000000 := by
                      rw [tk]
                      have : (Nt.node "table" ts).wt ≤ 1000000 := by rw [← tb]; exact wt
                      omega
                    rw [lap] at lk
                    have z0 : (("" : Str)).length = 0 := by decide +kernel
                    refine ⟨_, C, _, rfl, rfl, .inl (SqL.mk hC), by rw [z0, Nat.mul_zero]; omega, _, _, rfl, rfl, by rw [if_pos rfl]; omega, ?_⟩
                    refine ⟨some (.ref a2), ?_, sE.trans sF⟩
                    rw [if_pos rfl, if_neg (by decide), tk]
                    rfl
                · rintro σ E ⟨y2, rfl, sE⟩
                  rw [if_neg (show ¬ [V.ref a2].length = 0 from by simp)]
                  exact ⟨_, rfl, q E (sG.trans sE)⟩
      · rw [if_neg tb] at hv
        cases hv with
        | tup n ha t =>
          rename_i a xs
          cases t with
          | cons t1 t =>
            cases t1
            rename_i ys
            refine ⟨_, rfl, a, _, _, _, rfl, rfl, SqT.mk ha, atI_nat (j := 0) rfl, ?_⟩
            refine ⟨_, rfl, 1, rfl, a, _, rfl, ha, fun G c sG hc => ?_⟩
            rw [show cutV (V.str wd :: ys) (some 1) none = ys from cut_hi (V.str wd :: ys) 1] at hc
            obtain ⟨ly, hy⟩ := TgA.getD t
            rw [datas_map, List.length_map] at ly
            refine ⟨c, rfl, ⟨_, SqT.mk hc⟩, for_tup (xs := ys) (fun i σ E => ∃ y2, σ = [some (.ref a), some (.str (Txt.join " " (wd :: (Nt.ptxs ts).take i))), y2, none] ∧ Same G E) ⟨none, rfl, Same.refl G⟩ ?_ ?_ ?_⟩
            · rintro i σ E _ ⟨_, _, sE⟩
              exact SqT.mk (sE _ _ hc)
            · rintro i v' σ E hv' ⟨y2, rfl, sE⟩
              obtain ⟨dd, h1, h2⟩ := hy i v' hv'
              rw [datas_map, List.getElem?_map] at h1
              obtain ⟨t, ht, rfl⟩ := Option.map_eq_some_iff.mp h1
              have tm := List.mem_of_getElem? ht
              obtain ⟨o1, o2, o3⟩ := oks_mem ok2.2 tm
              have o4 := tbs_mem tb2.2 tm
              have sHE := sG.trans sE
              have ai := al i
              have aj := al (i + 1)
              have e : (Nt.ptxs ts)[i]? = some t.ptx := by rw [ptxs_map, List.getElem?_map, ht]; rfl
              have ej : Txt.join " " (wd :: (Nt.ptxs ts).take (i + 1)) = Txt.join " " (wd :: (Nt.ptxs ts).take i) ++ " " ++ t.ptx := by
                rw [List.take_add_one, e]
                exact join_snoc (xs := wd :: (Nt.ptxs ts).take i) (by simp)
              have lp := ptx_len o1
              cases t with
              | num n =>
                cases h2 with
                | int i' =>
                  have n3 : n < 1000 := by simpa only [Nt.Ok] using o1
                  refine ⟨_, rfl, _, _, _, _, true, rfl, .ty "int", .base (.int _), kit_ty (by decide +kernel), true, rfl, iteT ?_⟩
                  refine ⟨_, rfl, _, _, rfl, rfl, by rw [tl1]; omega, _, rfl, _, rfl, .inr ⟨_, rfl, small_log n3, _, _, rfl, rfl, ?_, ?_⟩⟩
                  · have : (Str.ofString (toString ((n : Nat) : Int))).length ≤ 3 := digs_len n3
                    rw [lap, tl1]
                    omega
                  · exact ⟨_, by rw [ej]; rfl, sE⟩
              | node w' ts' =>
                obtain ⟨a', xs', rfl, ha'⟩ : ∃ a' xs', v' = .ref a' ∧ H a' = some (.tup xs') := by
                  have e : (Nt.node w' ts').data = if w' = "table" then PyData.tuple [.str "table", .tuple (Nt.datas ts')] else .tuple (.str w' :: Nt.datas ts') := rfl
                  rw [e] at h2
                  split at h2
                  · cases h2 with
                    | tup n e t => exact ⟨_, _, rfl, e⟩
                  · cases h2 with
                    | tup n e t => exact ⟨_, _, rfl, e⟩
                refine ⟨_, rfl, _, _, _, _, false, rfl, .ty "int", .base (.tup (sHE _ _ ha')), kit_ty (by decide +kernel), false, rfl, iteF ?_⟩
                refine ⟨_, rfl, a, _, _, _, rfl, rfl, SqT.mk (sHE _ _ ha), atI_nat (j := 0) rfl, rfl, _, rfl, ?_⟩
                rw [decide_eq_false (fun z => tb (V.str.inj z))]
                refine iteF ⟨_, rfl, _, _, rfl, rfl, by rw [tl2]; omega, ?_⟩
                have ln := ntx_len o1
                refine ⟨_, rfl, _, p, w', ts', rfl, h2.same sHE, o1, by omega, by omega, o4, fun H' s' => ⟨_, _, rfl, rfl, by rw [lap, tl2]; omega, _, _, rfl, rfl, by rw [lap, lap, tl2, tl3]; omega, ?_⟩⟩
                refine ⟨some (.ref a'), ?_, sE.trans s'⟩
                have ex : Txt.join " " (wd :: (Nt.ptxs ts).take i) ++ " (" ++ ntx w' ts' ++ ")" = Txt.join " " (wd :: (Nt.ptxs ts).take (i + 1)) := by
                  rw [ej]
                  refine TL.ext_tl ?_
                  have ep : (Nt.node w' ts').ptx = ("(" : Str) ++ ntx w' ts' ++ (")" : Str) := rfl
                  rw [ep, TL.tl_append, TL.tl_append, TL.tl_append, TL.tl_append, TL.tl_append, TL.tl_append, TL.tl_append, List.append_assoc, List.append_assoc, List.append_assoc, List.append_assoc]
                  rfl
                rw [← ex]
                rfl
            · rintro σ E ⟨y2, rfl, sE⟩
              rw [ly]
              refine ⟨_, rfl, ?_⟩
              have := q E (sG.trans sE)
              have e : (Nt.ptxs ts).take ts.length = Nt.ptxs ts := List.take_of_length_le (by rw [ptxs_map, List.length_map]; exact Nat.le_refl _)
              rw [e]
              exact this
def sp__law_written (K : PySem.W.Frag) : Sp := spr__law_written 9 K
theorem ok__law_written (T : Defs K mg) (TT : Tabs T base) : FnOk P w K mg base CX0 10 T.f__law_written T.fd__law_written ["_law_thing"] (sp__law_written K) := okr__law_written T TT 9
theorem tw_stop {p : Nat → Bool} {l : List Nat} {n e : Nat} (h1 : n ≤ e) (h2 : e ≤ l.length) (all : ∀ i c, n ≤ i → i < e → l[i]? = some c → p c = true) (stop : ∀ c, l[e]? = some c → p c = false) : (l.drop n).takeWhile p = (l.drop n).take (e - n) ∧ (l.drop n).dropWhile p = l.drop e ∧ ((l.drop n).takeWhile p).length = e - n := by
  have e1 : l.drop n = (l.drop n).take (e - n) ++ l.drop e := by
    have := List.take_append_drop (e - n) (l.drop n)
    rw [List.drop_drop] at this
    rw [show n + (e - n) = e by omega] at this
    exact this.symm
  have hl : ((l.drop n).take (e - n)).length = e - n := by
    rw [List.length_take, List.length_drop]
    omega
  obtain ⟨a, b⟩ := tw_all (p := p) (l := (l.drop n).take (e - n)) (e := l.drop e) (fun c hc => by
    obtain ⟨i, hi⟩ := List.getElem?_of_mem hc
    have il := (List.getElem?_eq_some_iff.mp hi).1
    rw [hl] at il
    rw [List.getElem?_take_of_lt il, List.getElem?_drop] at hi
    exact all (n + i) c (by omega) (by omega) hi) (fun c hc => by
    rw [List.head?_drop] at hc
    exact stop c hc)
  rw [← e1] at a b
  exact ⟨a, b, by rw [a, hl]⟩
theorem tl_cutS (z : Str) {n e : Nat} (h1 : n ≤ e) (h2 : e ≤ z.length) : TL.tl (cutS z (some (n : Int)) (some (e : Int))) = ((TL.tl z).drop n).take (e - n) := by
  show ((z.cps.toList.drop (HT.sIx z.length 0 (some (n : Int)))).take (HT.sIx z.length z.length (some (e : Int)) - HT.sIx z.length 0 (some (n : Int)))) = _
  rw [HT.sIx_nat, HT.sIx_nat, Nat.min_eq_left h2, Nat.min_eq_left (by omega)]
theorem abc_is (c : Nat) : decide (c ∈ ("abcdefghijklmnopqrstuvwxyz" : Str).cps.toList) = isLb c := by
  have e : ("abcdefghijklmnopqrstuvwxyz" : Str).cps.toList = List.range' 97 26 := by decide +kernel
  rw [e]
  refine decide_eq_decide.mpr ?_
  rw [List.mem_range'_1]
  omega
theorem fig_is (c : Nat) : decide (c ∈ ("0123456789" : Str).cps.toList) = isFb c := by
  have e : ("0123456789" : Str).cps.toList = List.range' 48 10 := by decide +kernel
  rw [e]
  refine decide_eq_decide.mpr ?_
  rw [List.mem_range'_1]
  omega
theorem at_str {z : Str} {n : Nat} {c : Nat} (h : (TL.tl z)[n]? = some c) : atI z.cps.toList (n : Int) = some c := atI_nat h
def sp__law_word_at (_ : PySem.W.Frag) : Sp := fun vs H Q _ => ∃ (z : Str) (n : Nat), vs = [.str z, .int (n : Nat)] ∧ n ≤ z.length ∧ z.length ≤ 200000 ∧ ∀ H' t, Same H H' → H' t = some (.tup [.str (strL (((TL.tl z).drop n).takeWhile isLb)), .int ((n + (((TL.tl z).drop n).takeWhile isLb).length : Nat) : Int)]) → Q (.ref t) H'
theorem ok__law_word_at (T : Defs K mg) (TT : Tabs T base) : FnOk P w K mg base CX0 1 T.f__law_word_at T.fd__law_word_at ["_law_text", "_law_at"] (sp__law_word_at K) := by
  refine T.F__law_word_at.ok sc__law_word_at (fun vs H Q E h => ?_) (fun cdv A outer s H vs Q E hr h => ?_)
  · obtain ⟨z, n, rfl, hn, hz, q⟩ := h
    rfl
  · obtain ⟨z, n, rfl, hn, hz, q⟩ := h
    refine ⟨_, PSs.nox (pss_cons (ps_set (i := 2) sc__law_word_at.nd rfl (.inl rfl) (pv 1))
    (pss_cons (ps_while PassesOwn.never (PW.pt (pw_and (pt_cmpR op_lt (pv 2) (pe_callB call_len_str (by rfl) T.m_len bt_len (pa_cons (pv 0) pa_nil)) (nomark _)) (pw_and1 (pt_cmpR L2.op_inS (pe_ix ix_str (pv 0) (pv 2) (fun _ _ => rfl)) pe_str rfl)))) (pss_one (ps_set (i := 2) sc__law_word_at.nd rfl (.inl rfl) (pe_op op_add (pv 2) pe_int))))
    (pss_one (ps_ret (pe_tup (pa_cons (pe_slice sl_str (pv 0) (po_some (pv 1)) (po_some (pv 2))) (pa_cons (pv 2) pa_nil))))))), ?_⟩
    have hsl : sizeLine = 16777216 := by decide
    have tz : (TL.tl z).length = z.length := (TL.len_tl z).symm
    refine ⟨_, rfl, ?_⟩
    refine while_by (fun σ G => G = H ∧ ∃ e : Nat, σ = [some (.str z), some (.int (n : Nat)), some (.int (e : Nat))] ∧ n ≤ e ∧ e ≤ z.length ∧ ∀ i c, n ≤ i → i < e → (TL.tl z)[i]? = some c → isLb c = true) (fun σ _ => match σ with | [_, _, some (.int e)] => z.length - e.toNat | _ => 0) ⟨rfl, n, rfl, Nat.le_refl _, hn, fun i c h1 h2 => absurd h2 (by omega)⟩ ?_ ?_
    · rintro σ G ⟨rfl, e, rfl, h1, h2, all⟩
      have fin : (∀ c, (TL.tl z)[e]? = some c → isLb c = false) → tRet (tTup (tCons (tSl L2.rSlS (tVar 0) (tPart (tVar 1)) (tPart (tVar 2))) (tCons (tVar 2) tNil))) { nx := fun x H' => Q V.non H', rt := Q } [some (.str z), some (.int (n : Nat)), some (.int (e : Nat))] G := fun stop => by
        obtain ⟨a, _, c⟩ := tw_stop h1 (by omega) all stop
        refine ⟨_, rfl, _, rfl, _, rfl, _, rfl, _, rfl, z, rfl, by omega, _, rfl, (show 2 ≤ sizeLine by decide), fun t nt => ?_⟩
        refine q _ t (same_upd nt) ?_
        rw [upd_same, c, show n + (e - n) = e by omega, a]
        have e2 : cutS z (some (n : Int)) (some (e : Int)) = strL (((TL.tl z).drop n).take (e - n)) := TL.ext_tl (tl_cutS z h1 h2)
        rw [e2]
      refine ⟨_, rfl, _, rfl, z, rfl, by omega, _, _, rfl, rfl, _, rfl, ?_⟩
      by_cases c1 : e < z.length
      · rw [decide_eq_true (show ((e : Nat) : Int) < (z.length : Int) by omega)]
        have ec : (TL.tl z)[e]? = some (TL.tl z)[e] := List.getElem?_eq_getElem (by omega)
        generalize (TL.tl z)[e] = c at ec
        refine iteT ⟨_, rfl, _, rfl, z, _, c, rfl, rfl, by omega, at_str ec, c, _, rfl, rfl, _, rfl, ?_⟩
        rw [abc_is]
        cases hc : isLb c with
        | true =>
          refine iteT ⟨_, rfl, _, _, rfl, rfl, ⟨rfl, e + 1, rfl, by omega, by omega, fun i x g1 g2 g3 => ?_⟩, ?_⟩
          · by_cases z1 : i < e
            · exact all i x g1 z1 g3
            · obtain rfl : i = e := by omega
              rw [ec] at g3
              cases g3
              exact hc
          · show z.length - ((e : Int) + 1).toNat < z.length - (e : Int).toNat
            omega
        | false =>
          exact iteF (fin fun x hx => by
            rw [ec] at hx
            cases hx
            exact hc)
      · rw [decide_eq_false (show ¬ ((e : Nat) : Int) < (z.length : Int) by omega)]
        exact iteF (iteF (fin fun x hx => by
          rw [List.getElem?_eq_none (by omega)] at hx
          cases hx))
    · rintro σ H1 Q1 Q2 hQ ⟨v, hv, u, hu, z', hz', hl, i, j, hi, hj, b, hb, h⟩
      refine ⟨v, hv, u, hu, z', hz', hl, i, j, hi, hj, b, hb, ?_⟩
      cases b with
      | true =>
        obtain ⟨v0, h0, v2, h2, za, ia, ca, e1, e2, e3, e4, cb, zb, f1, f2, bb, fb, hq⟩ := h
        exact ⟨v0, h0, v2, h2, za, ia, ca, e1, e2, e3, e4, cb, zb, f1, f2, bb, fb, hQ _ _ hq⟩
      | false => exact hQ _ _ h
def sp__law_number_at (_ : PySem.W.Frag) : Sp := fun vs H Q _ => ∃ (z : Str) (n : Nat), vs = [.str z, .int (n : Nat)] ∧ n < z.length ∧ z.length ≤ 200000 ∧ (TL.tl z)[n]? = some 32 ∧ (∀ k e, numAt ((TL.tl z).drop (n + 1)) = some (k, e) → ∀ H' t m, Same H H' → m ≤ z.length → n < m → (TL.tl z).drop m = e → H' t = some (.tup [.int (k : Nat), .int (m : Nat)]) → Q (.ref t) H') ∧ (numAt ((TL.tl z).drop (n + 1)) = none → ∀ H', Same H H' → Q .non H')
theorem ok__law_number_at (T : Defs K mg) (TT : Tabs T base) : FnOk P w K mg base CX0 1 T.f__law_number_at T.fd__law_number_at ["_law_text", "_law_at"] (sp__law_number_at K) := by
  refine T.F__law_number_at.ok sc__law_number_at (fun vs H Q E h => ?_) (fun cdv A outer s H vs Q E hr h => ?_)
  · obtain ⟨z, n, rfl, hn, hz, h32, q1, q0⟩ := h
    rfl
  · obtain ⟨z, n, rfl, hn, hz, h32, q1, q0⟩ := h
    refine ⟨_, PSs.nox (pss_cons (ps_set (i := 2) sc__law_number_at.nd rfl (.inl rfl) (pe_op op_add (pv 1) pe_int))
    (pss_cons (ps_while PassesOwn.never (PW.pt (pw_and (pt_cmpR op_lt (pv 2) (pe_callB call_len_str (by rfl) T.m_len bt_len (pa_cons (pv 0) pa_nil)) (nomark _)) (pw_and1 (pt_cmpR L2.op_inS (pe_ix ix_str (pv 0) (pv 2) (fun _ _ => rfl)) pe_str rfl)))) (pss_one (ps_set (i := 2) sc__law_number_at.nd rfl (.inl rfl) (pe_op op_add (pv 2) pe_int))))
    (pss_cons (ps_set (i := 3) sc__law_number_at.nd rfl (.inl rfl) (pe_slice sl_str (pv 0) (po_some (pe_op op_add (pv 1) pe_int)) (po_some (pv 2))))
    (pss_cons (ps_if (PW.pt (pw_or (pt_cmpR op_ne (pe_slice sl_str (pv 0) (po_some (pv 1)) (po_some (pe_op op_add (pv 1) pe_int))) pe_str (nomark _)) (pw_or (pt_cmpR op_eq (pv 3) pe_str (nomark _)) (pw_or (PW.pt (pw_and (pt_cmpR op_gt (pe_callB call_len_str (by rfl) T.m_len bt_len (pa_cons (pv 3) pa_nil)) pe_int (nomark _)) (pw_and1 (pt_cmpR op_eq (pe_ix ix_str (pv 3) pe_int (fun _ _ => rfl)) pe_str (nomark _))))) (pw_or1 (pt_cmpR op_gt (pe_callB call_len_str (by rfl) T.m_len bt_len (pa_cons (pv 3) pa_nil)) pe_int (nomark _))))))) (pss_one (ps_ret pe_non)) pss_nil)
    (pss_one (ps_ret (pe_tup (pa_cons (pe_callTy call_int_str (by rfl) T.m_int bt_int (pa_cons (pv 3) pa_nil)) (pa_cons (pv 2) pa_nil))))))))), ?_⟩
    have hsl : sizeLine = 16777216 := by decide
    have tz : (TL.tl z).length = z.length := (TL.len_tl z).symm
    refine ⟨_, rfl, _, _, rfl, rfl, ?_⟩
    refine nx_via (σ := [some (.str z), some (.int (n : Nat)), some (.int ((n : Int) + 1)), none]) (fun σ G => G = H ∧ ∃ e : Nat, σ = [some (.str z), some (.int (n : Nat)), some (.int (e : Nat)), none] ∧ n + 1 ≤ e ∧ e ≤ z.length ∧ (∀ i c, n + 1 ≤ i → i < e → (TL.tl z)[i]? = some c → isFb c = true) ∧ (∀ c, (TL.tl z)[e]? = some c → isFb c = false)) (fun N' hN' => ?_) ?_
    · refine while_by (fun σ G => G = H ∧ ∃ e : Nat, σ = [some (.str z), some (.int (n : Nat)), some (.int (e : Nat)), none] ∧ n + 1 ≤ e ∧ e ≤ z.length ∧ ∀ i c, n + 1 ≤ i → i < e → (TL.tl z)[i]? = some c → isFb c = true) (fun σ _ => match σ with | [_, _, some (.int e), _] => z.length - e.toNat | _ => 0) ⟨rfl, n + 1, rfl, Nat.le_refl _, hn, fun i c h1 h2 => absurd h2 (by omega)⟩ ?_ ?_
      · rintro σ G ⟨rfl, e, rfl, h1, h2, all⟩
        refine ⟨_, rfl, _, rfl, z, rfl, by omega, _, _, rfl, rfl, _, rfl, ?_⟩
        by_cases c1 : e < z.length
        · rw [decide_eq_true (show ((e : Nat) : Int) < (z.length : Int) by omega)]
          have ec : (TL.tl z)[e]? = some (TL.tl z)[e] := List.getElem?_eq_getElem (by omega)
          generalize (TL.tl z)[e] = c at ec
          refine iteT ⟨_, rfl, _, rfl, z, _, c, rfl, rfl, by omega, at_str ec, c, _, rfl, rfl, _, rfl, ?_⟩
          rw [fig_is]
          cases hc : isFb c with
          | true =>
            refine iteT ⟨_, rfl, _, _, rfl, rfl, ⟨rfl, e + 1, rfl, by omega, by omega, fun i x g1 g2 g3 => ?_⟩, ?_⟩
            · by_cases z1 : i < e
              · exact all i x g1 z1 g3
              · obtain rfl : i = e := by omega
                rw [ec] at g3
                cases g3
                exact hc
            · show z.length - ((e : Int) + 1).toNat < z.length - (e : Int).toNat
              omega
          | false =>
            exact iteF (hN' _ _ ⟨rfl, e, rfl, h1, h2, all, fun x hx => by
              rw [ec] at hx
              cases hx
              exact hc⟩)
        · rw [decide_eq_false (show ¬ ((e : Nat) : Int) < (z.length : Int) by omega)]
          exact iteF (iteF (hN' _ _ ⟨rfl, e, rfl, h1, h2, all, fun x hx => by
            rw [List.getElem?_eq_none (by omega)] at hx
            cases hx⟩))
      · rintro σ H1 Q1 Q2 hQ ⟨v, hv, u, hu, z', hz', hl, i, j, hi, hj, b, hb, h⟩
        refine ⟨v, hv, u, hu, z', hz', hl, i, j, hi, hj, b, hb, ?_⟩
        cases b with
        | true =>
          obtain ⟨v0, h0, v2, h2, za, ia, ca, e1, e2, e3, e4, cb, zb, f1, f2, bb, fb, hq⟩ := h
          exact ⟨v0, h0, v2, h2, za, ia, ca, e1, e2, e3, e4, cb, zb, f1, f2, bb, fb, hQ _ _ hq⟩
        | false => exact hQ _ _ h
    rintro σ G ⟨rfl, e, rfl, h1, h2, all, stop⟩
    obtain ⟨ta, tb, tc⟩ := tw_stop h1 (by omega) all stop
    have ef : cutS z (some ((n : Int) + 1)) (some (e : Int)) = strL (((TL.tl z).drop (n + 1)).takeWhile isFb) := TL.ext_tl (by
      rw [show ((n : Int) + 1) = ((n + 1 : Nat) : Int) by omega, tl_cutS z h1 h2, tl_strL, ta])
    have eb : cutS z (some (n : Int)) (some ((n : Int) + 1)) = " " := TL.ext_tl (by
      rw [show ((n : Int) + 1) = ((n + 1 : Nat) : Int) by omega, tl_cutS z (by omega) (by omega)]
      have il : n < (TL.tl z).length := by omega
      rw [List.drop_eq_getElem_cons il, show n + 1 - n = 1 by omega]
      rw [List.getElem?_eq_getElem il] at h32
      rw [Option.some.inj h32]
      rfl)
    refine ⟨_, rfl, _, rfl, _, _, rfl, rfl, _, rfl, _, rfl, _, rfl, z, rfl, by omega, ?_⟩
    rw [ef]
    have fig : ∀ c, c ∈ ((TL.tl z).drop (n + 1)).takeWhile isFb → 48 ≤ c ∧ c ≤ 57 := fun c hc => of_decide_eq_true (tw_mem (p := isFb) c hc)
    have ne1 : numAt ((TL.tl z).drop (n + 1)) = _ := rfl
    unfold numAt at ne1
    unfold numAt at q1 q0
    rw [tb] at q1
    generalize ((TL.tl z).drop (n + 1)).takeWhile isFb = f at q1 q0 fig tc ⊢
    clear ne1 ef ta tb
    have lf : (strL f).length = f.length := TL.len_tl _
    refine ⟨_, rfl, _, rfl, _, rfl, _, rfl, _, _, rfl, rfl, _, rfl, z, rfl, by omega, ?_⟩
    rw [eb]
    refine ⟨rfl, _, rfl, ?_⟩
    rw [decide_eq_true rfl]
    refine iteF ⟨_, rfl, rfl, _, rfl, ?_⟩
    have none_ : (f = [] ∨ (1 < f.length ∧ f.head? = some 48) ∨ 3 < f.length) → Q .non G := fun c => q0 (if_pos c) G (Same.refl G)
    by_cases f0 : f = []
    · rw [decide_eq_true (show V.str (strL f) = V.str "" from congrArg V.str (TL.ext_tl (by rw [tl_strL, f0]; rfl)))]
      exact iteT (iteT (none_ (.inl f0)))
    rw [decide_eq_false (show ¬ V.str (strL f) = V.str "" from fun z => f0 (congrArg TL.tl (V.str.inj z)))]
    refine iteF ⟨_, rfl, _, rfl, by rw [lf]; omega, _, _, rfl, rfl, _, rfl, ?_⟩
    rw [lf]
    have rest : ¬ (1 < f.length ∧ f.head? = some 48) → tIfS (tTest (tOp (rI0 fun i j => V.bl (decide (j < i))) (tCB (fun xs H Q => ∃ z, xs = [V.str z] ∧ z.length ≤ sizeLine ∧ Q (V.int z.length) H) (tCons (tVar 3) tNil)) (tC (V.int 3)))) (tRet (tC .non)) tNext { nx := tRet (tTup (tCons (tCB (fun xs H Q => ∃ a n, xs = [V.str a] ∧ intText? a = some n ∧ a.length ≤ 640 ∧ Q (V.int n) H) (tCons (tVar 3) tNil)) (tCons (tVar 2) tNil))) { nx := fun x H' => Q V.non H', rt := Q }, rt := Q } [some (.str z), some (.int (n : Nat)), some (.int (e : Nat)), some (.str (strL f))] G := fun nz => by
      refine ⟨_, rfl, _, rfl, by rw [lf]; omega, _, _, rfl, rfl, _, rfl, ?_⟩
      rw [lf]
      by_cases f3 : 3 < f.length
      · rw [decide_eq_true (show (3 : Int) < (f.length : Nat) by omega)]
        exact iteT (none_ (.inr (.inr f3)))
      · rw [decide_eq_false (show ¬ (3 : Int) < (f.length : Nat) by omega)]
        have ei := intText_digits (x := strL f) (fun x hx => fig x hx) f0 (by rw [lf]; omega)
        refine iteF ⟨_, rfl, _, _, rfl, ei, by rw [lf]; omega, _, rfl, (show 2 ≤ sizeLine by decide), fun t nt => ?_⟩
        refine q1 _ _ (if_neg fun c => ?_) _ t e (same_upd nt) h2 (by omega) rfl upd_same
        rcases c with c | c | c
        · exact f0 c
        · exact nz c
        · exact f3 c
    by_cases c1 : 1 < f.length
    · rw [decide_eq_true (show (1 : Int) < (f.length : Nat) by omega)]
      obtain ⟨c, r, rfl⟩ : ∃ c r, f = c :: r := by
        cases f with
        | nil => exact absurd rfl f0
        | cons c r => exact ⟨c, r, rfl⟩
      refine iteT ⟨_, rfl, strL (c :: r), 0, c, rfl, rfl, by rw [lf]; omega, at_str (z := strL (c :: r)) (n := 0) rfl, rfl, _, rfl, ?_⟩
      by_cases c2 : c = 48
      · subst c2
        rw [decide_eq_true (show V.str (⟨#[48]⟩ : Str) = V.str "0" by decide +kernel)]
        exact iteT (iteT (none_ (.inr (.inl ⟨c1, rfl⟩))))
      · rw [decide_eq_false (show ¬ V.str (⟨#[c]⟩ : Str) = V.str "0" from fun z => c2 (List.cons.inj (congrArg TL.tl (V.str.inj z))).1)]
        exact iteF (rest fun z => c2 (Option.some.inj z.2))
    · rw [decide_eq_false (show ¬ (1 : Int) < (f.length : Nat) by omega)]
      exact iteF (iteF (rest fun z => c1 z.1))
theorem inV_str {z : Str} : ∀ ws : List Str, inV (.str z) (ws.map V.str) = decide (z ∈ ws)
  | [] => rfl
  | y :: ws => by
    show (eqV (.str y) (.str z) || inV (.str z) (ws.map V.str)) = _
    rw [inV_str ws]
    have e : eqV (.str y) (.str z) = decide (z = y) := by
      show (y == z) = _
      by_cases h : z = y
      · rw [decide_eq_true h, h]
        exact beq_self_eq_true y
      · rw [decide_eq_false h]
        exact beq_false_of_ne fun e => h e.symm
    rw [e]
    by_cases h : z = y
    · rw [decide_eq_true h, decide_eq_true (show z ∈ y :: ws from h ▸ List.mem_cons_self), Bool.true_or]
    · rw [decide_eq_false h, Bool.false_or]
      exact decide_eq_decide.mpr ⟨fun m => List.mem_cons_of_mem _ m, fun m => (List.mem_cons.mp m).elim (fun e => absurd e h) id⟩
theorem ndatas_snoc (ts : List Nt) (t : Nt) : Nt.datas (ts ++ [t]) = Nt.datas ts ++ [t.data] := by
  rw [datas_map, datas_map, List.map_append]
  rfl
theorem flat_strs : ∀ ws : List Str, (ws.map V.str).all flatV = true
  | [] => rfl
  | _ :: ws => by
    show (true && (ws.map V.str).all flatV) = true
    rw [flat_strs ws]
    rfl
theorem items_end {rec : List Nat → Option (Nt × List Nat)} {br : Bool} {r : List Nat} (h : r.head? ≠ some 32) : ∀ k, itemsAt rec br k r = some ([], r)
  | 0 => rfl
  | k + 1 => by
    unfold itemsAt
    rw [if_neg h]
theorem items_no {rec : List Nat → Option (Nt × List Nat)} {br : Bool} {r : List Nat} {k : Nat} (h : r.head? = some 32) (hk : r.length ≤ k) (n : itAt rec br r.tail = none) : itemsAt rec br k r = none := by
  cases k with
  | zero =>
    cases r with
    | nil => cases h
    | cons _ _ => cases hk
  | succ k =>
    unfold itemsAt
    rw [if_pos h, n]
    rfl
theorem items_step {rec : List Nat → Option (Nt × List Nat)} {br : Bool} {r r3 : List Nat} {t : Nt} {k : Nat} (h : r.head? = some 32) (hk : r.length ≤ k) (n : itAt rec br r.tail = some (t, r3)) : 1 ≤ k ∧ itemsAt rec br k r = (itemsAt rec br (k - 1) r3).map fun q => (t :: q.1, q.2) := by
  cases k with
  | zero =>
    cases r with
    | nil => cases h
    | cons _ _ => cases hk
  | succ k =>
    refine ⟨by omega, ?_⟩
    rw [Nat.add_sub_cancel]
    show itemsAt rec br (k + 1) r = _
    rw [itemsAt, if_pos h, n]
    rfl
theorem tl_cut1 (z : Str) {p : Nat} (h : p ≤ z.length) : cutS z (some (p : Int)) (some ((p : Int) + 1)) = strL (((TL.tl z).drop p).take 1) := TL.ext_tl (by
  rw [show ((p : Int) + 1) = ((p + 1 : Nat) : Int) by omega]
  by_cases c : p + 1 ≤ z.length
  · rw [tl_cutS z (by omega) c, show p + 1 - p = 1 by omega, tl_strL]
  · show ((z.cps.toList.drop (HT.sIx z.length 0 (some (p : Int)))).take (HT.sIx z.length z.length (some ((p + 1 : Nat) : Int)) - HT.sIx z.length 0 (some (p : Int)))) = _
    have tz : (TL.tl z).length = z.length := (TL.len_tl z).symm
    rw [HT.sIx_nat, HT.sIx_nat, tl_strL, Nat.min_eq_right (by omega), Nat.min_eq_left (by omega), List.drop_of_length_le (show z.cps.toList.length ≤ p by show (TL.tl z).length ≤ p; omega), List.take_nil, List.take_nil])
theorem one_is {l : List Nat} {c : Nat} {x : Str} (hx : TL.tl x = [c]) : strL (l.take 1) = x ↔ l.head? = some c := by
  constructor
  · intro h
    have h := congrArg TL.tl h
    rw [tl_strL, hx] at h
    cases l with
    | nil => cases h
    | cons y r => exact congrArg some (List.cons.inj h).1
  · intro h
    cases l with
    | nil => cases h
    | cons y r =>
      injection h with h
      subst h
      exact TL.ext_tl (by rw [tl_strL, hx]; rfl)
def recAt (ws : List Str) (D : Nat) : List Nat → Option (Nt × List Nat) := match D with
  | 0 => fun _ => none
  | D + 1 => thingAt ws D
theorem thingAt_eq (ws : List Str) (D : Nat) (r : List Nat) : thingAt ws D r = thing1 (recAt ws D) ws r := by cases D <;> rfl
def spr__law_thing_at (D : Nat) (_ : PySem.W.Frag) : Sp := fun vs H Q _ => ∃ (z : Str) (n a deep : Nat) (ws : List Str) (p0 : Addr → Prop), vs = [.str z, .int (n : Nat), .ref a, .int (deep : Nat)] ∧ n ≤ z.length ∧ z.length ≤ 200000 ∧ H a = some (.tup (ws.map V.str)) ∧ deep ≤ 12 ∧ 12 - deep < D ∧ (∀ b, p0 b → H b ≠ none) ∧
  (∀ t e, thingAt ws (12 - deep) ((TL.tl z).drop n) = some (t, e) → ∀ H' u v m, Same H H' → H' u = some (.tup [v, .int (m : Nat)]) → Tg p0 H' v t.data → m ≤ z.length → (TL.tl z).drop m = e → Q (.ref u) H') ∧
  (thingAt ws (12 - deep) ((TL.tl z).drop n) = none → ∀ H', Same H H' → Q .non H')
theorem no__law_thing_at {K : PySem.W.Frag} {vs : List V} {H : Hp} {Q : VK} {E : XK} (h : spr__law_thing_at 0 K vs H Q E) : False := by
  obtain ⟨z, n, a, deep, ws, p0, _, _, _, _, _, h, _⟩ := h
  omega
theorem okr__law_thing_at (T : Defs K mg) (TT : Tabs T base) : ∀ d : Nat, FnOk P w K mg base CX0 (10 + d) T.f__law_thing_at T.fd__law_thing_at ["_law_text", "_law_at", "_law_words", "_law_deep"] (spr__law_thing_at d K)
  | 0 => ⟨fun _ _ _ _ z => (no__law_thing_at z).elim, fun _ _ _ _ _ _ _ _ _ _ _ _ _ z => (no__law_thing_at z).elim⟩
  | d + 1 => by
    have G__law_word_at : FnOk P w K mg base CX0 1 T.f__law_word_at T.fd__law_word_at ["_law_text", "_law_at"] (sp__law_word_at K) := ok__law_word_at T TT
    have G__law_number_at : FnOk P w K mg base CX0 1 T.f__law_number_at T.fd__law_number_at ["_law_text", "_law_at"] (sp__law_number_at K) := ok__law_number_at T TT
    have G__law_thing_at : FnOk P w K mg base CX0 (10 + d) T.f__law_thing_at T.fd__law_thing_at ["_law_text", "_law_at", "_law_words", "_law_deep"] (spr__law_thing_at d K) := okr__law_thing_at T TT d
    show FnOk P w K mg base CX0 ((10 + d) + 1) T.f__law_thing_at T.fd__law_thing_at ["_law_text", "_law_at", "_law_words", "_law_deep"] (spr__law_thing_at (d + 1) K)
    refine T.F__law_thing_at.ok sc__law_thing_at (fun vs H Q E h => ?_) (fun cdv A outer s H vs Q E hr h => ?_)
    · obtain ⟨z, n, a, deep, ws, p0, rfl, hn, hz, ha, h12, hd, hp0, q1, q0⟩ := h
      rfl
    · obtain ⟨z, n, a, deep, ws, p0, rfl, hn, hz, ha, h12, hd, hp0, q1, q0⟩ := h
      refine ⟨_, PSs.nox (pss_cons (ps_asg (pe_call G__law_word_at (hr.mono (by omega)) (by rfl) T.g__law_word_at T.F__law_word_at.kp T.b__law_word_at .nil pass0 (pa_cons (pv 0) (pa_cons (pv 1) pa_nil))) (pg_tup rfl (pgs_cons (pg_name (i := 4) sc__law_thing_at.nd rfl (.inl rfl)) (pgs_cons (pg_name (i := 1) sc__law_thing_at.nd rfl (.inl rfl)) pgs_nil))))
    (pss_cons (ps_set (i := 5) sc__law_thing_at.nd rfl (.inl rfl) (pe_lst (pa_cons (pv 4) pa_nil)))
    (pss_cons (ps_while PassesOwn.never (PW.pt (pw_and (pt_cmpR op_lt (pv 1) (pe_callB call_len_str (by rfl) T.m_len bt_len (pa_cons (pv 0) pa_nil)) (nomark _)) (pw_and1 (pt_cmpR op_eq (pe_ix ix_str (pv 0) (pv 1) (fun _ _ => rfl)) pe_str (nomark _))))) (pss_one (ps_if (pt_cmpR op_eq (pe_slice sl_str (pv 0) (po_some (pe_op op_add (pv 1) pe_int)) (po_some (pe_op op_add (pv 1) pe_int))) pe_str (nomark _)) (pss_cons (ps_set (i := 6) sc__law_thing_at.nd rfl (.inl rfl) (pe_ifExp (PW.pt (pw_and (pt_cmpR op_in_seq (pv 4) (pv 2) rfl) (pw_and1 (pt_cmpR op_lt (pv 3) pe_int (nomark _))))) (pe_call G__law_thing_at (hr.mono (by omega)) (by rfl) T.g__law_thing_at T.F__law_thing_at.kp T.b__law_thing_at .nil pass0 (pa_cons (pv 0) (pa_cons (pe_op op_add (pv 1) pe_int) (pa_cons (pv 2) (pa_cons (pe_op op_add (pv 3) pe_int) pa_nil))))) pe_non))
    (pss_cons (ps_if (PW.pt (pw_or (pt_cmpR op_isN (pv 6) pe_non (nomark _)) (pw_or1 (pt_cmpR op_ne (pe_slice sl_str (pv 0) (po_some (pe_ix ix_tup (pv 6) pe_int (fun _ _ => rfl))) (po_some (pe_op op_add (pe_ix ix_tup (pv 6) pe_int (fun _ _ => rfl)) pe_int))) pe_str (nomark _))))) (pss_one (ps_ret pe_non)) pss_nil)
    (pss_cons (ps_expr (pe_bm PySem.F.plainAttrs_list PySem.F.slot_list_append PySem.F.type_list_append mt_append (pv 5) (pa_cons (pe_ix ix_tup (pv 6) pe_int (fun _ _ => rfl)) pa_nil)))
    (pss_one (ps_set (i := 1) sc__law_thing_at.nd rfl (.inl rfl) (pe_op op_add (pe_ix ix_tup (pv 6) pe_int (fun _ _ => rfl)) pe_int)))))) (pss_cons (ps_set (i := 7) sc__law_thing_at.nd rfl (.inl rfl) (pe_call G__law_number_at (hr.mono (by omega)) (by rfl) T.g__law_number_at T.F__law_number_at.kp T.b__law_number_at .nil pass0 (pa_cons (pv 0) (pa_cons (pv 1) pa_nil))))
    (pss_cons (ps_if (pt_cmpR op_isN (pv 7) pe_non (nomark _)) (pss_one (ps_ret pe_non)) pss_nil)
    (pss_cons (ps_expr (pe_bm PySem.F.plainAttrs_list PySem.F.slot_list_append PySem.F.type_list_append mt_append (pv 5) (pa_cons (pe_ix ix_tup (pv 7) pe_int (fun _ _ => rfl)) pa_nil)))
    (pss_one (ps_set (i := 1) sc__law_thing_at.nd rfl (.inl rfl) (pe_ix ix_tup (pv 7) pe_int (fun _ _ => rfl))))))))))
    (pss_one (ps_ret (pe_tup (pa_cons (pe_ifExp (pt_cmpR op_eq (pv 4) pe_str (nomark _)) (pe_tup (pa_cons pe_str (pa_cons (pe_callTy call_tuple_of (by rfl) T.m_tuple bt_tuple (pa_cons (pe_slice sl_list (pv 5) (po_some pe_int) po_none) pa_nil)) pa_nil))) (pe_callTy call_tuple_of (by rfl) T.m_tuple bt_tuple (pa_cons (pv 5) pa_nil))) (pa_cons (pv 1) pa_nil)))))))), ?_⟩
      have hsl : sizeLine = 16777216 := by decide
      have tz : (TL.tl z).length = z.length := (TL.len_tl z).symm
      refine ⟨_, rfl, _, rfl, z, n, rfl, hn, hz, fun H1 t1 s1 h1 => ?_⟩
      generalize hw : strL (((TL.tl z).drop n).takeWhile isLb) = w at h1
      have hdw : (TL.tl z).drop (n + (((TL.tl z).drop n).takeWhile isLb).length) = ((TL.tl z).drop n).dropWhile isLb := by
        rw [← List.drop_drop]
        have e := List.takeWhile_append_dropWhile (p := isLb) (l := (TL.tl z).drop n)
        generalize ((TL.tl z).drop n).takeWhile isLb = x, ((TL.tl z).drop n).dropWhile isLb = y at e ⊢
        rw [← e, List.drop_left]
      have hmw : n + (((TL.tl z).drop n).takeWhile isLb).length ≤ z.length := by
        have := (List.takeWhile_sublist (l := (TL.tl z).drop n) isLb).length_le
        rw [List.length_drop] at this
        omega
      generalize hm0 : n + (((TL.tl z).drop n).takeWhile isLb).length = m0 at h1 hdw hmw
      refine ⟨t1, _, rfl, SqT.mk h1, rfl, _, _, rfl, _, _, rfl, rfl, ?_⟩
      refine ⟨_, rfl, (show 1 ≤ sizeLine by decide), fun F nF => ?_⟩
      have nFH : H F = none := s1.free nF
      have aF : ∀ {b : Addr}, p0 b → b ≠ F := fun hb e => hp0 _ hb (e ▸ nFH)
      let p1 : Addr → Prop := fun b => p0 b ∨ b = F
      have eth : thingAt ws (12 - deep) ((TL.tl z).drop n) = (itemsAt (recAt ws (12 - deep)) (decide (w ∈ ws)) ((TL.tl z).drop n).length ((TL.tl z).drop m0)).map fun q => (.node w q.1, q.2) := by
        rw [thingAt_eq, thing1, hw, hdw]
      refine nx_via (σ := [some (.str z), some (.int (m0 : Nat)), some (.ref a), some (.int (deep : Nat)), some (.str w), some (.ref F), none, none]) (fun σ G => ∃ (m : Nat) (ts : List Nt) (vs : List V) (y6 y7 : Option V), σ = [some (.str z), some (.int (m : Nat)), some (.ref a), some (.int (deep : Nat)), some (.str w), some (.ref F), y6, y7] ∧ Same H G ∧ G F = some (.lst (.str w :: vs)) ∧ TgA p1 G vs (Nt.datas ts) ∧ m ≤ z.length ∧ vs.length ≤ 200000 ∧ thingAt ws (12 - deep) ((TL.tl z).drop n) = some (.node w ts, (TL.tl z).drop m)) (fun N' hN' => ?_) ?_
      · refine while_by (fun σ G => ∃ (m : Nat) (ts : List Nt) (vs : List V) (k : Nat) (y6 y7 : Option V), σ = [some (.str z), some (.int (m : Nat)), some (.ref a), some (.int (deep : Nat)), some (.str w), some (.ref F), y6, y7] ∧ Same H G ∧ G F = some (.lst (.str w :: vs)) ∧ TgA p1 G vs (Nt.datas ts) ∧ m ≤ z.length ∧ vs.length ≤ m ∧ z.length - m ≤ k ∧ itemsAt (recAt ws (12 - deep)) (decide (w ∈ ws)) ((TL.tl z).drop n).length ((TL.tl z).drop m0) = (itemsAt (recAt ws (12 - deep)) (decide (w ∈ ws)) k ((TL.tl z).drop m)).map fun q => (ts ++ q.1, q.2)) (fun σ _ => match σ with | [_, some (.int e), _, _, _, _, _, _] => z.length - e.toNat | _ => 0) ⟨m0, [], [], ((TL.tl z).drop n).length, none, none, rfl, same_newer s1 nFH, upd_same, .nil, hmw, Nat.zero_le _, by rw [List.length_drop]; omega, ?_⟩ ?_ ?_
        · cases itemsAt (recAt ws (12 - deep)) (decide (w ∈ ws)) ((TL.tl z).drop n).length ((TL.tl z).drop m0) with
          | none => rfl
          | some q => rfl
        · rintro σ G ⟨m, ts, vs, k, y6, y7, rfl, sG, hF, tv, hm, lv, hk, eit⟩
          have stop : ((TL.tl z).drop m).head? ≠ some 32 → N' [some (.str z), some (.int (m : Nat)), some (.ref a), some (.int (deep : Nat)), some (.str w), some (.ref F), y6, y7] G := fun h => by
            refine hN' _ _ ⟨m, ts, vs, y6, y7, rfl, sG, hF, tv, hm, by omega, ?_⟩
            rw [eth, eit, items_end h]
            show some (Nt.node w (ts ++ []), (TL.tl z).drop m) = _
            rw [List.append_nil]
          refine ⟨_, rfl, _, rfl, z, rfl, by omega, _, _, rfl, rfl, _, rfl, ?_⟩
          by_cases c1 : m < z.length
          rotate_left
          · rw [decide_eq_false (show ¬ ((m : Nat) : Int) < (z.length : Int) by omega)]
            refine iteF (iteF (stop fun h => ?_))
            rw [List.drop_of_length_le (by omega)] at h
            cases h
          rw [decide_eq_true (show ((m : Nat) : Int) < (z.length : Int) by omega)]
          have ec : (TL.tl z)[m]? = some (TL.tl z)[m] := List.getElem?_eq_getElem (by omega)
          generalize (TL.tl z)[m] = c at ec
          refine iteT ⟨_, rfl, _, rfl, z, _, c, rfl, rfl, by omega, at_str ec, rfl, _, rfl, ?_⟩
          by_cases c2 : c = 32
          rotate_left
          · rw [decide_eq_false (show ¬ V.str (⟨#[c]⟩ : Str) = V.str " " from fun z => c2 (List.cons.inj (congrArg TL.tl (V.str.inj z))).1)]
            refine iteF (stop fun h => c2 ?_)
            rw [List.head?_drop, ec] at h
            exact Option.some.inj h
          subst c2
          rw [decide_eq_true (show V.str (⟨#[32]⟩ : Str) = V.str " " by decide +kernel)]
          refine iteT ?_
          have h32 : ((TL.tl z).drop m).head? = some 32 := by rw [List.head?_drop, ec]
          have htl : ((TL.tl z).drop m).tail = (TL.tl z).drop (m + 1) := by rw [List.tail_drop]
          have hlen : ((TL.tl z).drop m).length ≤ k := by
            rw [List.length_drop]
            omega
          have fail : itAt (recAt ws (12 - deep)) (decide (w ∈ ws)) ((TL.tl z).drop (m + 1)) = none → ∀ G', Same H G' → Q .non G' := fun h G' s' => by
            refine q0 ?_ G' s'
            rw [eth, eit, items_no h32 hlen (by rw [htl]; exact h)]
            rfl
          have next : ∀ t r3, itAt (recAt ws (12 - deep)) (decide (w ∈ ws)) ((TL.tl z).drop (m + 1)) = some (t, r3) → 1 ≤ k ∧ itemsAt (recAt ws (12 - deep)) (decide (w ∈ ws)) ((TL.tl z).drop n).length ((TL.tl z).drop m0) = (itemsAt (recAt ws (12 - deep)) (decide (w ∈ ws)) (k - 1) r3).map fun q => ((ts ++ [t]) ++ q.1, q.2) := fun t r3 h => by
            obtain ⟨k1, e⟩ := items_step h32 hlen (by rw [htl]; exact h)
            refine ⟨k1, ?_⟩
            rw [eit, e, Option.map_map]
            congr 1
            funext q
            show (ts ++ t :: q.1, q.2) = _
            rw [List.append_assoc]
            rfl
          refine ⟨_, rfl, _, rfl, _, _, rfl, rfl, _, rfl, _, rfl, _, _, rfl, rfl, _, rfl, z, rfl, by omega, ?_⟩
          rw [show ((m : Int) + 2) = ((m + 1 : Nat) : Int) + 1 by omega, show ((m : Int) + 1) = ((m + 1 : Nat) : Int) by omega, tl_cut1 z (by omega)]
          refine ⟨rfl, _, rfl, ?_⟩
          by_cases c40 : ((TL.tl z).drop (m + 1)).head? = some 40
          · rw [decide_eq_true (show V.str (strL (((TL.tl z).drop (m + 1)).take 1)) = V.str "(" from congrArg V.str ((one_is (by decide +kernel)).mpr c40))]
            have haG := sG _ _ ha
            have m2 : m + 2 ≤ z.length := by
              have : ((TL.tl z).drop (m + 1)).length ≠ 0 := fun e => by
                rw [List.eq_nil_of_length_eq_zero e] at c40
                cases c40
              rw [List.length_drop] at this
              omega
            have eit2 : itAt (recAt ws (12 - deep)) (decide (w ∈ ws)) ((TL.tl z).drop (m + 1)) = if decide (w ∈ ws) = true then brAt (recAt ws (12 - deep)) ((TL.tl z).drop (m + 2)) else none := by
              unfold itAt
              rw [if_pos c40, List.tail_drop]
            rw [eit2] at fail next
            refine iteT (seq_via (fun σ G2 => ∃ v6 : V, σ = [some (.str z), some (.int (m : Nat)), some (.ref a), some (.int (deep : Nat)), some (.str w), some (.ref F), some v6, y7] ∧ Same G G2 ∧ ((v6 = .non ∧ (if decide (w ∈ ws) = true then brAt (recAt ws (12 - deep)) ((TL.tl z).drop (m + 2)) else none) = none) ∨ ∃ t u v mm, v6 = .ref u ∧ G2 u = some (.tup [v, .int (mm : Nat)]) ∧ Tg p1 G2 v t.data ∧ mm ≤ z.length ∧ m + 2 ≤ mm ∧ decide (w ∈ ws) = true ∧ recAt ws (12 - deep) ((TL.tl z).drop (m + 2)) = some (t, (TL.tl z).drop mm))) (fun N2 key => ?_) ?_)
            · refine ⟨_, rfl, _, rfl, a, _, rfl, .inr (SqT.mk haG), rfl, flat_strs ws, _, rfl, ?_⟩
              rw [if_neg Bool.false_ne_true, inV_str]
              cases hwm : decide (w ∈ ws) with
              | false => exact iteF (iteF (key _ _ ⟨.non, rfl, Same.refl G, .inl ⟨rfl, if_neg (by rw [hwm]; exact Bool.false_ne_true)⟩⟩))
              | true =>
                refine iteT ⟨_, rfl, _, _, rfl, rfl, _, rfl, ?_⟩
                by_cases d12 : deep < 12
                · rw [decide_eq_true (show ((deep : Nat) : Int) < 12 by omega)]
                  have er : recAt ws (12 - deep) = thingAt ws (12 - (deep + 1)) := by
                    rw [show 12 - deep = (12 - (deep + 1)) + 1 by omega]
                    rfl
                  refine iteT ⟨_, rfl, _, rfl, _, _, rfl, rfl, _, rfl, _, rfl, _, _, rfl, rfl, z, m + 2, a, deep + 1, ws, p1, rfl, m2, hz, haG, by omega, by omega, fun b hb => ?_, fun t e et G2 u v mm s2 hu tg hmm hdm => ?_, fun en G2 s2 => ?_⟩
                  · rcases hb with hb | rfl
                    · intro e
                      exact hp0 b hb (sG.free e)
                    · rw [hF]
                      exact fun z => by cases z
                  · refine key _ _ ⟨.ref u, rfl, s2, .inr ⟨t, u, v, mm, rfl, hu, tg, hmm, ?_, hwm, by rw [er, et, hdm]⟩⟩
                    obtain ⟨w2, ts2, _, _, e2⟩ := thingAt_sound ws _ _ _ _ et
                    have := congrArg List.length e2
                    rw [List.length_append, ← hdm, List.length_drop, List.length_drop] at this
                    omega
                  · refine key _ _ ⟨.non, rfl, s2, .inl ⟨rfl, ?_⟩⟩
                    rw [if_pos hwm, er]
                    unfold brAt
                    rw [en]
                · rw [decide_eq_false (show ¬ ((deep : Nat) : Int) < 12 by omega)]
                  refine iteF (key _ _ ⟨.non, rfl, Same.refl G, .inl ⟨rfl, ?_⟩⟩)
                  rw [if_pos hwm, show 12 - deep = 0 by omega]
                  rfl
            rintro σ G2 ⟨v6, rfl, s2, ⟨rfl, h6⟩ | ⟨t, u, v, mm, rfl, hu, tg, hmm, hm2, hwm, et⟩⟩
            · refine ⟨_, rfl, rfl, _, rfl, ?_⟩
              rw [decide_eq_true rfl]
              exact iteT (iteT (fail h6 _ (sG.trans s2)))
            · refine ⟨_, rfl, rfl, _, rfl, ?_⟩
              rw [decide_eq_false (show ¬ V.ref u = V.non from fun z => by cases z)]
              refine iteF ⟨_, rfl, .ref u, rfl, u, _, 1, _, rfl, rfl, SqT.mk hu, rfl, _, rfl, .ref u, rfl, u, _, 1, _, rfl, rfl, SqT.mk hu, rfl, _, _, rfl, rfl, _, rfl, z, rfl, by omega, ?_⟩
              rw [tl_cut1 z hmm]
              refine ⟨rfl, _, rfl, ?_⟩
              by_cases c41 : ((TL.tl z).drop mm).head? = some 41
              · rw [decide_eq_true (show V.str (strL (((TL.tl z).drop mm).take 1)) = V.str ")" from congrArg V.str ((one_is (by decide +kernel)).mpr c41))]
                have il : mm < (TL.tl z).length := by
                  refine Nat.lt_of_not_le fun h => ?_
                  rw [List.drop_of_length_le h] at c41
                  cases c41
                have ed : (TL.tl z).drop mm = 41 :: (TL.tl z).drop (mm + 1) := by
                  rw [List.drop_eq_getElem_cons il] at c41 ⊢
                  injection c41 with c41
                  rw [c41]
                obtain ⟨k1, e2⟩ := next t ((TL.tl z).drop (mm + 1)) (by
                  rw [if_pos hwm]
                  unfold brAt
                  rw [et, ed]
                  rfl)
                have hF2 := s2 _ _ hF
                have uF : u ≠ F := ne_of hu hF2 (fun z => by cases z)
                refine iteF ⟨.ref F, rfl, .inl ⟨rfl, _, SqL.mk hF2⟩, .ref u, rfl, u, _, 0, _, rfl, rfl, SqT.mk hu, rfl, F, _, _, rfl, rfl, hF2, by rw [List.length_cons]; omega, ?_⟩
                refine ⟨.ref u, rfl, u, _, 1, _, rfl, rfl, SqT.mk ((upd_ne uF).trans hu), rfl, _, _, rfl, rfl, ⟨mm + 1, ts ++ [t], vs ++ [v], k - 1, _, _, rfl, same_newer (sG.trans s2) nFH, upd_same, ?_, by omega, by rw [List.length_append]; show vs.length + 1 ≤ mm + 1; omega, by omega, e2⟩, ?_⟩
                · rw [ndatas_snoc]
                  exact (tv.keep fun b o nb e => (upd_ne fun h => nb (.inr h)).trans (s2 _ _ e)).app (.cons (tg.keep fun b o nb e => (upd_ne fun h => nb (.inr h)).trans e) .nil)
                · show z.length - ((mm : Int) + 1).toNat < z.length - ((m : Nat) : Int).toNat
                  omega
              · rw [decide_eq_false (show ¬ V.str (strL (((TL.tl z).drop mm).take 1)) = V.str ")" from fun e => c41 ((one_is (by decide +kernel)).mp (V.str.inj e)))]
                refine iteT (fail ?_ _ (sG.trans s2))
                rw [if_pos hwm]
                unfold brAt
                rw [et]
                cases e : (TL.tl z).drop mm with
                | nil => rfl
                | cons x r =>
                  rw [e] at c41
                  exact if_neg fun h => c41 (by rw [h]; rfl)
          · rw [decide_eq_false (show ¬ V.str (strL (((TL.tl z).drop (m + 1)).take 1)) = V.str "(" from fun e => c40 ((one_is (by decide +kernel)).mp (V.str.inj e)))]
            have eit2 : itAt (recAt ws (12 - deep)) (decide (w ∈ ws)) ((TL.tl z).drop (m + 1)) = (numAt ((TL.tl z).drop (m + 1))).map fun q => (.num q.1, q.2) := by
              unfold itAt
              rw [if_neg c40]
            rw [eit2] at fail next
            refine iteF ⟨_, rfl, _, rfl, z, m, rfl, c1, hz, ec, fun kn e en G2 t2 mm s2 hmm hlt hdm ht2 => ?_, fun en G2 s2 => ?_⟩
            · rw [en] at next
              obtain ⟨k1, e2⟩ := next (.num kn) e rfl
              refine ⟨_, rfl, rfl, _, rfl, ?_⟩
              rw [decide_eq_false (show ¬ V.ref t2 = V.non from fun z => by cases z)]
              have hF2 := s2 _ _ hF
              refine iteF ⟨.ref F, rfl, .inl ⟨rfl, _, SqL.mk hF2⟩, .ref t2, rfl, t2, _, 0, _, rfl, rfl, SqT.mk ht2, rfl, F, _, _, rfl, rfl, hF2, by rw [List.length_cons]; omega, ?_⟩
              have t2F : t2 ≠ F := ne_of ht2 hF2 (fun z => by cases z)
              refine ⟨.ref t2, rfl, t2, _, 1, _, rfl, rfl, SqT.mk ((upd_ne t2F).trans ht2), rfl, ⟨mm, ts ++ [.num kn], vs ++ [.int (kn : Nat)], k - 1, _, _, rfl, same_newer (sG.trans s2) nFH, upd_same, ?_, hmm, by rw [List.length_append]; show vs.length + 1 ≤ mm; omega, by omega, ?_⟩, ?_⟩
              · rw [ndatas_snoc]
                exact (tv.keep fun b o nb e => (upd_ne fun h => nb (.inr h)).trans (s2 _ _ e)).app (.cons (.int _) .nil)
              · rw [e2, hdm]
              · show z.length - ((mm : Nat) : Int).toNat < z.length - ((m : Nat) : Int).toNat
                omega
            · rw [en] at fail
              refine ⟨_, rfl, rfl, _, rfl, ?_⟩
              rw [decide_eq_true rfl]
              exact iteT (fail rfl _ (sG.trans s2))
        · rintro σ H1 Q1 Q2 hQ ⟨v, hv, u, hu, z', hz', hl, i, j, hi, hj, b, hb, h⟩
          refine ⟨v, hv, u, hu, z', hz', hl, i, j, hi, hj, b, hb, ?_⟩
          cases b with
          | true =>
            obtain ⟨v0, h0, v2, h2, za, ia, ca, e1, e2, e3, e4, sc, bb, fb, hq⟩ := h
            exact ⟨v0, h0, v2, h2, za, ia, ca, e1, e2, e3, e4, sc, bb, fb, hQ _ _ hq⟩
          | false => exact hQ _ _ h
      rintro σ G ⟨m, ts, vs, y6, y7, rfl, sG, hF, tv, hm, lv, eth⟩
      have wk : ∀ {G2 : Hp}, Same G G2 → TgA p0 G2 vs (Nt.datas ts) := fun s2 => tv.to fun b o nb e => ⟨s2 _ _ e, fun h => nb (.inl h)⟩
      have np : ∀ {G2 : Hp} {b : Addr}, Same G G2 → G2 b = none → ¬ p0 b := fun s2 nb h => hp0 _ h ((sG.trans s2).free nb)
      refine ⟨_, rfl, rfl, _, rfl, ?_⟩
      by_cases wt : w = "table"
      · subst wt
        rw [decide_eq_true rfl]
        refine iteT ⟨.ref F, rfl, _, rfl, F, _, rfl, SqL.mk hF, fun L nL => ?_⟩
        rw [cut_tail]
        have y1 := same_upd nL (o := .lst vs)
        refine ⟨L, _, rfl, .inl ⟨SqL.mk upd_same, fun T1 nT1 => ?_⟩⟩
        have y2 := y1.trans (same_upd nT1 (o := .tup vs))
        have h2 := upd_same (H := upd G L (.lst vs)) (a := T1) (o := .tup vs)
        have k1 := np y1 nT1
        generalize upd (upd G L (.lst vs)) T1 (.tup vs) = G2 at y2 h2 ⊢
        refine ⟨(show 2 ≤ sizeLine by decide), fun T2 nT2 => ⟨_, rfl, (show 2 ≤ sizeLine by decide), fun u nu => ?_⟩⟩
        have y3 := same_upd nT2 (o := .tup [.str "table", .ref T1])
        have h3 := upd_same (H := G2) (a := T2) (o := .tup [.str "table", .ref T1])
        have k2 := np y2 nT2
        generalize upd G2 T2 (.tup [.str "table", .ref T1]) = G3 at y3 h3 nu ⊢
        have y4 := same_upd nu (o := .tup [.ref T2, .int (m : Nat)])
        have all := y2.trans (y3.trans y4)
        refine q1 _ _ eth _ u _ m (sG.trans all) upd_same ?_ hm rfl
        rw [tbl_data]
        exact .tup k2 (y4 _ _ h3) (.cons (.str _) (.cons (.tup k1 (y4 _ _ (y3 _ _ h2)) (wk all)) .nil))
      · rw [decide_eq_false (show ¬ V.str w = V.str "table" from fun e => wt (V.str.inj e))]
        refine iteF ⟨.ref F, rfl, F, _, rfl, .inl ⟨SqL.mk hF, fun T1 nT1 => ⟨_, rfl, (show 2 ≤ sizeLine by decide), fun u nu => ?_⟩⟩⟩
        have y1 := same_upd nT1 (o := .tup (.str w :: vs))
        have h1 := upd_same (H := G) (a := T1) (o := .tup (.str w :: vs))
        have k1 := np (Same.refl G) nT1
        generalize upd G T1 (.tup (.str w :: vs)) = G1 at y1 h1 nu ⊢
        have y2 := same_upd nu (o := .tup [.ref T1, .int (m : Nat)])
        refine q1 _ _ eth _ u _ m (sG.trans (y1.trans y2)) upd_same ?_ hm rfl
        rw [node_data wt]
        exact .tup k1 (y2 _ _ h1) (.cons (.str _) (wk (y1.trans y2)))
def sp__law_thing_at (K : PySem.W.Frag) : Sp := spr__law_thing_at 13 K
theorem ok__law_thing_at (T : Defs K mg) (TT : Tabs T base) : FnOk P w K mg base CX0 23 T.f__law_thing_at T.fd__law_thing_at ["_law_text", "_law_at", "_law_words", "_law_deep"] (sp__law_thing_at K) := okr__law_thing_at T TT 13
theorem iteNo {c A B : Prop} [Decidable c] (hc : ¬ c) (h : A) : if (!decide c) = true then A else B := by
  rw [decide_eq_false hc]
  exact iteT h

def dmL : List (Key × V) := [(kS "less", .int 1), (kS "both", .int 2), (kS "either", .int 2), (kS "oneof", .int 2), (kS "pick", .int 3)]
theorem dm_get (z : Str) : valV (mergeK [] dmL) (kS z) = (sideN z).map V.int := by
  show valV (putK (putK (putK (putK (putK [] (kS "less") (.int 1)) (kS "both") (.int 2)) (kS "either") (.int 2)) (kS "oneof") (.int 2)) (kS "pick") (.int 3)) (kS z) = _
  simp only [valV_put, valV_nil]
  have k (a : Str) : (kS z = kS a) = (z = a) := propext ⟨fun e => Sum.inr.inj e, fun e => congrArg kS e⟩
  simp only [k]
  unfold sideN dl_SIDES
  simp only [List.lookup_cons, List.lookup_nil]
  by_cases h1 : z = "less"
  · subst h1
    rw [if_neg (by decide +kernel), if_neg (by decide +kernel), if_neg (by decide +kernel), if_neg (by decide +kernel), if_pos rfl]
    simp
  by_cases h2 : z = "both"
  · subst h2
    rw [if_neg (by decide +kernel), if_neg (by decide +kernel), if_neg (by decide +kernel), if_pos rfl, beq_false_of_ne h1]
    simp
  by_cases h3 : z = "either"
  · subst h3
    rw [if_neg (by decide +kernel), if_neg (by decide +kernel), if_pos rfl, beq_false_of_ne h1, beq_false_of_ne h2]
    simp
  by_cases h4 : z = "oneof"
  · subst h4
    rw [if_neg (by decide +kernel), if_pos rfl, beq_false_of_ne h1, beq_false_of_ne h2, beq_false_of_ne h3]
    simp
  by_cases h5 : z = "pick"
  · subst h5
    rw [if_pos rfl, beq_false_of_ne h1, beq_false_of_ne h2, beq_false_of_ne h3, beq_false_of_ne h4]
    simp
  rw [if_neg h5, if_neg h4, if_neg h3, if_neg h2, if_neg h1, beq_false_of_ne h1, beq_false_of_ne h2, beq_false_of_ne h3, beq_false_of_ne h4, beq_false_of_ne h5]
  rfl
theorem side_pos {z : Str} {n : Int} (h : sideN z = some n) : 1 ≤ n ∧ n ≤ 3 := by
  unfold sideN dl_SIDES at h
  simp only [List.lookup] at h
  split at h
  · have := Option.some.inj h; omega
  · split at h
    · have := Option.some.inj h; omega
    · split at h
      · have := Option.some.inj h; omega
      · split at h
        · have := Option.some.inj h; omega
        · split at h
          · have := Option.some.inj h; omega
          · cases h
mutual
/-- no node has too many parts -/
def Nt.Sm1 : Nt → Prop
  | .num _ => True
  | .node _ ts => ts.length ≤ 1000000 ∧ Nt.Sm ts
def Nt.Sm : List Nt → Prop
  | [] => True
  | t :: ts => t.Sm1 ∧ Nt.Sm ts
end
theorem sm_mem : ∀ {ts : List Nt} {t : Nt}, Nt.Sm ts → t ∈ ts → t.Sm1
  | x :: ts, t, h, hm => by
    have ok : x.Sm1 ∧ Nt.Sm ts := by simpa only [Nt.Sm] using h
    rcases List.mem_cons.mp hm with rfl | hm
    · exact ok.1
    · exact sm_mem ok.2 hm
theorem deps_mem : ∀ {ts : List Nt} {t : Nt}, t ∈ ts → t.dep ≤ Nt.deps ts
  | x :: ts, t, hm => by
    have e : Nt.deps (x :: ts) = max x.dep (Nt.deps ts) := rfl
    rw [e]
    rcases List.mem_cons.mp hm with rfl | hm
    · omega
    · have := deps_mem hm
      omega
/-- what is told of a part: None, or how many parts and how deep -/
def Ms (G : Hp) (w : V) (e : PyData) : Prop := (well e = false ∧ w = .non) ∨ (well e = true ∧ ∃ t, w = .ref t ∧ G t = some (.tup [.int (siz e : Nat), .int (dpt e : Nat)]))
def msD (e : PyData) : PyData := if well e then .tuple [.int (siz e : Nat), .int (dpt e : Nat)] else .none
theorem Ms.keep {G G' : Hp} {w : V} {e : PyData} (h : Ms G w e) (k : ∀ t xs, G t = some (.tup xs) → G' t = some (.tup xs)) : Ms G' w e := by
  rcases h with h | ⟨h, t, rfl, ht⟩
  · exact .inl h
  · exact .inr ⟨h, t, rfl, k _ _ ht⟩
theorem Ms.dp {K : PySem.W.Frag} {G : Hp} {w : V} {e : PyData} (h : Ms G w e) : Dp K G w (msD e) := by
  unfold msD
  rcases h with ⟨h, rfl⟩ | ⟨h, t, rfl, ht⟩
  · rw [h]
    exact .non
  · rw [h]
    exact .tup (SqT.mk ht) (.cons (.int _) (.cons (.int _) .nil))
theorem ms_all {K : PySem.W.Frag} {G : Hp} : ∀ {es : List PyData} {ws : List V}, ws.length = es.length → (∀ (j : Nat) (w : V) (e : PyData), ws[j]? = some w → es[j]? = some e → Ms G w e) → DpAll K G ws (es.map msD)
  | [], [], _, _ => .nil
  | e :: es, w :: ws, l, h => .cons (h 0 w e rfl rfl).dp (ms_all (by simpa using l) fun j x y h1 h2 => h (j + 1) x y (by simpa using h1) (by simpa using h2))
theorem ms_any : ∀ es : List PyData, (es.map msD).any (fun z => PyData.eqv z .none) = !wellA es
  | [] => rfl
  | e :: es => by
    rw [List.map_cons, List.any_cons, ms_any es]
    simp only [wellA]
    unfold msD
    cases well e
    · rfl
    · have : PyData.eqv (if true = true then PyData.tuple [.int (siz e : Nat), .int (dpt e : Nat)] else .none) .none = false := by
        rw [if_pos rfl]
        simp only [PyData.eqv]
      rw [this]
      rfl
theorem ms_shaped (es : List PyData) : SeqAt.shaped (.list (es.map msD)) = true := by
  have h1 : PyData.canLayAll0 (es.map msD) = true := by
    induction es with
    | nil => rfl
    | cons e es ih =>
      rw [List.map_cons]
      simp only [PyData.canLayAll0, ih]
      unfold msD
      cases well e <;> rfl
  have h2 : PyData.depthAll (es.map msD) ≤ 1 := by
    induction es with
    | nil => exact Nat.zero_le _
    | cons e es ih =>
      have h1' : PyData.canLayAll0 (es.map msD) = true := by
        rw [List.map_cons] at h1
        simp only [PyData.canLayAll0] at h1
        exact (Bool.and_eq_true_iff.mp h1).2
      have := ih h1'
      have e1 : (msD e).depth ≤ 1 := by
        unfold msD
        cases well e
        · exact Nat.zero_le _
        · exact Nat.le_refl _
      rw [List.map_cons]
      simp only [PyData.depthAll]
      omega
  have h3 : (PyData.list (es.map msD)).canLay0 = true := by simpa only [PyData.canLay0] using h1
  have h4 : (PyData.list (es.map msD)).depth ≤ 64 := by
    simp only [PyData.depth]
    omega
  unfold SeqAt.shaped
  rw [h3, decide_eq_true h4]
  rfl
theorem dptA_max : ∀ {xs : List PyData}, xs ≠ [] → ∃ x, x ∈ xs ∧ dpt x = dptA xs
  | [], h => absurd rfl h
  | [x], _ => ⟨x, List.mem_cons_self, by simp only [dptA]; omega⟩
  | x :: y :: xs, _ => by
    obtain ⟨z, hz, e⟩ := dptA_max (xs := y :: xs) (by simp)
    by_cases l : dptA (y :: xs) ≤ dpt x
    · exact ⟨x, List.mem_cons_self, by rw [dptA]; omega⟩
    · exact ⟨z, List.mem_cons_of_mem _ hz, by rw [dptA, e]; omega⟩
theorem sum_cast : ∀ xs : List PyData, ((xs.map fun e => ((siz e : Nat) : Int))).sum = ((sizA xs : Nat) : Int)
  | [] => rfl
  | x :: xs => by
    rw [List.map_cons, List.sum_cons, sum_cast xs]
    simp only [sizA]
    omega
/-- the answers so far -/
def MsI (H3 : Hp) (C : Addr) (ds : List PyData) (i : Nat) (G : Hp) : Prop := Same H3 G ∧ ∃ ws : List V, G C = some (.lst ws) ∧ ws.length = i ∧ ∀ (j : Nat) (w : V) (e : PyData), ws[j]? = some w → ds[j]? = some e → Ms G w e
theorem MsI.step {H3 G G2 : Hp} {C : Addr} {ds : List PyData} {i : Nat} {e : PyData} {w : V} (h : MsI H3 C ds i G) (nC : H3 C = none) (s : Same G G2) (hi : ds[i]? = some e) (m : Ms G2 w e) (l : i < sizeLine) :
    ∃ acc, G2 C = some (.lst acc) ∧ acc.length < sizeLine ∧ MsI H3 C ds (i + 1) (upd G2 C (.lst (acc ++ [w]))) := by
  obtain ⟨sG, ws, hC, lw, hws⟩ := h
  have kp : ∀ t xs, G2 t = some (.tup xs) → (upd G2 C (.lst (ws ++ [w]))) t = some (.tup xs) := fun t xs e => by
    rw [upd_ne (ne_of e (s _ _ hC) (fun z => by cases z))]
    exact e
  refine ⟨ws, s _ _ hC, by omega, same_newer (sG.trans s) nC, _, upd_same, by rw [List.length_append, List.length_singleton, lw], fun j x y h1 h2 => ?_⟩
  by_cases z : j < i
  · rw [List.getElem?_append_left (by omega)] at h1
    exact ((hws j x y h1 h2).keep fun t xs e => s _ _ e).keep kp
  · have j1 := (List.getElem?_eq_some_iff.mp h1).1
    rw [List.length_append, List.length_singleton] at j1
    obtain rfl : j = i := by omega
    rw [hi] at h2
    cases h2
    rw [List.getElem?_append_right (by omega), lw, Nat.sub_self] at h1
    cases h1
    exact m.keep kp
theorem ms_ref {G : Hp} {ds : List PyData} {ws : List V} {i : Nat} {u : V} (hws : ∀ (j : Nat) (w : V) (e : PyData), ws[j]? = some w → ds[j]? = some e → Ms G w e) (l : ws.length = ds.length) (wa : wellA ds = true) (hu : ws[i]? = some u) :
    ∃ e t, ds[i]? = some e ∧ u = .ref t ∧ G t = some (.tup [.int (siz e : Nat), .int (dpt e : Nat)]) := by
  have i1 := (List.getElem?_eq_some_iff.mp hu).1
  have i2 : i < ds.length := by omega
  rcases hws i u ds[i] hu (List.getElem?_eq_getElem i2) with ⟨h, _⟩ | ⟨h, t, rfl, ht⟩
  · rw [wellA_all.mp wa _ (List.getElem_mem i2)] at h
    cases h
  · exact ⟨_, t, List.getElem?_eq_getElem i2, rfl, ht⟩
def spr__law_measure (D : Nat) (K : PySem.W.Frag) : Sp := fun vs H Q _ => ∃ (p : Addr → Prop) (v : V) (w : Str) (ts : List Nt), vs = [v] ∧ Tg p H v (Nt.node w ts).data ∧ (Nt.node w ts).dep < D ∧ ts.length ≤ 1000000 ∧ Nt.Sm ts ∧
  ∀ H', Same H H' → (well (Nt.node w ts).data = false → Q .non H') ∧ (well (Nt.node w ts).data = true → ∀ t, H' t = some (.tup [.int (siz (Nt.node w ts).data : Nat), .int (dpt (Nt.node w ts).data : Nat)]) → Q (.ref t) H')
theorem no__law_measure {K : PySem.W.Frag} {vs : List V} {H : Hp} {Q : VK} {E : XK} (h : spr__law_measure 0 K vs H Q E) : False := by
  obtain ⟨p, v, w, ts, _, _, z, _⟩ := h
  omega
theorem okr__law_measure (T : Defs K mg) (TT : Tabs T base) : ∀ d : Nat, FnOk P w K mg base CX0 (1 + d) T.f__law_measure T.fd__law_measure ["_law_thing"] (spr__law_measure d K)
  | 0 => ⟨fun _ _ _ _ z => (no__law_measure z).elim, fun _ _ _ _ _ _ _ _ _ _ _ _ _ z => (no__law_measure z).elim⟩
  | d + 1 => by
    have G__law_measure : FnOk P w K mg base CX0 (1 + d) T.f__law_measure T.fd__law_measure ["_law_thing"] (spr__law_measure d K) := okr__law_measure T TT d
    show FnOk P w K mg base CX0 ((1 + d) + 1) T.f__law_measure T.fd__law_measure ["_law_thing"] (spr__law_measure (d + 1) K)
    refine T.F__law_measure.ok sc__law_measure (fun vs H Q E h => ?_) (fun cdv A outer s H vs Q E hr h => ?_)
    · obtain ⟨p, v, wd, ts, rfl, hv, hd, lts, sm, q⟩ := h
      rfl
    · obtain ⟨p, v, wd, ts, rfl, hv, hd, lts, sm, q⟩ := h
      refine ⟨_, PSs.nox (pss_cons (ps_set (i := 1) sc__law_measure.nd rfl (.inl rfl) (pe_dget2 (u1 hr) (pe_disp (pps_cons pe_str pe_int (pps_cons pe_str pe_int (pps_cons pe_str pe_int (pps_cons pe_str pe_int (pps_cons pe_str pe_int pps_nil))))) rfl rfl (by simp) (by decide)) (pe_ix ix_tup (pv 0) pe_int (fun _ _ => rfl)) pe_int ⟨rfl, rfl, rfl, rfl⟩))
    (pss_cons (ps_if (PW.pt (pw_and (pt_cmpR op_eq (pe_ix ix_tup (pv 0) pe_int (fun _ _ => rfl)) pe_str (nomark _)) (pw_and (pt_cmpR op_eq (pe_callB call_len_seq (by rfl) T.m_len bt_len (pa_cons (pv 0) pa_nil)) pe_int (nomark _)) (pw_and1 (pt_val (pe_callB call_isi (by rfl) T.m_isinstance bt_isinstance (pa_cons (pe_ix ix_tup (pv 0) pe_int (fun _ _ => rfl)) (pa_cons (pe_bltn (v := .ty "int") (by rfl) T.m_int bt_int rfl) pa_nil)))))))) (pss_one (ps_ret (pe_ifExp (pt_cmpR op_lt (pe_ix ix_tup (pv 0) pe_int (fun _ _ => rfl)) pe_int (nomark _)) (pe_tup (pa_cons pe_int (pa_cons pe_int pa_nil))) pe_non))) pss_nil)
    (pss_cons (ps_if (PW.pt (pw_or (pt_cmpR op_eq (pv 1) pe_int (nomark _)) (pw_or (pt_cmpR op_ne (pe_callB call_len_seq (by rfl) T.m_len bt_len (pa_cons (pv 0) pa_nil)) (pe_op op_add (pv 1) pe_int) (nomark _)) (pw_or1 (pt_not (pt_val (pe_callB (cr_all rfl) (by rfl) T.m_all bt_all (pa_cons (pe_lc (own := [("_law_part", 3)]) (g := gName 3) (tt := tYes) rfl sc__law_measure.nd (pi_tup (pe_slice sl_tup (pv 0) (po_some pe_int) po_none)) (blkOk_by (N := N__law_measure) (sc := defScope s__law_measure) (by decide +kernel)) (fun _ _ _ _ _ => (pg_name (i := 3) sc__law_measure.nd rfl (.inl rfl))) (fun _ _ _ _ _ => pts_nil) (fun _ _ _ _ _ => (pe_callB (isiK (K := K) rfl) (by rfl) T.m_isinstance bt_isinstance (pa_cons (pv 3) (pa_cons (pe_bltn (v := .ty "tuple") (by rfl) T.m_tuple bt_tuple rfl) pa_nil))))) pa_nil)))))))) (pss_one (ps_ret pe_non)) pss_nil)
    (pss_cons (ps_setLc (i := 2) (own := [("_law_part", 3)]) (g := gName 3) (tt := tYes) rfl sc__law_measure.nd rfl rfl (sw_true rfl rfl rfl (by decide +kernel)) (pi_tup (pe_slice sl_tup (pv 0) (po_some pe_int) po_none)) (blkOk_by (N := N__law_measure) (sc := defScope s__law_measure) (by decide +kernel)) (fun _ _ _ _ _ => (pg_name (i := 3) sc__law_measure.nd rfl (.inl rfl))) (fun _ _ _ _ _ => pts_nil) (fun _ _ _ _ _ => (pe_call G__law_measure (hr.mono (by omega)) (by rfl) T.g__law_measure T.F__law_measure.kp T.b__law_measure .nil pass0 (pa_cons (pv 3) pa_nil))))
    (pss_cons (ps_if (pt_cmpR (op_inD (u65g hr)) pe_non (pv 2) rfl) (pss_one (ps_ret pe_non)) pss_nil)
    (pss_one (ps_ret (pe_tup (pa_cons (pe_op op_add pe_int (pe_callB (cr_sum rfl) (by rfl) T.m_sum bt_sum (pa_cons (pe_lc (own := [("_law_one", 4), ("_law_deep", 5)]) (g := gTup K 2 (gCons (gName 4) (gCons (gName 5) gNil))) (tt := tYes) rfl sc__law_measure.nd (pi_list (pv 2)) (blkOk_by (N := N__law_measure) (sc := defScope s__law_measure) (by decide +kernel)) (fun _ _ _ _ _ => (pg_tupK (K := K) rfl rfl (pgs_cons (pg_name (i := 4) sc__law_measure.nd rfl (.inl rfl)) (pgs_cons (pg_name (i := 5) sc__law_measure.nd rfl (.inl rfl)) pgs_nil)))) (fun _ _ _ _ _ => pts_nil) (fun _ _ _ _ _ => (pv 4))) pa_nil))) (pa_cons (pe_op op_add pe_int (pe_callB (cr_max rfl) (by rfl) T.m_max bt_max (pa_cons (pe_lc (own := [("_law_one", 4), ("_law_deep", 5)]) (g := gTup K 2 (gCons (gName 4) (gCons (gName 5) gNil))) (tt := tYes) rfl sc__law_measure.nd (pi_list (pv 2)) (blkOk_by (N := N__law_measure) (sc := defScope s__law_measure) (by decide +kernel)) (fun _ _ _ _ _ => (pg_tupK (K := K) rfl rfl (pgs_cons (pg_name (i := 4) sc__law_measure.nd rfl (.inl rfl)) (pgs_cons (pg_name (i := 5) sc__law_measure.nd rfl (.inl rfl)) pgs_nil)))) (fun _ _ _ _ _ => pts_nil) (fun _ _ _ _ _ => (pv 5))) pa_nil))) pa_nil)))))))))), ?_⟩
      have hsl : sizeLine = 16777216 := by decide
      obtain ⟨a, xs, ds1, rfl, np, ha, hx, hwell, hsiz, hdpt, hds⟩ : ∃ a xs ds1, v = .ref a ∧ ¬ p a ∧ H a = some (.tup (.str wd :: xs)) ∧ TgA p H xs ds1 ∧ well (Nt.node wd ts).data = wellT (.str wd :: ds1) ∧ siz (Nt.node wd ts).data = sizT (.str wd :: ds1) ∧ dpt (Nt.node wd ts).data = dptT (.str wd :: ds1) ∧ (wd ≠ "table" → ds1 = Nt.datas ts) := by
        by_cases ht : wd = "table"
        · subst ht
          rw [tbl_data] at hv ⊢
          obtain ⟨a, xs, rfl, np, ha, hx⟩ := hv.tupv
          cases hx with
          | cons h1 h2 =>
            cases h1
            exact ⟨a, _, _, rfl, np, ha, h2, rfl, rfl, rfl, fun h => absurd rfl h⟩
        · rw [node_data ht] at hv ⊢
          obtain ⟨a, xs, rfl, np, ha, hx⟩ := hv.tupv
          cases hx with
          | cons h1 h2 =>
            cases h1
            exact ⟨a, _, _, rfl, np, ha, h2, rfl, rfl, rfl, fun _ => rfl⟩
      rw [hwell, hsiz, hdpt] at q
      clear hwell hsiz hdpt hv
      refine fun D nD => ⟨upd_same, dmL, rfl, (show 5 ≤ 15 by decide), ?_⟩
      have s1 : Same H (upd (upd H D (.dK [])) D (.dK (mergeK [] dmL))) := same_newer (same_upd nD) nD
      have hD : (upd (upd H D (.dK [])) D (.dK (mergeK [] dmL))) D = some (.dK (mergeK [] dmL)) := upd_same
      generalize upd (upd H D (.dK [])) D (.dK (mergeK [] dmL)) = H1 at s1 hD ⊢
      have ha1 := s1 _ _ ha
      have ts1 := hx.same s1
      try dsimp only
      refine ⟨D, rfl, .inl ⟨_, .inl hD⟩, .ref a, rfl, a, _, 0, _, rfl, rfl, SqT.mk ha1, atI_nat (j := 0) rfl, (sideN wd).map V.int, dm_get wd ▸ DGet.k (k := kS wd) hD, ?_⟩
      have ln := ts1.len
      by_cases e : wd = "in"
      · subst e
        have e0 : sideN "in" = none := by decide +kernel
        rw [e0]
        have w1 : wellT (.str "in" :: ds1) = okArg ds1 := by simp only [wellT, wordOf, if_true]
        have w2 : sizT (.str "in" :: ds1) = 1 := by simp only [sizT, wordOf, if_true]
        have w3 : dptT (.str "in" :: ds1) = 1 := by simp only [dptT, wordOf, if_true]
        rw [w1, w2, w3] at q
        obtain rfl := hds (by decide +kernel)
        refine ⟨.ref a, rfl, a, _, 0, _, rfl, rfl, SqT.mk ha1, atI_nat (j := 0) rfl, rfl, _, rfl, iteT ?_⟩
        refine ⟨.ref a, rfl, a, _, rfl, .inr (SqT.mk ha1), rfl, _, rfl, ?_⟩
        match ts, xs, ts1, ln, ha1, q with
        | [t2], [x2], .cons h2 .nil, _, ha1, q =>
          rw [decide_eq_true (show V.int (([V.str "in", x2].length : Nat) : Int) = V.int 2 from rfl)]
          obtain ⟨ty0, ty2, ki, kb, -⟩ := h2.ty (K := K)
          refine iteT ⟨.ref a, rfl, a, _, 1, _, rfl, rfl, SqT.mk ha1, atI_nat (j := 1) rfl, _, _, _, _, _, rfl, .ty "int", ty2, ki, _, rfl, ?_⟩
          cases t2 with
          | num n =>
            cases h2
            refine iteT ⟨.ref a, rfl, a, _, 1, _, rfl, rfl, SqT.mk ha1, atI_nat (j := 1) rfl, _, _, rfl, rfl, _, rfl, ?_⟩
            have eo : okArg (Nt.datas [Nt.num n]) = decide (n < 6) := decide_eq_decide.mpr (by omega)
            rw [eo] at q
            by_cases n6 : n < 6
            · rw [decide_eq_true (show ((n : Nat) : Int) < 6 by omega)]
              refine iteT ⟨(show 2 ≤ sizeLine by decide), fun tr nr => ?_⟩
              exact (q _ (s1.trans (same_upd nr))).2 (decide_eq_true n6) tr upd_same
            · rw [decide_eq_false (show ¬ ((n : Nat) : Int) < 6 by omega)]
              exact iteF ((q _ s1).1 (decide_eq_false n6))
          | node w' us =>
            have fl : (isIntD (Nt.node w' us).data || isBlD (Nt.node w' us).data) = false := by
              by_cases hw : w' = "table"
              · rw [hw, tbl_data]; rfl
              · rw [node_data hw]; rfl
            rw [fl]
            have eo : okArg (Nt.datas [Nt.node w' us]) = false := by
              show okArg [(Nt.node w' us).data] = false
              by_cases hw : w' = "table"
              · rw [hw, tbl_data]; rfl
              · rw [node_data hw]; rfl
            exact iteF ⟨_, rfl, rfl, _, rfl, iteT (iteT ((q _ s1).1 eo))⟩
        | [], [], _, _, ha1, q => exact iteF (iteF ⟨_, rfl, rfl, _, rfl, iteT (iteT ((q _ s1).1 rfl))⟩)
        | t2 :: t3 :: r, x2 :: x3 :: xr, _, _, ha1, q =>
          rw [decide_eq_false (show ¬ V.int (((V.str "in" :: x2 :: x3 :: xr).length : Nat) : Int) = V.int 2 from fun e => by
            have e := V.int.inj e
            simp only [List.length_cons] at e
            omega)]
          exact iteF (iteF ⟨_, rfl, rfl, _, rfl, iteT (iteT ((q _ s1).1 (okArg_len fun h => by have h : (Nt.datas r).length + 1 + 1 = 1 := h; omega)))⟩)
      have w1 : wellT (.str wd :: ds1) = (decide (sideN wd = some (ds1.length : Int)) && wellA ds1) := by simp only [wellT, wordOf, if_neg e]
      have w2 : sizT (.str wd :: ds1) = 1 + sizA ds1 := by simp only [sizT, wordOf, if_neg e]
      have w3 : dptT (.str wd :: ds1) = 1 + dptA ds1 := by simp only [dptT, wordOf, if_neg e]
      rw [w1, w2, w3] at q
      refine ⟨.ref a, rfl, a, _, 0, _, rfl, rfl, SqT.mk ha1, atI_nat (j := 0) rfl, rfl, _, rfl, ?_⟩
      rw [decide_eq_false (show ¬ V.str wd = V.str "in" from fun y => e (V.str.inj y))]
      refine iteF (iteF ?_)
      cases e3 : sideN wd with
      | none => exact ⟨_, rfl, rfl, _, rfl, iteT (iteT ((q _ s1).1 (by rw [e3]; rfl)))⟩
      | some n0 =>
        have n3 := side_pos e3
        have hnt : wd ≠ "table" := fun h => by
          rw [h, show sideN "table" = none by decide +kernel] at e3
          cases e3
        obtain rfl := hds hnt
        refine ⟨_, rfl, rfl, _, rfl, ?_⟩
        rw [decide_eq_false (show ¬ (Option.map V.int (some n0)).getD (V.int 0) = V.int 0 from fun z => by
          have z : V.int n0 = V.int 0 := z
          have := V.int.inj z
          omega)]
        refine iteF ⟨.ref a, rfl, a, _, rfl, .inr (SqT.mk ha1), _, rfl, _, _, rfl, rfl, rfl, _, rfl, ?_⟩
        have la : (V.str wd :: xs).length = (Nt.datas ts).length + 1 := by rw [List.length_cons, ln]
        by_cases l : (n0 : Int) = ((Nt.datas ts).length : Int)
        rotate_left
        · rw [decide_eq_false (show ¬ V.int (((V.str wd :: xs).length : Nat) : Int) = V.int (n0 + 1) from fun z => l (by have z := V.int.inj z; rw [la] at z; omega))]
          refine iteT (iteT ((q _ s1).1 ?_))
          rw [e3, decide_eq_false fun z => l (Option.some.inj z)]
          rfl
        rw [decide_eq_true (show V.int (((V.str wd :: xs).length : Nat) : Int) = V.int (n0 + 1) from congrArg V.int (by rw [la]; omega))]
        have q2 := q
        rw [e3, decide_eq_true (show some n0 = some ((Nt.datas ts).length : Int) from congrArg some l), Bool.true_and] at q2
        refine iteF ⟨.ref a, rfl, 1, rfl, a, _, rfl, SqT.mk ha1, not_whole, fun tc ntc => ?_⟩
        rw [cut_tail]
        have s3 := same_upd ntc (o := .tup xs)
        have htc := upd_same (H := H1) (a := tc) (o := .tup xs)
        have ts3 := ts1.same s3
        have s13 := s1.trans s3
        generalize upd H1 tc (.tup xs) = H3 at s3 htc ts3 s13 ⊢
        have ha3 := s3 _ _ ha1
        refine ⟨tc, rfl, ⟨_, SqT.mk htc⟩, fun C nC => ?_⟩
        refine lc_tup (xs := xs) (fun i G => Same H3 G ∧ G C = some (.lst ((((Nt.datas ts).take i).map isTupD).map V.bl))) ⟨same_upd nC, upd_same⟩ (fun i G _ h => SqT.mk (h.1 _ _ htc)) (fun i u G hu h => ?_) (fun G h => ?_)
        · obtain ⟨sG, hC⟩ := h
          obtain ⟨e1, he, te⟩ := (ts3.same sG).get hu
          obtain ⟨ty0, tyx, -, -, kt, -, -⟩ := te.ty (K := K)
          refine ⟨rfl, yes_ite ⟨u, rfl, _, _, _, _, _, rfl, .ty "tuple", tyx, kt, _, hC, ?_, same_newer sG nC, ?_⟩⟩
          · have := (List.getElem?_eq_some_iff.mp he).1
            have e4 : (Nt.datas ts).length = ts.length := by rw [datas_map, List.length_map]
            rw [List.length_map, List.length_map, List.length_take]
            omega
          · rw [upd_same, List.take_add_one, he, List.map_append, List.map_append]
            rfl
        obtain ⟨sG, hC⟩ := h
        rw [ln, List.take_length] at hC
        refine ⟨C, _, rfl, SqL.mk hC, _, rfl, ?_⟩
        have tup_of : ∀ e1, e1 ∈ Nt.datas ts → isTupD e1 = true → ∃ w' us, Nt.node w' us ∈ ts ∧ e1 = (Nt.node w' us).data := fun e1 he1 ht1 => by
          rw [datas_map] at he1
          obtain ⟨t', ht', rfl⟩ := List.mem_map.mp he1
          cases t' with
          | num n => cases ht1
          | node w' us => exact ⟨w', us, ht', rfl⟩
        cases ca : ((Nt.datas ts).map isTupD).all id with
        | false =>
          refine iteT ((q2 _ (s13.trans sG)).1 ?_)
          cases wa : wellA (Nt.datas ts) with
          | false => rfl
          | true =>
            have all : ((Nt.datas ts).map isTupD).all id = true := List.all_eq_true.mpr fun x hx => by
              obtain ⟨e1, he1, rfl⟩ := List.mem_map.mp hx
              have := wellA_all.mp wa e1 he1
              cases e1 with
              | tuple _ => rfl
              | _ => simp only [well] at this; exact nomatch this
            rw [all] at ca
            cases ca
        | true =>
        have allT := List.all_eq_true.mp ca
        have haG := sG _ _ ha3
        have tsG := ts3.same sG
        have s1G := s13.trans sG
        clear hC nC ts3 s13 ha3 htc
        refine iteF ⟨.ref a, rfl, 1, rfl, a, _, rfl, SqT.mk haG, not_whole, fun tc2 ntc2 => ?_⟩
        rw [cut_tail]
        have s4 := same_upd ntc2 (o := .tup xs)
        have htc2 := upd_same (H := G) (a := tc2) (o := .tup xs)
        have ts4 := tsG.same s4
        have s14 := s1G.trans s4
        generalize upd G tc2 (.tup xs) = H4 at s4 htc2 ts4 s14 ⊢
        clear sG s3 s1G tsG haG
        refine ⟨tc2, rfl, ⟨_, SqT.mk htc2⟩, fun C nC => ?_⟩
        refine lc_tup (xs := xs) (MsI H4 C (Nt.datas ts)) ⟨same_upd nC, [], upd_same, rfl, fun j w e h => (by cases h)⟩ (fun i G _ h => SqT.mk (h.1 _ _ htc2)) (fun i u G hu h => ?_) (fun G h => ?_)
        · obtain ⟨e1, he, hte⟩ := (ts4.same h.1).get hu
          have em := List.mem_of_getElem? he
          have iu := (List.getElem?_eq_some_iff.mp he).1
          have e4 : (Nt.datas ts).length = ts.length := by rw [datas_map, List.length_map]
          obtain ⟨w', us, hin, rfl⟩ := tup_of e1 em (allT _ (List.mem_map.mpr ⟨e1, em, rfl⟩))
          have dm := deps_mem hin
          have ed : (Nt.node wd ts).dep = Nt.deps ts + 1 := rfl
          have sm1 : us.length ≤ 1000000 ∧ Nt.Sm us := by simpa only [Nt.Sm1] using sm_mem sm hin
          refine ⟨rfl, yes_ite ?_⟩
          refine ⟨u, rfl, p, u, w', us, rfl, hte, by omega, sm1.1, sm1.2, fun G2 sg => ⟨fun w0 => ?_, fun w0 t ht => ?_⟩⟩
          · exact h.step nC sg he (.inl ⟨w0, rfl⟩) (by omega)
          · exact h.step nC sg he (.inr ⟨w0, t, rfl, ht⟩) (by omega)
        · obtain ⟨sG, ws, hC, lw, hws⟩ := h
          have lw2 : ws.length = (Nt.datas ts).length := by omega
          have sHG := s14.trans sG
          refine ⟨.ref C, rfl, .none, (Nt.datas ts).map msD, .non, .lst (SqL.mk hC) (ms_all lw2 hws), rfl, ms_shaped _, _, rfl, ?_⟩
          rw [ms_any]
          cases wa : wellA (Nt.datas ts) with
          | false => exact iteT ((q2 _ sHG).1 wa)
          | true =>
            refine iteF ?_
            refine ⟨.ref C, rfl, C, rfl, ⟨_, SqL.mk hC⟩, fun C2 nC2 => ?_⟩
            refine lc_list (xs := ws) (fun i G' => Same G G' ∧ G' C2 = some (.lst ((((Nt.datas ts).take i).map fun e => ((siz e : Nat) : Int)).map V.int))) ⟨same_upd nC2, upd_same⟩ (fun i G' _ h => SqL.mk (h.1 _ _ hC)) (fun i u G' hu h => ?_) (fun G4 h4 => ?_)
            · obtain ⟨sg, hC2⟩ := h
              obtain ⟨e1, t, he, rfl, ht⟩ := ms_ref hws lw2 wa hu
              have iu := (List.getElem?_eq_some_iff.mp he).1
              have e4 : (Nt.datas ts).length = ts.length := by rw [datas_map, List.length_map]
              refine ⟨t, _, rfl, SqT.mk (sg _ _ ht), rfl, _, _, rfl, _, _, rfl, rfl, rfl, yes_ite ?_⟩
              refine ⟨_, rfl, _, hC2, by rw [List.length_map, List.length_map, List.length_take]; omega, same_newer sg nC2, ?_⟩
              rw [upd_same, List.take_add_one, he, Option.toList_some, List.map_append, List.map_append]
              rfl
            obtain ⟨s4', hC2⟩ := h4
            rw [lw2, List.take_length] at hC2
            refine ⟨C2, _, rfl, SqL.mk hC2, _, _, rfl, rfl, ?_⟩
            refine ⟨.ref C, rfl, C, rfl, ⟨_, SqL.mk (s4' _ _ hC)⟩, fun C3 nC3 => ?_⟩
            refine lc_list (xs := ws) (fun i G' => Same G4 G' ∧ G' C3 = some (.lst ((((Nt.datas ts).take i).map fun e => ((dpt e : Nat) : Int)).map V.int))) ⟨same_upd nC3, upd_same⟩ (fun i G' _ h => SqL.mk (h.1 _ _ (s4' _ _ hC))) (fun i u G' hu h => ?_) (fun G5 h5 => ?_)
            · obtain ⟨sg, hC3⟩ := h
              obtain ⟨e1, t, he, rfl, ht⟩ := ms_ref hws lw2 wa hu
              have iu := (List.getElem?_eq_some_iff.mp he).1
              have e4 : (Nt.datas ts).length = ts.length := by rw [datas_map, List.length_map]
              refine ⟨t, _, rfl, SqT.mk (sg _ _ (s4' _ _ ht)), rfl, _, _, rfl, _, _, rfl, rfl, rfl, yes_ite ?_⟩
              refine ⟨_, rfl, _, hC3, by rw [List.length_map, List.length_map, List.length_take]; omega, same_newer sg nC3, ?_⟩
              rw [upd_same, List.take_add_one, he, Option.toList_some, List.map_append, List.map_append]
              rfl
            obtain ⟨s5, hC3⟩ := h5
            rw [lw2, List.take_length] at hC3
            refine ⟨C3, _, rfl, SqL.mk hC3, by rw [List.length_map]; omega, fun m hm hle => ?_⟩
            refine ⟨_, _, rfl, rfl, (show 2 ≤ sizeLine by decide), fun tr nr => ?_⟩
            have em : m = ((dptA (Nt.datas ts) : Nat) : Int) := by
              obtain ⟨x, hx, ex⟩ := dptA_max (xs := Nt.datas ts) (fun z => by rw [z] at l; have := n3.1; rw [List.length_nil] at l; omega)
              have l1 := hle _ (List.mem_map.mpr ⟨x, hx, rfl⟩)
              obtain ⟨y, hy, ey⟩ := List.mem_map.mp hm
              have l2 := (dptA_le (n := dptA (Nt.datas ts))).mp (Nat.le_refl _) y hy
              omega
            refine (q2 _ ((sHG.trans (s4'.trans s5)).trans (same_upd nr))).2 wa tr ?_
            rw [upd_same, sum_cast, em]
            rfl
def sp__law_measure (K : PySem.W.Frag) : Sp := spr__law_measure 16 K
theorem ok__law_measure (T : Defs K mg) (TT : Tabs T base) : FnOk P w K mg base CX0 17 T.f__law_measure T.fd__law_measure ["_law_thing"] (sp__law_measure K) := okr__law_measure T TT 16
/-! what is due for a text -/
mutual
theorem ndata_inj : ∀ t u : Nt, t.data = u.data → t = u
  | .num n, .num m, h => by
    have h : PyData.int (n : Nat) = .int (m : Nat) := h
    injection h with h
    rw [show n = m by omega]
  | .num n, .node w us, h => by
    have h : PyData.int (n : Nat) = (if w = "table" then .tuple [.str "table", .tuple (Nt.datas us)] else .tuple (.str w :: Nt.datas us)) := h
    split at h <;> cases h
  | .node w ts, .num m, h => by
    have h : (if w = "table" then PyData.tuple [.str "table", .tuple (Nt.datas ts)] else .tuple (.str w :: Nt.datas ts)) = .int (m : Nat) := h
    split at h <;> cases h
  | .node w ts, .node v us, h => by
    by_cases e1 : w = "table"
    · by_cases e2 : v = "table"
      · rw [e1, e2, tbl_data, tbl_data] at h
        injection h with h
        injection h with _ h
        injection h with h _
        injection h with h
        rw [e1, e2, ndatas_inj ts us h]
      · rw [e1, tbl_data, node_data e2] at h
        injection h with h
        injection h with h _
        injection h with h
        exact absurd h.symm e2
    · by_cases e2 : v = "table"
      · rw [e2, tbl_data, node_data e1] at h
        injection h with h
        injection h with h _
        injection h with h
        exact absurd h e1
      · rw [node_data e1, node_data e2] at h
        injection h with h
        injection h with h1 h2
        injection h1 with h1
        rw [h1, ndatas_inj ts us h2]
theorem ndatas_inj : ∀ ts us : List Nt, Nt.datas ts = Nt.datas us → ts = us
  | [], [], _ => rfl
  | [], _ :: _, h => by cases h
  | _ :: _, [], h => by cases h
  | t :: ts, u :: us, h => by
    have h : t.data :: Nt.datas ts = u.data :: Nt.datas us := h
    injection h with h1 h2
    rw [ndata_inj t u h1, ndatas_inj ts us h2]
end
def wsM : List Str := ["slow", "slip", "late"]
def wsF : List Str := ["less", "both", "either", "oneof", "pick"]
theorem th_succ {ws : List Str} {D : Nat} {w : Str} {ts : List Nt} (h : WdOk w) (g : ∀ t, t ∈ ts → ItC (ThC ws D) (w ∈ ws) t) : ThC ws (D + 1) (.node w ts) := ⟨fun c hc => decide_eq_true (h.2 c hc), g⟩
theorem th_zero {ws : List Str} {w : Str} {ts : List Nt} (h : WdOk w) (g : ∀ t, t ∈ ts → ItC (fun _ => False) (w ∈ ws) t) : ThC ws 0 (.node w ts) := ⟨fun c hc => decide_eq_true (h.2 c hc), g⟩
theorem th_any {ws : List Str} {w : Str} {ts : List Nt} (h : WdOk w) (g : ∀ t, t ∈ ts → ∃ n, t = .num n ∧ n < 1000) : ∀ D, ThC ws D (.node w ts)
  | 0 => th_zero h fun t ht => by
    obtain ⟨n, rfl, l⟩ := g t ht
    exact l
  | _ + 1 => th_succ h fun t ht => by
    obtain ⟨n, rfl, l⟩ := g t ht
    exact l
theorem itC_nt {m : Mk} {ws : List Str} {D : Nat} {b : Prop} (hb : b) (h : ThC ws D m.nt) : ItC (ThC ws D) b m.nt := by
  rw [mnt_node m] at h ⊢
  exact ⟨hb, h⟩
theorem mk_th : ∀ {m : Mk} (D : Nat), m.Ok → m.dep ≤ D → ThC wsM D m.nt
  | .counter r s t, D, ok, _ => by
    obtain ⟨h1, h2, h3, h4⟩ : 1 ≤ r ∧ r ≤ 64 ∧ s ≤ 64 ∧ t < r := ok
    refine th_any wo_counter (fun x hx => ?_) D
    simp only [List.mem_cons, List.not_mem_nil, or_false] at hx
    rcases hx with rfl | rfl | rfl <;> exact ⟨_, rfl, by omega⟩
  | .turned w s, D, ok, _ => by
    obtain ⟨h1, h2, h3⟩ : 1 ≤ w ∧ w ≤ 6 ∧ s < 2 ^ w := ok
    have p := Nat.pow_le_pow_right (n := 2) (by decide) h2
    refine th_any wo_turned (fun x hx => ?_) D
    simp only [List.mem_cons, List.not_mem_nil, or_false] at hx
    rcases hx with rfl | rfl <;> exact ⟨_, rfl, by omega⟩
  | .register w q s, D, ok, _ => by
    obtain ⟨⟨g1, g2, g3, g4⟩, h1, h2⟩ : RgW w q ∧ 1 ≤ s ∧ s < 2 ^ w := ok
    have p := Nat.pow_le_pow_right (n := 2) (by decide) g2
    refine th_any wo_register (fun x hx => ?_) D
    simp only [List.mem_cons, List.not_mem_nil, or_false] at hx
    rcases hx with rfl | rfl | rfl <;> exact ⟨_, rfl, by omega⟩
  | .table ns, D, ok, _ => by
    obtain ⟨h1, h2, h3⟩ : 1 ≤ ns.length ∧ ns.length ≤ 64 ∧ ∀ x, x ∈ ns → 0 ≤ x ∧ x ≤ 63 := ok
    refine th_any wo_table (fun x hx => ?_) D
    obtain ⟨n, hn, rfl⟩ := List.mem_map.mp hx
    have := h3 n hn
    exact ⟨_, rfl, by omega⟩
  | .slow n m, 0, _, h => by simp only [Mk.dep] at h; omega
  | .slip n m, 0, _, h => by simp only [Mk.dep] at h; omega
  | .late n m, 0, _, h => by simp only [Mk.dep] at h; omega
  | .slow n m, D + 1, ok, h => by
    obtain ⟨h1, h2, h3⟩ : 1 ≤ n ∧ n ≤ 64 ∧ m.Ok := ok
    have ih := mk_th (m := m) D h3 (by simp only [Mk.dep] at h; omega)
    refine th_succ wo_slow fun x hx => ?_
    simp only [List.mem_cons, List.not_mem_nil, or_false] at hx
    rcases hx with rfl | rfl
    · show n < 1000
      omega
    · exact itC_nt (by decide +kernel) ih
  | .slip n m, D + 1, ok, h => by
    obtain ⟨h1, h2, h3⟩ : 1 ≤ n ∧ n ≤ 64 ∧ m.Ok := ok
    have ih := mk_th (m := m) D h3 (by simp only [Mk.dep] at h; omega)
    refine th_succ wo_slip fun x hx => ?_
    simp only [List.mem_cons, List.not_mem_nil, or_false] at hx
    rcases hx with rfl | rfl
    · show n < 1000
      omega
    · exact itC_nt (by decide +kernel) ih
  | .late n m, D + 1, ok, h => by
    obtain ⟨h2, h3⟩ : n ≤ 64 ∧ m.Ok := ok
    have ih := mk_th (m := m) D h3 (by simp only [Mk.dep] at h; omega)
    refine th_succ wo_late fun x hx => ?_
    simp only [List.mem_cons, List.not_mem_nil, or_false] at hx
    rcases hx with rfl | rfl
    · show n < 1000
      omega
    · exact itC_nt (by decide +kernel) ih
theorem itC_fm {f : Fm} {ws : List Str} {D : Nat} {b : Prop} (hb : b) (h : ThC ws D f.nt) : ItC (ThC ws D) b f.nt := by
  rw [fnt_node f] at h ⊢
  exact ⟨hb, h⟩
theorem fm_th : ∀ (f : Fm) (D : Nat), (∀ i, i ∈ f.ins → i < 6) → f.dep ≤ D → ThC wsF D f.nt
  | .inp i, D, h, _ => by
    have := h i List.mem_cons_self
    refine th_any wo_in (fun x hx => ?_) D
    simp only [List.mem_cons, List.not_mem_nil, or_false] at hx
    rw [hx]
    exact ⟨_, rfl, by omega⟩
  | .less f, 0, _, l => by simp only [Fm.dep] at l; omega
  | .both f g, 0, _, l => by simp only [Fm.dep] at l; omega
  | .either f g, 0, _, l => by simp only [Fm.dep] at l; omega
  | .oneof f g, 0, _, l => by simp only [Fm.dep] at l; omega
  | .pick f g k, 0, _, l => by simp only [Fm.dep] at l; omega
  | .less f, D + 1, h, l => by
    have a := fm_th f D h (by simp only [Fm.dep] at l; omega)
    refine th_succ wo_less fun x hx => ?_
    simp only [List.mem_cons, List.not_mem_nil, or_false] at hx
    rw [hx]
    exact itC_fm (by decide +kernel) a
  | .both f g, D + 1, h, l => by
    have a := fm_th f D (fun i hi => h i (List.mem_append_left _ hi)) (by simp only [Fm.dep] at l; omega)
    have b := fm_th g D (fun i hi => h i (List.mem_append_right _ hi)) (by simp only [Fm.dep] at l; omega)
    refine th_succ wo_both fun x hx => ?_
    simp only [List.mem_cons, List.not_mem_nil, or_false] at hx
    rcases hx with rfl | rfl
    · exact itC_fm (by decide +kernel) a
    · exact itC_fm (by decide +kernel) b
  | .either f g, D + 1, h, l => by
    have a := fm_th f D (fun i hi => h i (List.mem_append_left _ hi)) (by simp only [Fm.dep] at l; omega)
    have b := fm_th g D (fun i hi => h i (List.mem_append_right _ hi)) (by simp only [Fm.dep] at l; omega)
    refine th_succ wo_either fun x hx => ?_
    simp only [List.mem_cons, List.not_mem_nil, or_false] at hx
    rcases hx with rfl | rfl
    · exact itC_fm (by decide +kernel) a
    · exact itC_fm (by decide +kernel) b
  | .oneof f g, D + 1, h, l => by
    have a := fm_th f D (fun i hi => h i (List.mem_append_left _ hi)) (by simp only [Fm.dep] at l; omega)
    have b := fm_th g D (fun i hi => h i (List.mem_append_right _ hi)) (by simp only [Fm.dep] at l; omega)
    refine th_succ wo_oneof fun x hx => ?_
    simp only [List.mem_cons, List.not_mem_nil, or_false] at hx
    rcases hx with rfl | rfl
    · exact itC_fm (by decide +kernel) a
    · exact itC_fm (by decide +kernel) b
  | .pick f g k, D + 1, h, l => by
    have a := fm_th f D (fun i hi => h i (List.mem_append_left _ hi)) (by simp only [Fm.dep] at l; omega)
    have b := fm_th g D (fun i hi => h i (List.mem_append_right _ (List.mem_append_left _ hi))) (by simp only [Fm.dep] at l; omega)
    have c := fm_th k D (fun i hi => h i (List.mem_append_right _ (List.mem_append_right _ hi))) (by simp only [Fm.dep] at l; omega)
    refine th_succ wo_pick fun x hx => ?_
    simp only [List.mem_cons, List.not_mem_nil, or_false] at hx
    rcases hx with rfl | rfl | rfl
    · exact itC_fm (by decide +kernel) a
    · exact itC_fm (by decide +kernel) b
    · exact itC_fm (by decide +kernel) c
def AcD (k : Nat) (z : Str) (d : PyData) : Prop := match k with
  | 0 => ∃ bs, GdR bs ∧ z = rowS bs ∧ d = .tuple (bs.map PyData.int)
  | 1 => ∃ m, GdM m ∧ z = m.txt ∧ d = mkd m
  | _ => ∃ f, GdF f ∧ z = f.txt ∧ d = f.data
theorem endOk_nil : EndOk [] := fun _ h => by cases h
theorem mk_full {m : Mk} (h : GdM m) : thingAt wsM 12 (TL.tl m.txt) = some (m.nt, []) := by
  have th := mk_th 12 h.ok (Nat.le_trans h.dp (by decide))
  unfold Mk.txt
  rw [mnt_node m] at th ⊢
  have := thingAt_full wsM 12 _ _ [] th endOk_nil
  rw [List.append_nil] at this
  rw [ntx_tl]
  exact this
theorem fm_full {f : Fm} (h : GdF f) : thingAt wsF 12 (TL.tl f.txt) = some (f.nt, []) := by
  have th := fm_th f 12 h.ins (Nat.le_trans h.dp (by decide))
  unfold Fm.txt
  rw [fnt_node f] at th ⊢
  have := thingAt_full wsF 12 _ _ [] th endOk_nil
  rw [List.append_nil] at this
  rw [ntx_tl]
  exact this
theorem mk_back {z : Str} {t : Nt} {m : Mk} (h : GdM m) (e : thingAt wsM 12 (TL.tl z) = some (t, [])) (ed : t.data = mkd m) : z = m.txt := by
  obtain ⟨w, ts, rfl, _, e2⟩ := thingAt_sound wsM 12 _ _ _ e
  rw [List.append_nil] at e2
  rw [← mnt_data h.ok] at ed
  have := ndata_inj _ _ ed
  refine TL.ext_tl ?_
  unfold Mk.txt
  rw [ntx_tl, ← this]
  exact e2
theorem fm_back {z : Str} {t : Nt} {f : Fm} (e : thingAt wsF 12 (TL.tl z) = some (t, [])) (ed : t.data = f.data) : z = f.txt := by
  obtain ⟨w, ts, rfl, _, e2⟩ := thingAt_sound wsF 12 _ _ _ e
  rw [List.append_nil] at e2
  rw [← fnt_data f] at ed
  have := ndata_inj _ _ ed
  refine TL.ext_tl ?_
  unfold Fm.txt
  rw [ntx_tl, ← this]
  exact e2
/-! what is read is not too deep -/
theorem datas_mem {ts : List Nt} {d : PyData} (h : d ∈ Nt.datas ts) : ∃ t, t ∈ ts ∧ t.data = d := by
  rw [datas_map] at h
  exact List.mem_map.mp h
theorem node_gd {w : Str} {ts : List Nt} {n : Nat} (hw : ∀ c, c ∈ TL.tl w → isLb c = true) (h : ∀ t, t ∈ ts → gd 21 t.data = true ∧ t.data.depth ≤ n) : gd 21 (Nt.node w ts).data = true ∧ (Nt.node w ts).data.depth ≤ n + 2 := by
  have gw : gd 21 (.str w) = true := by
    simp only [gd]
    exact strOk_of fun c hc => by
      have := of_decide_eq_true (hw c hc)
      omega
  rw [← shp_node]
  refine shp_ok fun d hd => ?_
  rcases List.mem_cons.mp hd with rfl | hd
  · exact ⟨gw, by simp only [PyData.depth]; omega⟩
  · obtain ⟨t, ht, rfl⟩ := datas_mem hd
    exact h t ht
theorem num_gd {n k : Nat} (h : n < 1000) : gd 21 (Nt.num n).data = true ∧ (Nt.num n).data.depth ≤ k := by
  refine ⟨?_, by show (PyData.int (n : Nat)).depth ≤ k; simp only [PyData.depth]; omega⟩
  show gd 21 (.int (n : Nat)) = true
  simp only [gd]
  refine decide_eq_true ?_
  have : (1000 : Nat) ≤ 10 ^ 21 := by decide
  rw [Int.natAbs_natCast]
  omega
theorem th_gd (ws : List Str) : ∀ (D : Nat) (t : Nt), ThC ws D t → gd 21 t.data = true ∧ t.data.depth ≤ 2 * D + 2 ∧ t.dep ≤ D + 1
  | D, .num n, h => by cases D <;> exact absurd h id
  | 0, .node w ts, h => by
    obtain ⟨hw, hts⟩ := h
    have all : ∀ t, t ∈ ts → (gd 21 t.data = true ∧ t.data.depth ≤ 0) ∧ t.dep = 0 := fun t ht => by
      have := hts t ht
      cases t with
      | num n => exact ⟨num_gd this, rfl⟩
      | node w' us => exact this.2.elim
    have a := node_gd hw fun t ht => (all t ht).1
    refine ⟨a.1, a.2, ?_⟩
    show Nt.deps ts + 1 ≤ 1
    have : ∀ us : List Nt, (∀ t, t ∈ us → t.dep = 0) → Nt.deps us = 0 := fun us => by
      induction us with
      | nil => intro _; rfl
      | cons t us ih =>
        intro h
        show max t.dep (Nt.deps us) = 0
        rw [h t List.mem_cons_self, ih fun x hx => h x (List.mem_cons_of_mem _ hx)]
        rfl
    rw [this ts fun t ht => (all t ht).2]
    exact Nat.le_refl _
  | D + 1, .node w ts, h => by
    obtain ⟨hw, hts⟩ := h
    have all : ∀ t, t ∈ ts → (gd 21 t.data = true ∧ t.data.depth ≤ 2 * D + 2) ∧ t.dep ≤ D + 1 := fun t ht => by
      have := hts t ht
      cases t with
      | num n => exact ⟨num_gd this, Nat.zero_le _⟩
      | node w' us =>
        obtain ⟨a, b, c⟩ := th_gd ws D _ this.2
        exact ⟨⟨a, b⟩, c⟩
    have a := node_gd hw fun t ht => (all t ht).1
    refine ⟨a.1, by have := a.2; omega, ?_⟩
    show Nt.deps ts + 1 ≤ D + 1 + 1
    have : ∀ us : List Nt, (∀ t, t ∈ us → t.dep ≤ D + 1) → Nt.deps us ≤ D + 1 := fun us => by
      induction us with
      | nil => intro _; exact Nat.zero_le _
      | cons t us ih =>
        intro h
        have h1 := h t List.mem_cons_self
        have h2 := ih fun x hx => h x (List.mem_cons_of_mem _ hx)
        show max t.dep (Nt.deps us) ≤ _
        omega
    have := this ts fun t ht => (all t ht).2
    omega
mutual
theorem sm_of : ∀ t : Nt, t.itL.length ≤ 1000000 → t.Sm1
  | .num _, _ => trivial
  | .node w ts, h => by
    have h : (40 :: ((TL.tl w ++ Nt.itsL ts) ++ [41])).length ≤ 1000000 := h
    rw [List.length_cons, List.length_append, List.length_append] at h
    have := its_len ts
    simp only [Nt.Sm1]
    exact ⟨by omega, sms_of ts (by omega)⟩
theorem sms_of : ∀ ts : List Nt, (Nt.itsL ts).length ≤ 1000000 → Nt.Sm ts
  | [], _ => trivial
  | t :: ts, h => by
    have h : (32 :: (t.itL ++ Nt.itsL ts)).length ≤ 1000000 := h
    rw [List.length_cons, List.length_append] at h
    simp only [Nt.Sm]
    exact ⟨sm_of t (by omega), sms_of ts (by omega)⟩
end
def bitB (c : Nat) : Bool := decide (c ∈ ("01" : Str).cps.toList)
theorem bitB_is {c : Nat} (h : bitB c = true) : c = 48 ∨ c = 49 := by
  have h := of_decide_eq_true h
  have e : ("01" : Str).cps.toList = [48, 49] := by decide +kernel
  rw [e] at h
  simpa using h
theorem row_all {z : Str} (l : 1 ≤ z.length ∧ z.length ≤ 4096) (h : (TL.tl z).all bitB = true) : GdR ((TL.tl z).map fun c => ((c - 48 : Nat) : Int)) ∧ z = rowS ((TL.tl z).map fun c => ((c - 48 : Nat) : Int)) := by
  have al := List.all_eq_true.mp h
  have b : Bits ((TL.tl z).map fun c => ((c - 48 : Nat) : Int)) := fun x hx => by
    obtain ⟨c, hc, rfl⟩ := List.mem_map.mp hx
    rcases bitB_is (al c hc) with rfl | rfl
    · exact .inl rfl
    · exact .inr rfl
  have tz : (TL.tl z).length = z.length := (TL.len_tl z).symm
  refine ⟨⟨b, by rw [List.length_map]; omega, by rw [List.length_map]; omega⟩, TL.ext_tl ?_⟩
  rw [tl_rowS b, List.map_map]
  refine (List.map_id _).symm.trans (List.map_inj_left.mpr fun c hc => ?_)
  rcases bitB_is (al c hc) with rfl | rfl <;> rfl
theorem row_ac {z : Str} {d : PyData} (h : AcD 0 z d) : 1 ≤ z.length ∧ z.length ≤ 4096 ∧ (TL.tl z).all bitB = true := by
  obtain ⟨bs, g, rfl, _⟩ := h
  rw [rowS_len g.bit, tl_rowS g.bit]
  refine ⟨g.l1, g.l2, List.all_eq_true.mpr fun x hx => ?_⟩
  obtain ⟨b, hb, rfl⟩ := List.mem_map.mp hx
  rcases g.bit b hb with rfl | rfl <;> decide +kernel
def sp__law_due (_ : PySem.W.Frag) : Sp := fun vs H Q _ => ∃ (k : Nat) (z : Str), vs = [.int (k : Nat), .str z] ∧ k ≤ 2 ∧ ZOk z ∧ (∀ d, AcD k z d → ∀ H' v, Same H H' → Tg (fun _ => False) H' v d → Q v H') ∧ ((∀ d, ¬ AcD k z d) → ∀ H', Same H H' → Q .non H')
theorem ok__law_due (T : Defs K mg) (TT : Tabs T base) : FnOk P w K mg base CX0 24 T.f__law_due T.fd__law_due ["_law_which", "_law_text"] (sp__law_due K) := by
  have G__law_thing_at : FnOk P w K mg base CX0 23 T.f__law_thing_at T.fd__law_thing_at ["_law_text", "_law_at", "_law_words", "_law_deep"] (sp__law_thing_at K) := ok__law_thing_at T TT
  have G__law_measure : FnOk P w K mg base CX0 17 T.f__law_measure T.fd__law_measure ["_law_thing"] (sp__law_measure K) := ok__law_measure T TT
  have G__law_clauses : FnOk P w K mg base CX0 9 T.f__law_clauses T.fd__law_clauses ["_law_thing", "_law_left"] (sp__law_clauses K) := ok__law_clauses T TT
  have G__law_round : FnOk P w K mg base CX0 9 T.f__law_round T.fd__law_round ["_law_maker_here"] (sp__law_round K) := ok__law_round T TT
  refine T.F__law_due.ok sc__law_due (fun vs H Q E h => ?_) (fun cdv A outer s H vs Q E hr h => ?_)
  · obtain ⟨k, z, rfl, hk, hz, q1, q0⟩ := h
    rfl
  · obtain ⟨k, z, rfl, hk, hz, q1, q0⟩ := h
    refine ⟨_, PSs.nox (pss_cons (ps_if (pt_cmpR op_eq (pv 0) pe_int (nomark _)) (pss_cons (ps_set (i := 2) sc__law_due.nd rfl (.inl rfl) (pe_and (pe_chain op_lt op_lt pe_int (pe_callB call_len_str (by rfl) T.m_len bt_len (pa_cons (pv 1) pa_nil)) pe_int) (pe_one (pe_callB (cr_all rfl) (by rfl) T.m_all bt_all (pa_cons (pe_lc (own := [("_law_sign", 6)]) (g := gName 6) (tt := tYes) rfl sc__law_due.nd (pi_str (pv 1)) (blkOk_by (N := N__law_due) (sc := defScope s__law_due) (by decide +kernel)) (fun _ _ _ _ _ => (pg_name (i := 6) sc__law_due.nd rfl (.inl rfl))) (fun _ _ _ _ _ => pts_nil) (fun _ _ _ _ _ => (pe_cmpR L2.op_inS (pv 6) pe_str rfl))) pa_nil)))))
    (pss_one (ps_ret (pe_ifExp (pt_val (pv 2)) (pe_callTy call_tuple_of (by rfl) T.m_tuple bt_tuple (pa_cons (pe_lc (own := [("_law_sign", 6)]) (g := gName 6) (tt := tYes) rfl sc__law_due.nd (pi_str (pv 1)) (blkOk_by (N := N__law_due) (sc := defScope s__law_due) (by decide +kernel)) (fun _ _ _ _ _ => (pg_name (i := 6) sc__law_due.nd rfl (.inl rfl))) (fun _ _ _ _ _ => pts_nil) (fun _ _ _ _ _ => (pe_callTy call_int_str (by rfl) T.m_int bt_int (pa_cons (pv 6) pa_nil)))) pa_nil)) pe_non)))) pss_nil)
    (pss_cons (ps_set (i := 3) sc__law_due.nd rfl (.inl rfl) (pe_ifExp (pt_cmpR op_eq (pv 0) pe_int (nomark _)) (pe_tup (pa_cons pe_str (pa_cons pe_str (pa_cons pe_str pa_nil)))) (pe_tup (pa_cons pe_str (pa_cons pe_str (pa_cons pe_str (pa_cons pe_str (pa_cons pe_str pa_nil))))))))
    (pss_cons (ps_set (i := 4) sc__law_due.nd rfl (.inl rfl) (pe_call G__law_thing_at (hr.mono (by decide)) (by rfl) T.g__law_thing_at T.F__law_thing_at.kp T.b__law_thing_at .nil pass0 (pa_cons (pv 1) (pa_cons pe_int (pa_cons (pv 3) (pa_cons pe_int pa_nil))))))
    (pss_cons (ps_if (PW.pt (pw_or (pt_cmpR op_isN (pv 4) pe_non (nomark _)) (pw_or1 (pt_cmpR op_ne (pe_ix ix_tup (pv 4) pe_int (fun _ _ => rfl)) (pe_callB call_len_str (by rfl) T.m_len bt_len (pa_cons (pv 1) pa_nil)) (nomark _))))) (pss_one (ps_ret pe_non)) pss_nil)
    (pss_cons (ps_if (pt_cmpR op_eq (pv 0) pe_int (nomark _)) (pss_one (ps_ret (pe_ifExp (PW.pt (pw_and (pt_val (pe_call G__law_clauses (hr.mono (by decide)) (by rfl) T.g__law_clauses T.F__law_clauses.kp T.b__law_clauses .nil pass0 (pa_cons (pe_ix ix_tup (pv 4) pe_int (fun _ _ => rfl)) (pa_cons pe_int pa_nil)))) (pw_and1 (pt_cmpR op_le (pe_call G__law_round (hr.mono (by decide)) (by rfl) T.g__law_round T.F__law_round.kp T.b__law_round .nil pass0 (pa_cons (pe_ix ix_tup (pv 4) pe_int (fun _ _ => rfl)) pa_nil)) pe_int (nomark _))))) (pe_ix ix_tup (pv 4) pe_int (fun _ _ => rfl)) pe_non))) pss_nil)
    (pss_cons (ps_set (i := 5) sc__law_due.nd rfl (.inl rfl) (pe_call G__law_measure (hr.mono (by decide)) (by rfl) T.g__law_measure T.F__law_measure.kp T.b__law_measure .nil pass0 (pa_cons (pe_ix ix_tup (pv 4) pe_int (fun _ _ => rfl)) pa_nil)))
    (pss_one (ps_ret (pe_ifExp (PW.pt (pw_and (pt_cmpR op_notN (pv 5) pe_non (nomark _)) (pw_and (pt_cmpR op_lt (pe_ix ix_tup (pv 5) pe_int (fun _ _ => rfl)) pe_int (nomark _)) (pw_and1 (pt_cmpR op_lt (pe_ix ix_tup (pv 5) pe_int (fun _ _ => rfl)) pe_int (nomark _)))))) (pe_ix ix_tup (pv 4) pe_int (fun _ _ => rfl)) pe_non))))))))), ?_⟩
    have hsl : sizeLine = 16777216 := by decide
    have zl := hz.len
    have tz : (TL.tl z).length = z.length := (TL.len_tl z).symm
    refine ⟨_, rfl, rfl, _, rfl, ?_⟩
    by_cases k0 : k = 0
    · subst k0
      rw [decide_eq_true (show V.int ((0 : Nat) : Int) = V.int 0 from rfl)]
      refine iteT ?_
      have noL : ¬ (1 ≤ z.length ∧ z.length ≤ 4096) → ∀ d, ¬ AcD 0 z d := fun n d h => n ⟨(row_ac h).1, (row_ac h).2.1⟩
      refine ⟨_, rfl, z, rfl, by omega, _, _, rfl, rfl, _, rfl, ?_⟩
      by_cases c1 : 0 < z.length
      rotate_left
      · rw [decide_eq_false (show ¬ (0 : Int) < (z.length : Nat) by omega)]
        refine iteF ⟨_, rfl, ?_⟩
        refine ⟨_, rfl, ?_⟩
        exact ⟨_, rfl, iteF (q0 (noL (by omega)) _ (Same.refl H))⟩
      rw [decide_eq_true (show (0 : Int) < (z.length : Nat) by omega)]
      refine iteT ⟨_, _, rfl, rfl, _, rfl, ?_⟩
      by_cases c2 : z.length < 4097
      rotate_left
      · rw [decide_eq_false (show ¬ ((z.length : Nat) : Int) < 4097 by omega)]
        exact iteF ⟨_, rfl, _, rfl, iteF (q0 (noL (by omega)) _ (Same.refl H))⟩
      rw [decide_eq_true (show ((z.length : Nat) : Int) < 4097 by omega)]
      refine iteT ?_
      refine ⟨_, rfl, z, rfl, fun C nC => ?_⟩
      have sz : z.cps.size = (TL.tl z).length := Array.length_toList.symm
      refine lc_it (walk_str (z := z)) (fun i G => Same H G ∧ G C = some (.lst ((((TL.tl z).take i).map bitB).map V.bl))) ⟨same_upd nC, upd_same⟩ (fun i G _ h => trivial) (fun i v G G' hi h y => ?_) (fun G h => ?_)
      · obtain ⟨sG, hC⟩ := h
        obtain ⟨rfl, c, hc, rfl⟩ := y
        have ec : (TL.tl z)[i]? = some c := by
          show z.cps.toList[i]? = some c
          rw [Array.getElem?_toList]
          exact hc
        refine ⟨rfl, yes_ite ⟨_, rfl, c, _, rfl, rfl, _, hC, ?_, same_newer sG nC, ?_⟩⟩
        · rw [List.length_map, List.length_map, List.length_take]
          omega
        · rw [upd_same, List.take_add_one, ec, List.map_append, List.map_append]
          rfl
      obtain ⟨sG, hC⟩ := h
      rw [sz, List.take_length] at hC
      refine ⟨C, _, rfl, SqL.mk hC, ?_⟩
      have e1 : ((TL.tl z).map bitB).all id = (TL.tl z).all bitB := by
        rw [List.all_map]
        rfl
      rw [e1]
      cases ca : (TL.tl z).all bitB with
      | false => exact ⟨_, rfl, _, rfl, iteF (q0 (fun d h => by have := (row_ac h).2.2; rw [ca] at this; cases this) _ sG)⟩
      | true =>
        refine ⟨_, rfl, _, rfl, iteT ⟨_, rfl, z, rfl, fun C2 nC2 => ?_⟩⟩
        refine lc_it (walk_str (z := z)) (fun i G2 => Same G G2 ∧ G2 C2 = some (.lst ((((TL.tl z).take i).map fun c => ((c - 48 : Nat) : Int)).map V.int))) ⟨same_upd nC2, upd_same⟩ (fun i G _ h => trivial) (fun i v G G' hi h y => ?_) (fun G2 h => ?_)
        · obtain ⟨sG2, hC2⟩ := h
          obtain ⟨rfl, c, hc, rfl⟩ := y
          have ec : (TL.tl z)[i]? = some c := by
            show z.cps.toList[i]? = some c
            rw [Array.getElem?_toList]
            exact hc
          have c01 := bitB_is (List.all_eq_true.mp ca c (List.mem_of_getElem? ec))
          have ei : intText? (⟨#[c]⟩ : Str) = some ((c - 48 : Nat) : Int) := by
            rcases c01 with rfl | rfl <;> decide +kernel
          refine ⟨rfl, yes_ite ⟨_, rfl, _, _, rfl, ei, by show 1 ≤ 640; decide, _, hC2, ?_, same_newer sG2 nC2, ?_⟩⟩
          · rw [List.length_map, List.length_map, List.length_take]
            omega
          · rw [upd_same, List.take_add_one, ec, List.map_append, List.map_append]
            rfl
        obtain ⟨sG2, hC2⟩ := h
        rw [sz, List.take_length] at hC2
        obtain ⟨g, ez⟩ := row_all ⟨c1, by omega⟩ ca
        refine ⟨C2, _, rfl, .inl ⟨SqL.mk hC2, fun t nt => ?_⟩⟩
        exact q1 _ ⟨_, g, ez, rfl⟩ _ _ (sG.trans (sG2.trans (same_upd nt))) (.tup id (by exact upd_same) (tg_ints _))
    rw [decide_eq_false (show ¬ V.int (k : Nat) = V.int 0 from fun e => k0 (by have := V.int.inj e; omega))]
    refine iteF ?_
    have hk' : k = 1 ∨ k = 2 := by omega
    refine nx_via (σ := [some (.int (k : Nat)), some (.str z), none, none, none, none, none]) (fun σ G => ∃ (a : Addr) (ws : List Str), σ = [some (.int (k : Nat)), some (.str z), none, some (.ref a), none, none, none] ∧ Same H G ∧ G a = some (.tup (ws.map V.str)) ∧ ((k = 1 ∧ ws = wsM) ∨ (k = 2 ∧ ws = wsF))) (fun N' hN' => ?_) ?_
    · refine ⟨_, rfl, rfl, _, rfl, ?_⟩
      rcases hk' with rfl | rfl
      · rw [decide_eq_true (show V.int ((1 : Nat) : Int) = V.int 1 from rfl)]
        exact iteT ⟨(show 3 ≤ sizeLine by decide), fun t nt => hN' _ _ ⟨t, wsM, rfl, same_upd nt, upd_same, .inl ⟨rfl, rfl⟩⟩⟩
      · rw [decide_eq_false (show ¬ V.int ((2 : Nat) : Int) = V.int 1 from fun e => by have := V.int.inj e; omega)]
        exact iteF ⟨(show 5 ≤ sizeLine by decide), fun t nt => hN' _ _ ⟨t, wsF, rfl, same_upd nt, upd_same, .inr ⟨rfl, rfl⟩⟩⟩
    rintro σ G ⟨a, ws, rfl, sG, ha, hws⟩
    have full : ∀ d, AcD k z d → ∃ t, thingAt ws 12 (TL.tl z) = some (t, []) ∧ t.data = d := fun d h => by
      rcases hws with ⟨rfl, rfl⟩ | ⟨rfl, rfl⟩
      · obtain ⟨m, g, rfl, rfl⟩ := h
        exact ⟨m.nt, mk_full g, mnt_data g.ok⟩
      · obtain ⟨f, g, rfl, rfl⟩ := h
        exact ⟨f.nt, fm_full g, fnt_data f⟩
    refine ⟨_, rfl, _, rfl, z, 0, a, 0, ws, (fun _ => False), rfl, Nat.zero_le _, by omega, ha, by decide, by decide, fun b hb => hb.elim, fun t e et G2 u v m s2 hu tg hm hdm => ?_, fun en G2 s2 => ?_⟩
    rotate_left
    · refine ⟨_, rfl, rfl, _, rfl, ?_⟩
      rw [decide_eq_true rfl]
      refine iteT (iteT (q0 (fun d h => ?_) _ (sG.trans s2)))
      obtain ⟨t, e, _⟩ := full d h
      rw [show (TL.tl z).drop 0 = TL.tl z from rfl, e] at en
      cases en
    have et : thingAt ws 12 (TL.tl z) = some (t, e) := et
    refine ⟨_, rfl, rfl, _, rfl, ?_⟩
    rw [decide_eq_false (show ¬ V.ref u = V.non from fun z => by cases z)]
    refine iteF ⟨.ref u, rfl, u, _, 1, _, rfl, rfl, SqT.mk hu, rfl, _, rfl, z, rfl, by omega, rfl, _, rfl, ?_⟩
    by_cases cm : m = z.length
    rotate_left
    · rw [decide_eq_false (show ¬ V.int (m : Nat) = V.int (z.length : Nat) from fun e => cm (by have := V.int.inj e; omega))]
      refine iteT (q0 (fun d h => ?_) _ (sG.trans s2))
      obtain ⟨t', e', _⟩ := full d h
      rw [et] at e'
      injection e' with e'
      injection e' with _ e'
      rw [e'] at hdm
      have := congrArg List.length hdm
      rw [List.length_drop, List.length_nil] at this
      omega
    rw [decide_eq_true (show V.int (m : Nat) = V.int (z.length : Nat) from congrArg V.int (by omega))]
    have e0 : e = [] := by rw [← hdm, cm]; exact List.drop_of_length_le (by omega)
    subst e0
    obtain ⟨w', ts, rfl, thc, ez⟩ := thingAt_sound ws 12 _ _ _ et
    obtain ⟨g1, g2, g3⟩ := th_gd ws 12 _ thc
    rw [List.append_nil] at ez
    refine iteF ⟨_, rfl, rfl, _, rfl, ?_⟩
    rcases hws with ⟨rfl, rfl⟩ | ⟨rfl, rfl⟩
    · rw [decide_eq_true (show V.int ((1 : Nat) : Int) = V.int 1 from rfl)]
      refine iteT ⟨.ref u, rfl, u, _, 0, _, rfl, rfl, SqT.mk hu, rfl, (fun _ => False), v, (Nt.node w' ts).data, 3, 21, 26, (Nt.node w' ts).data.weight, rfl, tg, ⟨g1, g2, Nat.le_refl _⟩, by decide, by decide, fun G3 r s3 hr => ⟨_, rfl, ?_⟩⟩
      cases r with
      | false =>
        refine iteF (iteF (q0 (fun d h => ?_) _ (sG.trans (s2.trans s3))))
        obtain ⟨t', e', ed⟩ := full d h
        rw [et] at e'
        injection e' with e'
        injection e' with e' _
        obtain ⟨m', gm, _, rfl⟩ := h
        have := hr.mpr ⟨m', by rw [e', ed], gm.ok, gm.vd, gm.dp⟩
        cases this
      | true =>
        obtain ⟨mk, edt, ok, vd, dp⟩ := hr.mp rfl
        have tg3 := tg.same s3
        rw [edt] at tg3
        have hu3 := s3 _ _ hu
        refine iteT ⟨.ref u, rfl, u, _, 0, _, rfl, rfl, SqT.mk hu3, rfl, mk, v, rfl, tg_mk tg3, ok, bs_of ok, by omega, fun G4 s4 => ⟨_, _, rfl, rfl, _, rfl, ?_⟩⟩
        by_cases rn : mk.rnd ≤ 4096
        · rw [decide_eq_true (show ((mk.rnd : Nat) : Int) ≤ 4096 by omega)]
          have gm : GdM mk := ⟨ok, vd, dp, rn⟩
          exact iteT ⟨.ref u, rfl, u, _, 0, _, rfl, rfl, SqT.mk (s4 _ _ hu3), rfl, q1 _ ⟨mk, gm, mk_back gm et edt, rfl⟩ _ _ (sG.trans (s2.trans (s3.trans s4))) (tg3.same s4)⟩
        · rw [decide_eq_false (show ¬ ((mk.rnd : Nat) : Int) ≤ 4096 by omega)]
          refine iteF (q0 (fun d h => ?_) _ (sG.trans (s2.trans (s3.trans s4))))
          obtain ⟨t', e', ed⟩ := full d h
          rw [et] at e'
          injection e' with e'
          injection e' with e' _
          obtain ⟨m', gm, _, rfl⟩ := h
          rw [← e', edt] at ed
          rw [mkd_inj ed] at rn
          exact rn gm.rn
    · rw [decide_eq_false (show ¬ V.int ((2 : Nat) : Int) = V.int 1 from fun e => by have := V.int.inj e; omega)]
      have lz : (nodeL w' ts).length ≤ 1000000 := by
        have := congrArg List.length ez
        have e5 : (TL.tl z).length = (nodeL w' ts).length := this
        omega
      have l2 : (Nt.itsL ts).length ≤ 1000000 := by
        unfold nodeL at lz
        rw [List.length_append] at lz
        omega
      have l3 := its_len ts
      have ok1 : ∀ d, AcD 2 z d → isF (Nt.node w' ts).data = true := fun d h => by
        obtain ⟨t', e', ed⟩ := full d h
        rw [et] at e'
        injection e' with e'
        injection e' with e' _
        obtain ⟨f, gf, _, rfl⟩ := h
        rw [e', ed]
        exact gf.is
      refine iteF ⟨.ref u, rfl, u, _, 0, _, rfl, rfl, SqT.mk hu, rfl, (fun _ => False), v, w', ts, rfl, tg, by omega, by omega, sms_of ts l2, fun G3 s3 => ⟨fun w0 => ?_, fun w0 t3 ht3 => ?_⟩⟩
      · refine ⟨_, rfl, rfl, _, rfl, ?_⟩
        rw [decide_eq_true rfl]
        refine iteF (iteF (q0 (fun d h => ?_) _ (sG.trans (s2.trans s3))))
        have := ok1 d h
        unfold isF at this
        rw [w0] at this
        cases this
      · refine ⟨_, rfl, rfl, _, rfl, ?_⟩
        rw [decide_eq_false (show ¬ V.ref t3 = V.non from fun z => by cases z)]
        refine iteT ⟨.ref t3, rfl, t3, _, 0, _, rfl, rfl, SqT.mk ht3, rfl, _, _, rfl, rfl, _, rfl, ?_⟩
        have no : ¬ (siz (Nt.node w' ts).data < 25 ∧ dpt (Nt.node w' ts).data < 9) → ∀ d, ¬ AcD 2 z d := fun n d h => by
          have := ok1 d h
          unfold isF at this
          rw [w0, Bool.true_and, Bool.and_eq_true, decide_eq_true_eq, decide_eq_true_eq] at this
          exact n this
        by_cases c1 : siz (Nt.node w' ts).data < 25
        rotate_left
        · rw [decide_eq_false (show ¬ ((siz (Nt.node w' ts).data : Nat) : Int) < 25 by omega)]
          exact iteF (iteF (q0 (no fun h => c1 h.1) _ (sG.trans (s2.trans s3))))
        rw [decide_eq_true (show ((siz (Nt.node w' ts).data : Nat) : Int) < 25 by omega)]
        refine iteT ⟨.ref t3, rfl, t3, _, 1, _, rfl, rfl, SqT.mk ht3, rfl, _, _, rfl, rfl, _, rfl, ?_⟩
        by_cases c2 : dpt (Nt.node w' ts).data < 9
        rotate_left
        · rw [decide_eq_false (show ¬ ((dpt (Nt.node w' ts).data : Nat) : Int) < 9 by omega)]
          exact iteF (q0 (no fun h => c2 h.2) _ (sG.trans (s2.trans s3)))
        rw [decide_eq_true (show ((dpt (Nt.node w' ts).data : Nat) : Int) < 9 by omega)]
        have isf : isF (Nt.node w' ts).data = true := by
          unfold isF
          rw [w0, decide_eq_true c1, decide_eq_true c2]
          rfl
        obtain ⟨f, ef, gf⟩ := isF_is isf
        have tg3 := tg.same s3
        rw [← ef] at tg3
        exact iteT ⟨.ref u, rfl, u, _, 0, _, rfl, rfl, SqT.mk (s3 _ _ hu), rfl, q1 _ ⟨f, gf, fm_back et ef.symm, rfl⟩ _ _ (sG.trans (s2.trans s3)) tg3⟩
def rIsE (K : PySem.W.Frag) : List V → Hp → VK → Prop := fun xs H Q => rIsiT K xs H Q ∨ rIsKT K xs H Q
theorem call_isE {X : Cx} : CallR X (.builtin "isinstance") (rIsE X.K) := by
  intro pins s σ H xs us Q I r h
  rcases h with h | h
  · exact call_isiT pins s σ H xs us Q I r h
  · exact call_isKT pins s σ H xs us Q I r h
theorem none_of {t c1 c2 c3 c4 c5 : Value} (h1 : PySem.W.kitOne K t c1 = some false) (h2 : PySem.W.kitOne K t c2 = some false) (h3 : PySem.W.kitOne K t c3 = some false) (h4 : PySem.W.kitOne K t c4 = some false) (h5 : PySem.W.kitOne K t c5 = some false) : PySem.W.kitAny K t [c1, c2, c3, c4, c5] = some false :=
  kitAny_cons h1 (fun _ => kitAny_cons h2 (fun _ => kitAny_cons h3 (fun _ => kitAny_cons h4 (fun _ => kitAny_cons h5 (fun _ => rfl) (fun z => by cases z)) (fun z => by cases z)) (fun z => by cases z)) (fun z => by cases z)) (fun z => by cases z)
def sp__law_told {K : PySem.W.Frag} {mg : Str → Option Value} (T : Defs K mg) : Sp := fun vs H Q _ => ∃ (k : Nat) (z : Str), vs = [.int (k : Nat), .str z] ∧ k ≤ 2 ∧ ZOk z ∧ GxR.TabG H T.P_is_row ∧ GxR.TabG H T.P_is_table ∧ GxR.TabG H T.P_row_from ∧ (∀ d, AcD k z d → ∀ H' v, Sam H H' → Tg (fun _ => False) H' v d → Q v H') ∧ ((∀ d, ¬ AcD k z d) → ∀ H', Sam H H' → Q .non H')
theorem ok__law_told (T : Defs K mg) (TT : Tabs T base) : FnOk P w K mg base CX0 12 T.f__law_told T.fd__law_told ["_law_which", "_law_text"] (sp__law_told T) := by
  have G_row_from : FnOk P w K mg base (L2.CX P w) 6 T.f_row_from T.fd_row_from ["text"] (sp_row_from T) := ok_row_from T TT
  have G_maker_from : FnOk P w K mg base (L2.CX P w) 11 T.f_maker_from T.fd_maker_from ["text"] (sp_maker_from T) := ok_maker_from T TT
  have G_formula_from : FnOk P w K mg base (L2.CX P w) 5 T.f_formula_from T.fd_formula_from ["text"] (sp_formula_from T) := ok_formula_from T TT
  refine T.F__law_told.ok sc__law_told (fun vs H Q E h => ?_) (fun cdv A outer s H vs Q E hr h => ?_)
  · obtain ⟨k, z, rfl, hk, hz, tR, tT, tF, q1, q0⟩ := h
    rfl
  · obtain ⟨k, z, rfl, hk, hz, tR, tT, tF, q1, q0⟩ := h
    refine ⟨_, PSs.nox (pss_cons (ps_asg (pe_tup (pa_cons pe_non (pa_cons pe_non pa_nil))) (pg_tup rfl (pgs_cons (pg_name (i := 2) sc__law_told.nd rfl (.inl rfl)) (pgs_cons (pg_name (i := 3) sc__law_told.nd rfl (.inl rfl)) pgs_nil))))
    (pss_cons (ps_try_held (i := 4) rfl rfl rfl sc__law_told.nd rfl rfl ⟨by rfl, by decide, .inl T.g_OnesError⟩ takes0 (fun W pn xe tk pa => (pss_one (ps_if (pt_cmpR op_eq (pv 0) pe_int (nomark _)) (pss_one (ps_set (i := 2) sc__law_told.nd rfl (.inl rfl) (pe_callS G_row_from (hr.mono (by decide)) (by rfl) T.g_row_from T.F_row_from.kp T.b_row_from (fun σ => passAt tk σ) (pa_cons (pv 1) pa_nil)))) (pss_one (ps_if (pt_cmpR op_eq (pv 0) pe_int (nomark _)) (pss_one (ps_set (i := 2) sc__law_told.nd rfl (.inl rfl) (pe_callS G_maker_from (hr.mono (by decide)) (by rfl) T.g_maker_from T.F_maker_from.kp T.b_maker_from (fun σ => passAt tk σ) (pa_cons (pv 1) pa_nil)))) (pss_one (ps_set (i := 2) sc__law_told.nd rfl (.inl rfl) (pe_callS G_formula_from (hr.mono (by decide)) (by rfl) T.g_formula_from T.F_formula_from.kp T.b_formula_from (fun σ => passAt tk σ) (pa_cons (pv 1) pa_nil))))))))) (fun a oe cls d pn hz hf => (pss_one (ps_set (i := 3) sc__law_told.nd rfl (.inl rfl) (pv 4)))))
    (pss_cons (ps_set (i := 5) sc__law_told.nd rfl (.inl rfl) (pe_callB call_isE (by rfl) T.m_isinstance bt_isinstance (pa_cons (pv 3) (pa_cons (pe_tup (pa_cons (pe_glob (v := .ref T.C_BadSheet) (by rfl) T.g_BadSheet rfl) (pa_cons (pe_glob (v := .ref T.C_NoOne) (by rfl) T.g_NoOne rfl) (pa_cons (pe_glob (v := .ref T.C_NoRound) (by rfl) T.g_NoRound rfl) (pa_cons (pe_glob (v := .ref T.C_NoSuch) (by rfl) T.g_NoSuch rfl) (pa_cons (pe_glob (v := .ref T.C_Unlike) (by rfl) T.g_Unlike rfl) pa_nil)))))) pa_nil))))
    (pss_cons (ps_if (PW.pt (pw_and (pt_cmpR op_notN (pv 3) pe_non (nomark _)) (pw_and1 (PW.pt (pw_or (pt_val (pv 5)) (pw_or (pt_not (pt_val (pe_callB call_isK (by rfl) T.m_isinstance bt_isinstance (pa_cons (pv 3) (pa_cons (pe_glob (v := .ref T.C_BadText) (by rfl) T.g_BadText rfl) pa_nil))))) (pw_or1 (pt_not (pt_val (pe_callB call_isK (by rfl) T.m_isinstance bt_isinstance (pa_cons (pv 3) (pa_cons (pe_bltn (v := .ty "ValueError") (by rfl) T.m_ValueError bt_ValueError rfl) pa_nil)))))))))))) (pss_one (ps_ret pe_str)) pss_nil)
    (pss_one (ps_ret (pv 2))))))), ?_⟩
    refine ⟨(show 2 ≤ sizeLine by decide), fun t nt => ⟨t, _, rfl, SqT.mk upd_same, rfl, _, _, rfl, _, _, rfl, rfl, ?_⟩⟩
    have s1 := same_upd nt (o := .tup [.non, .non])
    generalize upd H t (.tup [.non, .non]) = H1 at s1 ⊢
    have z1 := Sam.of s1
    refine nx_via (σ := [some (.int (k : Nat)), some (.str z), some .non, some .non, none, none]) (fun σ G => (∃ v d, σ = [some (.int (k : Nat)), some (.str z), some v, some .non, none, none] ∧ AcD k z d ∧ Sam H G ∧ Tg (fun _ => False) G v d) ∨ (∃ e, σ = [some (.int (k : Nat)), some (.str z), some .non, some (.ref e), none, none] ∧ G e = some (ExK (.ref T.C_BadText) none e) ∧ Sam H G ∧ ∀ d, ¬ AcD k z d)) (fun N' hN' => ?_) ?_
    · have good : ∀ (v : V) (d : PyData) (G : Hp), AcD k z d → Sam H1 G → Tg (fun _ => False) G v d → N' [some (.int (k : Nat)), some (.str z), some v, some .non, none, none] G := fun v d G ac sG tg => hN' _ _ (.inl ⟨v, d, rfl, ac, z1.trans sG, tg⟩)
      refine ⟨_, rfl, rfl, _, rfl, ?_⟩
      by_cases k0 : k = 0
      · subst k0
        rw [decide_eq_true (show V.int ((0 : Nat) : Int) = V.int 0 from rfl)]
        refine iteT ⟨_, rfl, z, rfl, hz, z1.tabG tF, z1.tabG tR, fun bs g ez G u sG hu => good _ _ G ⟨bs, g, ez, rfl⟩ sG (.tup id hu (tg_ints bs)), fun no G sG => ?_⟩
        refine ⟨true, T.xm_BadText, fun z => (by cases z), fun _ e ne => ⟨.ref e, rfl, ?_⟩⟩
        refine hN' _ _ (.inr ⟨e, rfl, upd_same, z1.trans (sG.trans (Sam.of (same_upd ne))), fun d h => ?_⟩)
        obtain ⟨bs, g, ez, _⟩ := h
        exact no bs g ez
      rw [decide_eq_false (show ¬ V.int (k : Nat) = V.int 0 from fun e => k0 (by have := V.int.inj e; omega))]
      refine iteF ⟨_, rfl, rfl, _, rfl, ?_⟩
      by_cases k1 : k = 1
      · subst k1
        rw [decide_eq_true (show V.int ((1 : Nat) : Int) = V.int 1 from rfl)]
        refine iteT ⟨_, rfl, z, rfl, hz, z1.tabG tT, fun m g ez G u sG hu => good _ _ G ⟨m, g, ez, rfl⟩ sG hu, fun no G sG => ?_⟩
        refine ⟨true, T.xm_BadText, fun z => (by cases z), fun _ e ne => ⟨.ref e, rfl, ?_⟩⟩
        refine hN' _ _ (.inr ⟨e, rfl, upd_same, z1.trans (sG.trans (Sam.of (same_upd ne))), fun d h => ?_⟩)
        obtain ⟨m, g, ez, _⟩ := h
        exact no m g ez
      obtain rfl : k = 2 := by omega
      rw [decide_eq_false (show ¬ V.int ((2 : Nat) : Int) = V.int 1 from fun e => by have := V.int.inj e; omega)]
      refine iteF ⟨_, rfl, z, rfl, hz, fun f g ez G u sG hu => good _ _ G ⟨f, g, ez, rfl⟩ (Sam.of sG) hu, fun no G sG => ?_⟩
      refine ⟨true, T.xm_BadText, fun z => (by cases z), fun _ e ne => ⟨.ref e, rfl, ?_⟩⟩
      refine hN' _ _ (.inr ⟨e, rfl, upd_same, z1.trans ((Sam.of sG).trans (Sam.of (same_upd ne))), fun d h => ?_⟩)
      obtain ⟨f, g, ez, _⟩ := h
      exact no f g ez
    rintro σ G (⟨v, d, rfl, ac, sG, tg⟩ | ⟨e, rfl, he, sG, no⟩)
    · refine ⟨.non, rfl, (show 5 ≤ sizeLine by decide), fun tu nu => .inl ⟨.non, tu, _, _, _, false, rfl, upd_same, .cons (.own _) (.cons (.own _) (.cons (.own _) (.cons (.own _) (.cons (.own _) .nil)))), .base .non, none_of T.xn_BadText_BadSheet T.xn_BadText_NoOne T.xn_BadText_NoRound T.xn_BadText_NoSuch T.xn_BadText_Unlike, ?_⟩⟩
      have s2 := same_upd nu (o := .tup [.ref T.C_BadSheet, .ref T.C_NoOne, .ref T.C_NoRound, .ref T.C_NoSuch, .ref T.C_Unlike])
      refine ⟨.non, rfl, rfl, _, rfl, ?_⟩
      rw [decide_eq_true rfl]
      exact iteF (iteF ⟨_, rfl, q1 d ac _ v (sG.trans (Sam.of s2)) (tg.same s2)⟩)
    · refine ⟨.ref e, rfl, (show 5 ≤ sizeLine by decide), fun tu nu => ?_⟩
      have s4 := same_upd nu (o := .tup [.ref T.C_BadSheet, .ref T.C_NoOne, .ref T.C_NoRound, .ref T.C_NoSuch, .ref T.C_Unlike])
      have he4 := s4 _ _ he
      refine .inr ⟨e, T.C_BadText, tu, _, _, false, rfl, he4, T.xc_BadText, upd_same, .cons (.own _) (.cons (.own _) (.cons (.own _) (.cons (.own _) (.cons (.own _) .nil)))), none_of T.xo_BadText_BadSheet T.xo_BadText_NoOne T.xo_BadText_NoRound T.xo_BadText_NoSuch T.xo_BadText_Unlike, ?_⟩
      refine ⟨.ref e, rfl, rfl, _, rfl, ?_⟩
      rw [decide_eq_false (show ¬ V.ref e = V.non from fun z => by cases z)]
      refine iteT ⟨_, rfl, false, rfl, iteF ?_⟩
      refine ⟨.ref e, rfl, e, T.C_BadText, _, _, true, rfl, he4, T.xc_BadText, .own _, T.xo_BadText_BadText, _, rfl, iteF ?_⟩
      refine ⟨.ref e, rfl, e, T.C_BadText, _, _, true, rfl, he4, T.xc_BadText, .ty "ValueError", T.xv_BadText, _, rfl, iteF ?_⟩
      exact ⟨_, rfl, q0 no _ (sG.trans (Sam.of s4))⟩
/-- a text of plain signs, so long at most -/
structure ZS (n : Nat) (z : Str) : Prop where
  len : z.length ≤ n
  sg : ∀ c, c ∈ TL.tl z → c < 200
theorem ZS.ok {n : Nat} {z : Str} (h : ZS n z) (l : n ≤ 100000) : ZOk z := ⟨Nat.le_trans h.len l, h.sg⟩
theorem ZS.mono {n m : Nat} {z : Str} (h : ZS n z) (l : n ≤ m) : ZS m z := ⟨Nat.le_trans h.len l, h.sg⟩
theorem ap_len (a b : Str) : (a ++ b).length = a.length + b.length := by rw [TL.len_tl, TL.len_tl, TL.len_tl, TL.tl_append, List.length_append]
theorem ZS.app {n m : Nat} {a b : Str} (h : ZS n a) (g : ZS m b) : ZS (n + m) (a ++ b) := ⟨by
  rw [ap_len]
  exact Nat.add_le_add h.len g.len, fun c hc => by
  rw [TL.tl_append] at hc
  exact (List.mem_append.mp hc).elim (h.sg c) (g.sg c)⟩
theorem cutS_mem {z : Str} {lo hi : Option Int} {c : Nat} (h : c ∈ TL.tl (cutS z lo hi)) : c ∈ TL.tl z := by
  have h : c ∈ ((z.cps.toList.drop (HT.sIx z.length 0 lo)).take (HT.sIx z.length z.length hi - HT.sIx z.length 0 lo)) := h
  exact List.mem_of_mem_drop (List.mem_of_mem_take h)
theorem ZS.cut {n : Nat} {z : Str} (h : ZS n z) (lo hi : Option Int) : ZS n (cutS z lo hi) := ⟨Nat.le_trans (cutS_length z lo hi) h.len, fun c hc => h.sg c (cutS_mem hc)⟩
def sp__law_signs (_ : PySem.W.Frag) : Sp := fun vs H Q _ => vs = [] ∧ ∀ z, ZS 100 z → 1 ≤ z.length → Q (.str z) H
theorem ok__law_signs (T : Defs K mg) (TT : Tabs T base) : FnOk P w K mg base CX0 1 T.f__law_signs T.fd__law_signs [] (sp__law_signs K) := by
  refine T.F__law_signs.ok sc__law_signs (fun vs H Q E h => ?_) (fun cdv A outer s H vs Q E hr h => ?_)
  · obtain ⟨rfl, q⟩ := h
    rfl
  · obtain ⟨rfl, q⟩ := h
    refine ⟨_, PSs.nox (pss_cons (ps_set (i := 0) sc__law_signs.nd rfl (.inl rfl) pe_str)
    (pss_one (ps_ret (pe_op op_add_str (pv 0) pe_str)))), ?_⟩
    refine ⟨_, rfl, _, _, rfl, rfl, by decide +kernel, q _ ⟨by decide +kernel, fun c hc => ?_⟩ (by decide +kernel)⟩
    have all : (TL.tl ((" !\"#$&'()*+,-./0123456789:;<=>?@ABCDEFGHIJKLMNOPQRSTUVWXYZ[\\]^_`" : Str) ++ ("abcdefghijklmnopqrstuvwxyz{|}~" : Str))).all (fun c => decide (c < 200)) = true := by decide +kernel
    exact of_decide_eq_true (List.all_eq_true.mp all c hc)
theorem zs_lit {n : Nat} {z : Str} (h : (decide (z.length ≤ n) && (TL.tl z).all fun c => decide (c < 200)) = true) : ZS n z := by
  rw [Bool.and_eq_true, decide_eq_true_eq] at h
  exact ⟨h.1, fun c hc => of_decide_eq_true (List.all_eq_true.mp h.2 c hc)⟩
theorem cut12 (z : Str) : (cutS z (some 1) (some 2)).length ≤ 1 := by
  rw [TL.len_tl]
  show ((z.cps.toList.drop (HT.sIx z.length 0 (some ((1 : Nat) : Int)))).take (HT.sIx z.length z.length (some ((2 : Nat) : Int)) - HT.sIx z.length 0 (some ((1 : Nat) : Int)))).length ≤ 1
  rw [HT.sIx_nat, HT.sIx_nat, List.length_take]
  omega
theorem cut01 (z : Str) : (cutS z none (some 1)).length ≤ 1 := by
  rw [TL.len_tl]
  show ((z.cps.toList.drop 0).take (HT.sIx z.length z.length (some ((1 : Nat) : Int)) - 0)).length ≤ 1
  rw [HT.sIx_nat, List.length_take]
  omega
def sp__law_spoilt (_ : PySem.W.Frag) : Sp := fun vs H Q _ => ∃ (p : Addr) (N n : Nat) (z : Str), vs = [.ref p, .str z] ∧ Bx H p N ∧ N ≤ 500000 ∧ ZS n z ∧ n ≤ 40000 ∧ ∀ H' y, But p H H' → Bx H' p (N + 6) → ZS (2 * n + 10) y → Q (.str y) H'
theorem ok__law_spoilt (T : Defs K mg) (TT : Tabs T base) : FnOk P w K mg base CX0 2 T.f__law_spoilt T.fd__law_spoilt ["_law_box_here", "_law_text"] (sp__law_spoilt K) := by
  have G__law_take : FnOk P w K mg base CX0 1 T.f__law_take T.fd__law_take ["_law_box_here", "_law_many"] (sp__law_take K) := ok__law_take T TT
  have G__law_signs : FnOk P w K mg base CX0 1 T.f__law_signs T.fd__law_signs [] (sp__law_signs K) := ok__law_signs T TT
  refine T.F__law_spoilt.ok sc__law_spoilt (fun vs H Q E h => ?_) (fun cdv A outer s H vs Q E hr h => ?_)
  · obtain ⟨p, N, n, z, rfl, B, hN, hz, hn, q⟩ := h
    rfl
  · obtain ⟨p, N, n, z, rfl, B, hN, hz, hn, q⟩ := h
    refine ⟨_, PSs.nox (pss_cons (ps_par3 (i := 2) (j := 3) (l := 4) (by rfl) sc__law_spoilt.nd rfl rfl rfl (by decide) (by decide) (by decide) rfl rfl rfl (pa_cons (pe_call G__law_take (hr.mono (by decide)) (by rfl) T.g__law_take T.F__law_take.kp T.b__law_take .nil pass0 (pa_cons (pv 0) (pa_cons pe_int pa_nil))) (pa_cons (pe_call G__law_take (hr.mono (by decide)) (by rfl) T.g__law_take T.F__law_take.kp T.b__law_take .nil pass0 (pa_cons (pv 0) (pa_cons (pe_op op_add (pe_callB call_len_str (by rfl) T.m_len bt_len (pa_cons (pv 1) pa_nil)) pe_int) pa_nil))) (pa_cons (pe_op op_add_str (pe_call0 G__law_signs (hr.mono (by decide)) (by rfl) T.g__law_signs T.F__law_signs.kp T.b__law_signs .nil pass0) pe_str) pa_nil))) (by rfl))
    (pss_cons (ps_set (i := 5) sc__law_spoilt.nd rfl (.inl rfl) (pe_ix ix_list (pe_lst (pa_cons pe_str (pa_cons pe_str (pa_cons (pv 4) (pa_cons pe_str pa_nil))))) (pe_call G__law_take (hr.mono (by decide)) (by rfl) T.g__law_take T.F__law_take.kp T.b__law_take .nil pass0 (pa_cons (pv 0) (pa_cons pe_int pa_nil))) (fun _ _ => rfl)))
    (pss_cons (ps_set (i := 5) sc__law_spoilt.nd rfl (.inl rfl) (pe_ix ix_str (pv 5) (pe_call G__law_take (hr.mono (by decide)) (by rfl) T.g__law_take T.F__law_take.kp T.b__law_take .nil pass0 (pa_cons (pv 0) (pa_cons (pe_callB call_len_str (by rfl) T.m_len bt_len (pa_cons (pv 5) pa_nil)) pa_nil))) (fun _ _ => rfl)))
    (pss_cons (ps_par (i := 6) (j := 7) (by rfl) sc__law_spoilt.nd rfl rfl (by decide) rfl rfl (pa_cons (pe_slice sl_str (pv 1) po_none (po_some (pv 3))) (pa_cons (pe_slice sl_str (pv 1) (po_some (pv 3)) po_none) pa_nil)) (by rfl))
    (pss_cons (ps_set (i := 8) sc__law_spoilt.nd rfl (.inl rfl) (pe_op op_add (pv 3) (pe_call G__law_take (hr.mono (by decide)) (by rfl) T.g__law_take T.F__law_take.kp T.b__law_take .nil pass0 (pa_cons (pv 0) (pa_cons pe_int pa_nil)))))
    (pss_cons (ps_set (i := 9) sc__law_spoilt.nd rfl (.inl rfl) (pe_lst (pa_cons (pe_op op_add_str (pe_op op_add_str (pv 6) (pv 5)) (pv 7)) (pa_cons (pe_op op_add_str (pe_op op_add_str (pv 6) (pv 5)) (pe_slice sl_str (pv 7) (po_some pe_int) po_none)) (pa_cons (pe_op op_add_str (pv 6) (pe_slice sl_str (pv 7) (po_some pe_int) po_none)) (pa_cons (pe_op op_add_str (pe_op op_add_str (pv 6) (pe_slice sl_str (pv 7) (po_some pe_int) (po_some pe_int))) (pe_slice sl_str (pv 7) po_none (po_some pe_int))) pa_nil))))))
    (pss_cons (ps_asg (pe_op op_add_str (pe_ix ix_list (pv 9) pe_int (fun _ _ => rfl)) (pe_slice sl_str (pv 7) (po_some pe_int) po_none)) (pg_sub (pv 9) pe_int set_list))
    (pss_one (ps_ret (pe_ix ix_list (pe_op op_cat (pv 9) (pe_lst (pa_cons (pe_op op_add_str (pe_slice sl_str (pv 1) po_none (po_some (pv 8))) (pe_slice sl_str (pv 1) (po_some (pv 3)) po_none)) (pa_cons (pe_op op_add_str (pv 6) (pe_slice sl_str (pv 1) (po_some (pv 8)) po_none)) pa_nil)))) (pv 2) (fun _ _ => rfl))))))))))), ?_⟩
    have hsl : sizeLine = 16777216 := by decide
    have zl := hz.len
    refine ⟨.ref p, rfl, _, 6, N, rfl, B, by decide, by decide, by omega, fun H1 w u1 B1 l1 h1 => ?_⟩
    refine ⟨.ref p, rfl, _, rfl, z, rfl, by omega, _, _, rfl, rfl, p, _, N + 1, rfl, B1, by omega, by omega, by omega, fun H2 at_ u2 B2 l2 h2 => ?_⟩
    obtain ⟨at_, rfl⟩ := nat_of l2
    refine ⟨rfl, fun sg hsg sg1 => ⟨sg, _, rfl, rfl, by have := hsg.len; show _ + 1 ≤ _; omega, ?_⟩⟩
    refine ⟨_, _, _, rfl, ?_⟩
    have hs2 : ZS 101 (sg ++ ("\n" : Str)) := hsg.app (zs_lit (n := 1) (z := "\n") (by decide +kernel))
    have hs3 : 1 ≤ (sg ++ ("\n" : Str)).length := by rw [ap_len]; omega
    generalize sg ++ ("\n" : Str) = sg2 at hs2 hs3 ⊢
    refine ⟨_, rfl, (show 4 ≤ sizeLine by decide), fun l nl => ?_⟩
    have sl := same_upd nl (o := .lst [.str "01 ()", .str "0123456789 ()", .str sg2, .str "slowpick "])
    have hl := upd_same (H := H2) (a := l) (o := .lst [.str "01 ()", .str "0123456789 ()", .str sg2, .str "slowpick "])
    have lp := ne_new B2 nl
    refine ⟨.ref p, rfl, _, 4, N + 2, rfl, B2.same sl, by decide, by decide, by omega, fun H3 r3 u3 B3 l3 h3 => ?_⟩
    obtain ⟨v3, e3, y3, rfl, z3, z31⟩ := at_menuV (Pr := fun v => ∃ y, v = V.str y ∧ ZS 101 y ∧ 1 ≤ y.length) (xs := [.str "01 ()", .str "0123456789 ()", .str sg2, .str "slowpick "]) l3 h3 (fun v hv => by
      simp only [List.mem_cons, List.not_mem_nil, or_false] at hv
      rcases hv with rfl | rfl | rfl | rfl
      · exact ⟨_, rfl, zs_lit (by decide +kernel), by decide +kernel⟩
      · exact ⟨_, rfl, zs_lit (by decide +kernel), by decide +kernel⟩
      · exact ⟨_, rfl, hs2, hs3⟩
      · exact ⟨_, rfl, zs_lit (by decide +kernel), by decide +kernel⟩)
    refine ⟨l, _, _, _, rfl, rfl, SqL.mk (u3 _ _ lp hl), e3, ?_⟩
    have y3l := z3.len
    refine ⟨_, rfl, .ref p, rfl, _, rfl, y3, rfl, by omega, p, _, N + 3, rfl, B3, by omega, by omega, by omega, fun H4 r4 u4 B4 l4 h4 => ?_⟩
    obtain ⟨r4, rfl⟩ := nat_of l4
    have ty3 : (TL.tl y3).length = y3.length := (TL.len_tl y3).symm
    have ec : (TL.tl y3)[r4]? = some (TL.tl y3)[r4] := List.getElem?_eq_getElem (by omega)
    have hcm : (TL.tl y3)[r4] < 200 := z3.sg _ (List.getElem_mem _)
    generalize (TL.tl y3)[r4] = c at ec hcm
    have zc : ZS 1 (⟨#[c]⟩ : Str) := ⟨Nat.le_refl 1, fun x hx => by
      have hx : x ∈ [c] := hx
      rw [List.mem_singleton.mp hx]
      exact hcm⟩
    refine ⟨y3, _, c, rfl, rfl, by omega, at_str ec, ?_⟩
    generalize (⟨#[c]⟩ : Str) = s1 at zc ⊢
    have s1l := zc.len
    refine ⟨_, rfl, _, rfl, _, rfl, z, rfl, by omega, _, rfl, _, rfl, _, rfl, z, rfl, by omega, _, _, rfl, ?_⟩
    have za := hz.cut none (some ((at_ : Nat) : Int))
    have zb := hz.cut (some ((at_ : Nat) : Int)) none
    generalize cutS z none (some ((at_ : Nat) : Int)) = ah at za ⊢
    generalize ez : cutS z (some ((at_ : Nat) : Int)) none = tl_ at zb ⊢
    have al := za.len
    have bl := zb.len
    have bound : ∀ {a b : Str} {x y : Nat}, ZS x a → ZS y b → x + y ≤ 16777216 → a.length + b.length ≤ sizeLine := fun g h l => by
      have := g.len
      have := h.len
      omega
    refine ⟨_, rfl, .ref p, rfl, _, 9, N + 4, rfl, B4, by decide, by decide, by omega, fun H5 r5 u5 B5 l5 h5 => ⟨_, _, rfl, rfl, ?_⟩⟩
    have t1 := zb.cut (some 1) none
    have t2 := zb.cut (some 2) none
    have t12 : ZS 1 (cutS tl_ (some 1) (some 2)) := ⟨cut12 _, (zb.cut (some 1) (some 2)).sg⟩
    have t0 : ZS 1 (cutS tl_ none (some 1)) := ⟨cut01 _, (zb.cut none (some 1)).sg⟩
    have tl' : tl_.length ≤ sizeLine := by omega
    have w1 := (za.app zc).app zb
    have w2 := (za.app zc).app t1
    have w3 := za.app t1
    have w4 := (za.app t12).app t0
    have w4' := w4.app t2
    refine ⟨_, rfl, _, rfl, _, _, rfl, rfl, bound za zc (by omega), _, rfl, _, _, rfl, rfl, bound (za.app zc) zb (by omega), ?_⟩
    refine ⟨_, rfl, _, rfl, _, _, rfl, rfl, bound za zc (by omega), _, rfl, _, rfl, tl_, rfl, tl', _, _, rfl, rfl, bound (za.app zc) t1 (by omega), ?_⟩
    refine ⟨_, rfl, _, rfl, _, rfl, tl_, rfl, tl', _, _, rfl, rfl, bound za t1 (by omega), ?_⟩
    refine ⟨_, rfl, _, rfl, _, rfl, _, rfl, tl_, rfl, tl', _, _, rfl, rfl, bound za t12 (by omega), _, rfl, _, rfl, tl_, rfl, tl', _, _, rfl, rfl, bound (za.app t12) t0 (by omega), ?_⟩
    refine ⟨(show 4 ≤ sizeLine by decide), fun L nL => ?_⟩
    have sL := same_upd nL (o := .lst [.str (ah ++ s1 ++ tl_), .str (ah ++ s1 ++ cutS tl_ (some 1) none), .str (ah ++ cutS tl_ (some 1) none), .str (ah ++ cutS tl_ (some 1) (some 2) ++ cutS tl_ none (some 1))])
    have hL := upd_same (H := H5) (a := L) (o := .lst [.str (ah ++ s1 ++ tl_), .str (ah ++ s1 ++ cutS tl_ (some 1) none), .str (ah ++ cutS tl_ (some 1) none), .str (ah ++ cutS tl_ (some 1) (some 2) ++ cutS tl_ none (some 1))])
    have Lp := ne_new B5 nL
    refine ⟨_, rfl, _, _, 3, _, rfl, rfl, SqL.mk hL, rfl, _, rfl, _, rfl, tl_, rfl, tl', _, _, rfl, rfl, bound w4 t2 (by omega), ?_⟩
    refine ⟨_, rfl, L, _, 3, 3, rfl, rfl, hL, rfl, ?_⟩
    have B6 : Bx (upd (upd H5 L (.lst [.str (ah ++ s1 ++ tl_), .str (ah ++ s1 ++ cutS tl_ (some 1) none), .str (ah ++ cutS tl_ (some 1) none), .str (ah ++ cutS tl_ (some 1) (some 2) ++ cutS tl_ none (some 1))])) L (.lst ([.str (ah ++ s1 ++ tl_), .str (ah ++ s1 ++ cutS tl_ (some 1) none), .str (ah ++ cutS tl_ (some 1) none), .str (ah ++ cutS tl_ (some 1) (some 2) ++ cutS tl_ none (some 1))].set 3 (.str (ah ++ cutS tl_ (some 1) (some 2) ++ cutS tl_ none (some 1) ++ cutS tl_ (some 2) none))))) p (N + 5) := (B5.same sL).other Lp
    have s6 : Same H5 (upd (upd H5 L (.lst [.str (ah ++ s1 ++ tl_), .str (ah ++ s1 ++ cutS tl_ (some 1) none), .str (ah ++ cutS tl_ (some 1) none), .str (ah ++ cutS tl_ (some 1) (some 2) ++ cutS tl_ none (some 1))])) L (.lst ([.str (ah ++ s1 ++ tl_), .str (ah ++ s1 ++ cutS tl_ (some 1) none), .str (ah ++ cutS tl_ (some 1) none), .str (ah ++ cutS tl_ (some 1) (some 2) ++ cutS tl_ none (some 1))].set 3 (.str (ah ++ cutS tl_ (some 1) (some 2) ++ cutS tl_ none (some 1) ++ cutS tl_ (some 2) none))))) := same_newer sL nL
    have hL6 := upd_same (H := upd H5 L (.lst [.str (ah ++ s1 ++ tl_), .str (ah ++ s1 ++ cutS tl_ (some 1) none), .str (ah ++ cutS tl_ (some 1) none), .str (ah ++ cutS tl_ (some 1) (some 2) ++ cutS tl_ none (some 1))])) (a := L) (o := .lst ([.str (ah ++ s1 ++ tl_), .str (ah ++ s1 ++ cutS tl_ (some 1) none), .str (ah ++ cutS tl_ (some 1) none), .str (ah ++ cutS tl_ (some 1) (some 2) ++ cutS tl_ none (some 1))].set 3 (.str (ah ++ cutS tl_ (some 1) (some 2) ++ cutS tl_ none (some 1) ++ cutS tl_ (some 2) none))))
    generalize (upd (upd H5 L (.lst [.str (ah ++ s1 ++ tl_), .str (ah ++ s1 ++ cutS tl_ (some 1) none), .str (ah ++ cutS tl_ (some 1) none), .str (ah ++ cutS tl_ (some 1) (some 2) ++ cutS tl_ none (some 1))])) L (.lst ([.str (ah ++ s1 ++ tl_), .str (ah ++ s1 ++ cutS tl_ (some 1) none), .str (ah ++ cutS tl_ (some 1) none), .str (ah ++ cutS tl_ (some 1) (some 2) ++ cutS tl_ none (some 1))].set 3 (.str (ah ++ cutS tl_ (some 1) (some 2) ++ cutS tl_ none (some 1) ++ cutS tl_ (some 2) none))))) = H6 at B6 s6 hL6 ⊢
    refine ⟨_, rfl, ?_⟩
    have zl' : z.length ≤ sizeLine := by omega
    refine ⟨_, rfl, _, rfl, _, rfl, z, rfl, zl', _, rfl, _, rfl, _, rfl, z, rfl, zl', _, _, rfl, rfl, bound (hz.cut _ _) (hz.cut _ _) (by omega), ?_⟩
    refine ⟨_, rfl, _, rfl, _, rfl, _, rfl, z, rfl, zl', _, _, rfl, rfl, bound za (hz.cut _ _) (by omega), ?_⟩
    refine ⟨(show 2 ≤ sizeLine by decide), fun X nX => ?_⟩
    refine ⟨L, X, _, _, rfl, rfl, same_upd nX _ _ hL6, upd_same, (show 4 + 2 ≤ sizeLine by decide), fun Y nY => ?_⟩
    have w5 := (hz.cut none (some ((at_ : Nat) + r5))).app (hz.cut (some ((at_ : Nat) : Int)) none)
    have w6 := za.app (hz.cut (some ((at_ : Nat) + r5)) none)
    have hY := upd_same (H := upd H6 X (.lst [.str (cutS z none (some ((at_ : Nat) + r5)) ++ cutS z (some ((at_ : Nat) : Int)) none), .str (ah ++ cutS z (some ((at_ : Nat) + r5)) none)])) (a := Y) (o := .lst ([V.str (ah ++ s1 ++ tl_), .str (ah ++ s1 ++ cutS tl_ (some 1) none), .str (ah ++ cutS tl_ (some 1) none), .str (ah ++ cutS tl_ (some 1) (some 2) ++ cutS tl_ none (some 1) ++ cutS tl_ (some 2) none)] ++ [.str (cutS z none (some ((at_ : Nat) + r5)) ++ cutS z (some ((at_ : Nat) : Int)) none), .str (ah ++ cutS z (some ((at_ : Nat) + r5)) none)]))
    have s7 := (same_upd nX (o := .lst [.str (cutS z none (some ((at_ : Nat) + r5)) ++ cutS z (some ((at_ : Nat) : Int)) none), .str (ah ++ cutS z (some ((at_ : Nat) + r5)) none)])).trans (same_upd nY (o := .lst ([V.str (ah ++ s1 ++ tl_), .str (ah ++ s1 ++ cutS tl_ (some 1) none), .str (ah ++ cutS tl_ (some 1) none), .str (ah ++ cutS tl_ (some 1) (some 2) ++ cutS tl_ none (some 1) ++ cutS tl_ (some 2) none)] ++ [.str (cutS z none (some ((at_ : Nat) + r5)) ++ cutS z (some ((at_ : Nat) : Int)) none), .str (ah ++ cutS z (some ((at_ : Nat) + r5)) none)])))
    have menu : ∀ x1 x2 x3 x4 x5 x6 : Str, ZS (2 * n + 10) x1 → ZS (2 * n + 10) x2 → ZS (2 * n + 10) x3 → ZS (2 * n + 10) x4 → ZS (2 * n + 10) x5 → ZS (2 * n + 10) x6 → ∃ v, atI ([V.str x1, .str x2, .str x3, .str x4] ++ [.str x5, .str x6]) w = some v ∧ ∃ y, v = V.str y ∧ ZS (2 * n + 10) y := fun x1 x2 x3 x4 x5 x6 g1 g2 g3 g4 g5 g6 => at_menuV (Pr := fun v => ∃ y, v = V.str y ∧ ZS (2 * n + 10) y) (xs := [V.str x1, .str x2, .str x3, .str x4, .str x5, .str x6]) (r := w) l1 h1 (fun v hv => by
      simp only [List.mem_cons, List.not_mem_nil, or_false] at hv
      rcases hv with rfl | rfl | rfl | rfl | rfl | rfl
      · exact ⟨_, rfl, g1⟩
      · exact ⟨_, rfl, g2⟩
      · exact ⟨_, rfl, g3⟩
      · exact ⟨_, rfl, g4⟩
      · exact ⟨_, rfl, g5⟩
      · exact ⟨_, rfl, g6⟩)
    obtain ⟨v9, e9, y9, rfl, z9⟩ := menu _ _ _ _ _ _ (w1.mono (by omega)) (w2.mono (by omega)) (w3.mono (by omega)) (w4'.mono (by omega)) (w5.mono (by omega)) (w6.mono (by omega))
    refine ⟨_, rfl, Y, _, _, _, rfl, rfl, SqL.mk hY, e9, ?_⟩
    have cc : But p H H5 := (((u1.trans u2).trans (same_but sl)).trans u3).trans (u4.trans u5)
    exact q _ _ (cc.trans (same_but (s6.trans s7))) ((B6.same s7).mono (by omega)) z9
/-! a text so many times -/
theorem int_rmul_str (k : Int) (t : Tok) (x : Str) (u : Tok) :
    Meets (Builtin.«int.__rmul__» ⟨[.int k t, .str x u], []⟩) (fun _ R s => R (.ok (.ret Value.notImplemented)) { s with toks := s.toks }) :=
  .of_wp fun prog w A R s h => by
    obtain ⟨hp, g, d, tk, os⟩ := s
    wp_walk
    exact ⟨_, rfl, h⟩
def timesS (x : Str) (k : Nat) : Str := ⟨(List.replicate k x.cps.toList).flatten.toArray⟩
theorem timesS_len (x : Str) (k : Nat) : (timesS x k).length = x.length * k := by
  show (List.replicate k x.cps.toList).flatten.toArray.size = _
  rw [List.size_toArray, PyProof.Rows.lm_len_rep_flat, Array.length_toList]
  first | rfl | exact Nat.mul_comm _ _
def rRepStr (_ : PySem.W.Frag) : R2 := fun x y H Q => ∃ (a : Str) (k : Nat), x = .str a ∧ y = .int (k : Nat) ∧ a.length * k ≤ 1000000 ∧ k ≤ 1000000 ∧ Q (.str (timesS a k)) H
theorem fold_cps (x : Array Nat) : ∀ (k : Nat) (acc : Array Nat), (List.foldl (fun x1 x2 => x1 ++ x2) acc (List.replicate k x)).toList = acc.toList ++ (List.replicate k x.toList).flatten
  | 0, acc => by simp
  | k + 1, acc => by
    rw [List.replicate_succ, List.foldl_cons, fold_cps x k, Array.toList_append, List.replicate_succ, List.flatten_cons, List.append_assoc]
theorem op_repStr {X : Cx} : OpR X (binaryOp .Mult) (rRepStr X.K) := by
  intro pins s σ H x y v u Q I rx ry h
  obtain ⟨a, k, rfl, rfl, hl, hk, q⟩ := h
  obtain ⟨t, rfl⟩ := rx
  obtain ⟨t', rfl⟩ := ry
  have d0 : (decide ((k : Int) < -(2 ^ 63)) || decide ((k : Int) ≥ 2 ^ 63)) = false := by
    rw [decide_eq_false (show ¬ (k : Int) < -(2 ^ 63) by omega), decide_eq_false (show ¬ (k : Int) ≥ 2 ^ 63 by omega)]
    rfl
  refine wpAny_binaryOp_repeat (T := "str") (U := "int") (by decide) (fun s' => typeIs_str s' _ t) (fun s' => typeIs_int s' _ t') noFill_str_mul F.fills_int_mul F.slot_int_rmul repeat_str F.slot_int_index.lookup
    (call_meets F.slot_int_rmul (typeIs_int s _ t') F.entry_int_rmul (F.args_int_rmul_2 _ _) (int_rmul_str k t' a t)
      ⟨rfl, call_meets F.slot_str_mul (typeIs_str _ _ t) F.entry_str_mul (F.args_str_mul_2 _ _) (gives_str_mul a k t t' d0 (fun h1 h2 => ?_) (fun h1 h2 => ?_)).meets ?_⟩)
  · have kp : (0 : Int) < (k : Int) := by omega
    have e : ((a.length : Nat) : Int) * (k : Int) ≤ 2 ^ 63 - 1 := by
      rw [← Int.natCast_mul]
      omega
    have := Int.le_ediv_of_mul_le kp e
    omega
  · rw [Int.toNat_natCast]
    unfold Builtin.Str.tooLong
    rw [sizeLine_eq]
    exact decide_eq_false (by omega)
  · by_cases k0 : k = 0
    · subst k0
      rw [if_pos (show ((0 : Nat) : Int) < 1 by decide)]
      have e : timesS a 0 = Str.empty := rfl
      rw [e] at q
      exact ⟨Nat.zero_le _, .str _, H, I.tok _, ⟨_, rfl⟩, q⟩
    rw [if_neg (show ¬ (k : Int) < 1 by omega)]
    by_cases c : ((k : Int) == 1 || a.length == 0) = true
    · rw [if_pos c]
      have e : timesS a k = a := by
        refine TL.ext_tl ?_
        show (List.replicate k a.cps.toList).flatten = a.cps.toList
        rcases Bool.or_eq_true_iff.mp c with c | c
        · have : k = 1 := by
            have := beq_iff_eq.mp c
            omega
          subst this
          simp
        · have : a.cps.toList = [] := List.eq_nil_of_length_eq_zero (by rw [Array.length_toList]; exact beq_iff_eq.mp c)
          rw [this]
          simp
      rw [e] at q
      exact ⟨.str _, H, I, ⟨_, rfl⟩, q⟩
    · rw [if_neg c]
      have e : timesS a k = { cps := List.foldl (fun x1 x2 => x1 ++ x2) #[] (List.replicate (k : Int).toNat a.cps) } := by
        refine TL.ext_tl ?_
        show (List.replicate k a.cps.toList).flatten = (List.foldl (fun x1 x2 => x1 ++ x2) #[] (List.replicate (k : Int).toNat a.cps)).toList
        rw [fold_cps, Int.toNat_natCast]
        rfl
      rw [e] at q
      refine ⟨?_, .str _, H, I.tok _, ⟨_, rfl⟩, q⟩
      rw [← e, timesS_len, sizeLine_eq]
      omega
theorem tg_fm {p : Addr → Prop} {H : Hp} (np : ∀ a xs, H a = some (.tup xs) → ¬ p a) : ∀ {f : Fm} {v : V}, FmAt H f v → Tg p H v f.data
  | .inp i, _, ⟨_, rfl, h⟩ => .tup (np _ _ h) h (.cons (.str _) (.cons (.int _) .nil))
  | .less f, _, ⟨_, _, rfl, h, h1⟩ => .tup (np _ _ h) h (.cons (.str _) (.cons (tg_fm np h1) .nil))
  | .both f g, _, ⟨_, _, _, rfl, h, h1, h2⟩ => .tup (np _ _ h) h (.cons (.str _) (.cons (tg_fm np h1) (.cons (tg_fm np h2) .nil)))
  | .either f g, _, ⟨_, _, _, rfl, h, h1, h2⟩ => .tup (np _ _ h) h (.cons (.str _) (.cons (tg_fm np h1) (.cons (tg_fm np h2) .nil)))
  | .oneof f g, _, ⟨_, _, _, rfl, h, h1, h2⟩ => .tup (np _ _ h) h (.cons (.str _) (.cons (tg_fm np h1) (.cons (tg_fm np h2) .nil)))
  | .pick f g k, _, ⟨_, _, _, _, rfl, h, h1, h2, h3⟩ => .tup (np _ _ h) h (.cons (.str _) (.cons (tg_fm np h1) (.cons (tg_fm np h2) (.cons (tg_fm np h3) .nil))))
theorem row_ac_data {z : Str} {d : PyData} (h : AcD 0 z d) : d = .tuple ((TL.tl z).map fun c => wordD (sigS c)) := by
  obtain ⟨bs, g, rfl, rfl⟩ := h
  rw [tl_rowS g.bit, List.map_map]
  exact congrArg PyData.tuple (List.map_inj_left.mpr fun b hb => (sgn_bit (g.bit b hb)).symm)
theorem acd_fun {k : Nat} {z : Str} {d e : PyData} (h : AcD k z d) (g : AcD k z e) : d = e := by
  match k, h, g with
  | 0, h, g => rw [row_ac_data h, row_ac_data g]
  | 1, ⟨m, gm, e1, e2⟩, ⟨m', gm', f1, f2⟩ =>
    have a := mk_full gm
    rw [← e1, f1, mk_full gm'] at a
    injection a with a
    injection a with a _
    rw [e2, f2, ← mnt_data gm.ok, ← mnt_data gm'.ok, a]
  | k + 2, ⟨f, gf, e1, e2⟩, ⟨f', gf', f1, f2⟩ =>
    have a := fm_full gf
    rw [← e1, f1, fm_full gf'] at a
    injection a with a
    injection a with a _
    rw [e2, f2, ← fnt_data f, ← fnt_data f', a]
theorem acd_tup {k : Nat} {z : Str} {d : PyData} (h : AcD k z d) : ∃ ds, d = .tuple ds := by
  match k, h with
  | 0, ⟨bs, _, _, e⟩ => exact ⟨_, e⟩
  | 1, ⟨m, _, _, e⟩ => subst e; cases m <;> exact ⟨_, rfl⟩
  | k + 2, ⟨f, _, _, e⟩ => subst e; cases f <;> exact ⟨_, rfl⟩
theorem acd_sho {k : Nat} {z : Str} {d : PyData} (h : AcD k z d) : Sho d := by
  match k, h with
  | 0, ⟨bs, g, _, e⟩ =>
    subst e
    exact (sho_ints (fun n hn => by rcases g.bit n hn with rfl | rfl <;> decide) (by have := g.l2; omega)).2
  | 1, ⟨m, g, _, e⟩ => subst e; exact g.sho
  | k + 2, ⟨f, g, _, e⟩ =>
    subst e
    exact (fm_shs g.ins).sho (by decide) (by decide) (by have := g.dp; omega) (by have := g.sz; omega)
mutual
theorem itL_sg : ∀ {t : Nt}, t.Ok → ∀ c, c ∈ t.itL → c < 200
  | .num n, _, c, hc => by
    have := TL.numL_digits n c hc
    omega
  | .node w ts, h, c, hc => by
    have ok : WdOk w ∧ Nt.Oks ts := by simpa only [Nt.Ok] using h
    have hc : c ∈ 40 :: ((TL.tl w ++ Nt.itsL ts) ++ [41]) := hc
    rcases List.mem_cons.mp hc with rfl | hc
    · decide
    rcases List.mem_append.mp hc with hc | hc
    · rcases List.mem_append.mp hc with hc | hc
      · have := ok.1.2 c hc
        omega
      · exact itsL_sg ok.2 c hc
    · rw [List.mem_singleton.mp hc]
      decide
theorem itsL_sg : ∀ {ts : List Nt}, Nt.Oks ts → ∀ c, c ∈ Nt.itsL ts → c < 200
  | [], _, c, hc => by cases hc
  | t :: ts, h, c, hc => by
    have ok : t.Ok ∧ Nt.Oks ts := by simpa only [Nt.Oks] using h
    have hc : c ∈ 32 :: (t.itL ++ Nt.itsL ts) := hc
    rcases List.mem_cons.mp hc with rfl | hc
    · decide
    rcases List.mem_append.mp hc with hc | hc
    · exact itL_sg ok.1 c hc
    · exact itsL_sg ok.2 c hc
end
theorem ntx_zs {w : Str} {ts : List Nt} {n : Nat} (ok : (Nt.node w ts).Ok) (l : (Nt.node w ts).wt ≤ n) : ZS n (ntx w ts) := by
  have ln := ntx_len ok
  have ok2 : WdOk w ∧ Nt.Oks ts := by simpa only [Nt.Ok] using ok
  refine ⟨by omega, fun c hc => ?_⟩
  rw [ntx_tl] at hc
  rcases List.mem_append.mp hc with hc | hc
  · have := ok2.1.2 c hc
    omega
  · exact itsL_sg ok2.2 c hc
theorem mk_zs {m : Mk} (h : GdM m) : ZS 500 m.txt := by
  obtain ⟨a, b, c, d⟩ := mnt_is h.ok
  have := h.dp
  unfold Mk.txt
  rw [mnt_node m] at a c
  exact ntx_zs a (by omega)
theorem fm_zs {f : Fm} (h : GdF f) : ZS 500 f.txt := by
  have a := fnt_ok f h.ins
  have c := fnt_wt f
  have := h.sz
  unfold Fm.txt
  rw [fnt_node f] at a c
  exact ntx_zs a (by omega)
theorem GdF.nt {f : Fm} (h : GdF f) : ∃ w ts, f.nt = .node w ts ∧ f.txt = ntx w ts ∧ (Nt.node w ts).data = f.data ∧ (Nt.node w ts).Ok ∧ (Nt.node w ts).dep ≤ 8 ∧ (Nt.node w ts).wt ≤ 1000000 ∧ (Nt.node w ts).Tb := by
  have en := fnt_node f
  have ok := fnt_ok f h.ins
  have wt := fnt_wt f
  have ds := fnt_dep f
  have ed := fnt_data f
  have tb := fnt_tb f
  have := h.dp
  have := h.sz
  refine ⟨f.nt.wd, f.nt.sub, en, rfl, ?_⟩
  rw [← en]
  exact ⟨ed, ok, by omega, by omega, tb⟩
theorem row_zs {bs : List Int} (h : Bits bs) {n : Nat} (l : bs.length ≤ n) : ZS n (rowS bs) := by
  refine ⟨by rw [rowS_len h]; exact l, fun c hc => ?_⟩
  rw [tl_rowS h] at hc
  obtain ⟨b, hb, rfl⟩ := List.mem_map.mp hc
  rcases h b hb with rfl | rfl <;> decide
theorem times_zs {n : Nat} {z : Str} (h : ZS n z) (k : Nat) : ZS (n * k) (timesS z k) := ⟨by
  rw [timesS_len]
  exact Nat.mul_le_mul_right k h.len, fun c hc => by
  have hc : c ∈ (List.replicate k (TL.tl z)).flatten := hc
  obtain ⟨l, hl, hc⟩ := List.mem_flatten.mp hc
  rw [List.eq_of_mem_replicate hl] at hc
  exact h.sg c hc⟩
structure TbK {K : PySem.W.Frag} {mg : Str → Option Value} (T : Defs K mg) (H : Hp) : Prop where
  r : GxR.TabG H T.P_is_row
  t : GxR.TabG H T.P_is_table
  f : GxR.TabG H T.P_row_from
theorem TbK.sam {K : PySem.W.Frag} {mg : Str → Option Value} {T : Defs K mg} {H H' : Hp} (h : TbK T H) (s : Sam H H') : TbK T H' := ⟨s.tabG h.r, s.tabG h.t, s.tabG h.f⟩
theorem TbK.bus {K : PySem.W.Frag} {mg : Str → Option Value} {T : Defs K mg} {H H' : Hp} {p : Addr} {n : Nat} (h : TbK T H) (B : Bx H p n) (s : Bus p H H') : TbK T H' := ⟨s.tabG B h.r, s.tabG B h.t, s.tabG B h.f⟩
theorem Bus.same {p : Addr} {H H' : Hp} (s : Same H H') : Bus p H H' := .sam (.of s)
def sp_law {K : PySem.W.Frag} {mg : Str → Option Value} (T : Defs K mg) : Sp := fun vs H Q _ => ∃ (a : Addr) (ns : List Int), vs = [.ref a] ∧ SqL K H a (ns.map V.int) ∧ ns.length ≤ 63 ∧ (GxR.TabG H T.P_is_row ∧ GxR.TabG H T.P_is_table ∧ GxR.TabG H T.P_row_from ∧ True) ∧ ∀ H', Q (.bl true) H'
theorem ok_law (T : Defs K mg) (TT : Tabs T base) : GOk P w K mg base CX0 25 T.f_law T.fd_law ["_law_script"] (sp_law T) := by
  have G__law_folded : FnOk P w K mg base CX0 1 T.f__law_folded T.fd__law_folded ["_law_script", "_law_many"] (sp__law_folded K) := ok__law_folded T TT
  have G__law_box : FnOk P w K mg base CX0 1 T.f__law_box T.fd__law_box ["_law_script", "_law_k"] (sp__law_box K) := ok__law_box T TT
  have G__law_maker : FnOk P w K mg base CX0 10 T.f__law_maker T.fd__law_maker ["_law_box_here", "_law_most"] (sp__law_maker K) := ok__law_maker T TT
  have G__law_any : FnOk P w K mg base CX0 12 T.f__law_any T.fd__law_any ["_law_box_here"] (sp__law_any K) := ok__law_any T TT
  have G__law_written : FnOk P w K mg base CX0 10 T.f__law_written T.fd__law_written ["_law_thing"] (sp__law_written K) := ok__law_written T TT
  have G__law_take : FnOk P w K mg base CX0 1 T.f__law_take T.fd__law_take ["_law_box_here", "_law_many"] (sp__law_take K) := ok__law_take T TT
  have G__law_told : FnOk P w K mg base CX0 12 T.f__law_told T.fd__law_told ["_law_which", "_law_text"] (sp__law_told T) := ok__law_told T TT
  have G__law_spoilt : FnOk P w K mg base CX0 2 T.f__law_spoilt T.fd__law_spoilt ["_law_box_here", "_law_text"] (sp__law_spoilt K) := ok__law_spoilt T TT
  have G__law_due : FnOk P w K mg base CX0 24 T.f__law_due T.fd__law_due ["_law_which", "_law_text"] (sp__law_due K) := ok__law_due T TT
  refine gok_of T.F_law sc_law (fun vs H Q E h => ?_) (fun cdv A outer s H vs Q E hg hr h => ?_)
  · obtain ⟨a, ns, rfl, hS, hlen, ⟨g1, g2, g3, _⟩, q⟩ := h
    rfl
  · obtain ⟨a, ns, rfl, hS, hlen, ⟨g1, g2, g3, _⟩, q⟩ := h
    refine ⟨_, PSs.nox (pss_cons (ps_set (i := 1) sc_law.nd rfl (.inl rfl) (pe_call G__law_folded (hr.mono (by decide)) (by rfl) T.g__law_folded T.F__law_folded.kp T.b__law_folded .nil pass0 (pa_cons (pv 0) (pa_cons pe_int pa_nil))))
    (pss_cons ((ps_for PassesOwn.never rfl (pi_range1 (by rfl) T.m_range (pa_cons (pe_callB (call_max2 rfl) (by rfl) T.m_max bt_max (pa_cons pe_int (pa_cons (pe_callB call_len_seq (by rfl) T.m_len bt_len (pa_cons (pv 1) pa_nil)) pa_nil))) pa_nil)) (pg_name (i := 2) sc_law.nd rfl (.inl rfl)) (pss_cons (ps_set (i := 3) sc_law.nd rfl (.inr rfl) (pe_call G__law_box (hr.mono (by decide)) (by rfl) T.g__law_box T.F__law_box.kp T.b__law_box .nil pass0 (pa_cons (pv 1) (pa_cons (pv 2) pa_nil))))
    (pss_cons (ps_set (i := 4) sc_law.nd rfl (.inl rfl) (pe_join pe_str (pe_lc (own := [("_law_bit", 16)]) (g := gName 16) (tt := tYes) rfl sc_law.nd (pi_range1 (by rfl) T.m_range (pa_cons (pe_op op_add pe_int (pe_call G__law_take (hr.mono (by decide)) (by rfl) T.g__law_take T.F__law_take.kp T.b__law_take .nil pass0 (pa_cons (pv 3) (pa_cons pe_int pa_nil)))) pa_nil)) (blkOk_by (N := N_law) (sc := defScope s_law) (by decide +kernel)) (fun _ _ _ _ _ => (pg_name (i := 16) sc_law.nd rfl (.inl rfl))) (fun _ _ _ _ _ => pts_nil) (fun _ _ _ _ _ => (pe_ix ix_str pe_str (pe_call G__law_take (hr.mono (by decide)) (by rfl) T.g__law_take T.F__law_take.kp T.b__law_take .nil pass0 (pa_cons (pv 3) (pa_cons pe_int pa_nil))) (fun _ _ => rfl))))))
    (pss_cons (ps_par (i := 5) (j := 6) (by rfl) sc_law.nd rfl rfl (by decide) rfl rfl (pa_cons (pe_call G__law_maker (hr.mono (by decide)) (by rfl) T.g__law_maker T.F__law_maker.kp T.b__law_maker .nil pass0 (pa_cons (pv 3) (pa_cons pe_int pa_nil))) (pa_cons (pe_call G__law_any (hr.mono (by decide)) (by rfl) T.g__law_any T.F__law_any.kp T.b__law_any .nil pass0 (pa_cons (pv 3) pa_nil)) pa_nil)) (by rfl))
    (pss_cons (ps_set (i := 7) sc_law.nd rfl (.inl rfl) (pe_lst (pa_cons (pv 4) (pa_cons (pe_call G__law_written (hr.mono (by decide)) (by rfl) T.g__law_written T.F__law_written.kp T.b__law_written .nil pass0 (pa_cons (pv 5) pa_nil)) (pa_cons (pe_call G__law_written (hr.mono (by decide)) (by rfl) T.g__law_written T.F__law_written.kp T.b__law_written .nil pass0 (pa_cons (pv 6) pa_nil)) pa_nil)))))
    (pss_one ((ps_for PassesOwn.never rfl (pi_enum (by rfl) T.m_enumerate (pa_cons (pv 7) pa_nil)) (pg_tup rfl (pgs_cons (pg_name (i := 8) sc_law.nd rfl (.inl rfl)) (pgs_cons (pg_name (i := 9) sc_law.nd rfl (.inl rfl)) pgs_nil))) (pss_cons (ps_if (PW.pt (pw_or (pt_cmpR op_ne (pe_callB (cr_reprX hg (u65g hr)) (by rfl) T.m_repr bt_repr (pa_cons (pe_call G__law_told (hr.mono (by decide)) (by rfl) T.g__law_told T.F__law_told.kp T.b__law_told .nil pass0 (pa_cons (pv 8) (pa_cons (pv 9) pa_nil))) pa_nil)) (pe_callB (cr_reprX hg (u65g hr)) (by rfl) T.m_repr bt_repr (pa_cons (pe_call G__law_due (hr.mono (by decide)) (by rfl) T.g__law_due T.F__law_due.kp T.b__law_due .nil pass0 (pa_cons (pv 8) (pa_cons (pv 9) pa_nil))) pa_nil)) (nomark _)) (pw_or1 (pt_cmpR op_isN (pe_call G__law_told (hr.mono (by decide)) (by rfl) T.g__law_told T.F__law_told.kp T.b__law_told .nil pass0 (pa_cons (pv 8) (pa_cons (pv 9) pa_nil))) pe_non (nomark _))))) (pss_one (ps_ret pe_bl)) pss_nil)
    (pss_cons (ps_set (i := 10) sc_law.nd rfl (.inl rfl) (pe_ix ix_list (pe_lst (pa_cons (pe_op op_repStr pe_str pe_int) (pa_cons (pe_op op_add_str (pe_op op_add_str pe_str (pe_ix ix_list (pv 7) pe_int (fun _ _ => rfl))) pe_str) (pa_cons (pe_op op_add_str (pe_op op_add_str (pe_op op_repStr pe_str pe_int) (pe_ix ix_list (pv 7) pe_int (fun _ _ => rfl))) (pe_op op_repStr pe_str pe_int)) pa_nil)))) (pv 8) (fun _ _ => rfl)))
    (pss_cons (ps_set (i := 11) sc_law.nd rfl (.inl rfl) (pe_ix ix_list (pe_lst (pa_cons pe_str (pa_cons pe_str (pa_cons pe_str pa_nil)))) (pv 8) (fun _ _ => rfl)))
    (pss_cons (ps_set (i := 12) sc_law.nd rfl (.inl rfl) (pe_ix ix_list (pe_lst (pa_cons pe_int (pa_cons pe_int pa_nil))) (pe_callTy call_int1 (by rfl) T.m_int bt_int (pa_cons (pe_cmpR op_eq (pe_call G__law_take (hr.mono (by decide)) (by rfl) T.g__law_take T.F__law_take.kp T.b__law_take .nil pass0 (pa_cons (pv 3) (pa_cons pe_int pa_nil))) pe_int (nomark _)) pa_nil)) (fun _ _ => rfl)))
    (pss_cons (ps_set (i := 13) sc_law.nd rfl (.inl rfl) (pe_lst (pa_cons (pe_op op_add_str (pe_op op_add_str (pe_op op_repStr (pv 11) (pv 12)) (pv 9)) (pe_op op_repStr (pe_op op_repStr pe_str (pv 12)) (pe_callTy call_int1 (by rfl) T.m_int bt_int (pa_cons (pe_cmpR op_gt (pv 8) pe_int (nomark _)) pa_nil)))) (pa_cons (pe_op op_add_str (pe_op op_add_str (pv 9) pe_str) (pe_op op_repStr pe_str (pe_op op_add (pe_op op_add pe_int (pv 12)) (pe_call G__law_take (hr.mono (by decide)) (by rfl) T.g__law_take T.F__law_take.kp T.b__law_take .nil pass0 (pa_cons (pv 3) (pa_cons pe_int pa_nil)))))) pa_nil))))
    (pss_cons (ps_if (pt_cmpR op_gt (pv 12) pe_int (nomark _)) (pss_one (ps_asg (pe_ix ix_list (pe_lst (pa_cons (pe_op op_repStr pe_str pe_int) (pa_cons (pe_op op_add_str (pe_op op_add_str pe_str (pe_op op_repStr pe_str pe_int)) pe_str) (pa_cons (pe_op op_add_str pe_str (pe_op op_repStr pe_str pe_int)) pa_nil)))) (pv 8) (fun _ _ => rfl)) (pg_sub (pv 13) pe_int set_list))) pss_nil)
    (pss_cons (ps_expr (pe_bm PySem.F.plainAttrs_list PySem.F.slot_list_append PySem.F.type_list_append mt_append (pv 13) (pa_cons (pe_ix ix_list (pe_lst (pa_cons pe_str (pa_cons pe_str (pa_cons pe_str pa_nil)))) (pv 8) (fun _ _ => rfl)) pa_nil)))
    (pss_one ((ps_for PassesOwn.never rfl (pi_range1 (by rfl) T.m_range (pa_cons pe_int pa_nil)) (pg_name (i := 14) sc_law.nd rfl (.inl rfl)) (pss_cons (ps_set (i := 15) sc_law.nd rfl (.inl rfl) (pe_ix ix_list (pe_lst (pa_cons (pe_call G__law_spoilt (hr.mono (by decide)) (by rfl) T.g__law_spoilt T.F__law_spoilt.kp T.b__law_spoilt .nil pass0 (pa_cons (pv 3) (pa_cons (pv 9) pa_nil))) (pa_cons (pe_ix ix_list (pv 13) (pe_call G__law_take (hr.mono (by decide)) (by rfl) T.g__law_take T.F__law_take.kp T.b__law_take .nil pass0 (pa_cons (pv 3) (pa_cons pe_int pa_nil))) (fun _ _ => rfl)) (pa_cons (pv 10) pa_nil)))) (pe_callB (call_max2 rfl) (by rfl) T.m_max bt_max (pa_cons pe_int (pa_cons (pe_op op_sub (pv 14) pe_int) pa_nil))) (fun _ _ => rfl)))
    (pss_cons (ps_if (pt_cmpR op_eq (pe_call G__law_take (hr.mono (by decide)) (by rfl) T.g__law_take T.F__law_take.kp T.b__law_take .nil pass0 (pa_cons (pv 3) (pa_cons pe_int pa_nil))) pe_int (nomark _)) (pss_one (ps_set (i := 15) sc_law.nd rfl (.inl rfl) (pe_call G__law_spoilt (hr.mono (by decide)) (by rfl) T.g__law_spoilt T.F__law_spoilt.kp T.b__law_spoilt .nil pass0 (pa_cons (pv 3) (pa_cons (pv 15) pa_nil))))) pss_nil)
    (pss_one (ps_if (pt_cmpR op_ne (pe_callB (cr_reprX hg (u65g hr)) (by rfl) T.m_repr bt_repr (pa_cons (pe_call G__law_told (hr.mono (by decide)) (by rfl) T.g__law_told T.F__law_told.kp T.b__law_told .nil pass0 (pa_cons (pv 8) (pa_cons (pv 15) pa_nil))) pa_nil)) (pe_callB (cr_reprX hg (u65g hr)) (by rfl) T.m_repr bt_repr (pa_cons (pe_call G__law_due (hr.mono (by decide)) (by rfl) T.g__law_due T.F__law_due.kp T.b__law_due .nil pass0 (pa_cons (pv 8) (pa_cons (pv 15) pa_nil))) pa_nil)) (nomark _)) (pss_one (ps_ret pe_bl)) pss_nil)))))))))))))))))))))))
    (pss_one (ps_ret pe_bl)))), ?_⟩
    have tH : TbK T H := ⟨g1, g2, g3⟩
    clear g1 g2 g3
    have hsl : sizeLine = 16777216 := by decide
    refine ⟨.ref a, rfl, a, ns, 3, rfl, hS, hlen, by decide, by decide, fun H1 c cs s1 nc hc lc => ?_⟩
    have t1 := tH.sam (Sam.of s1)
    have hn : (if (((cs.map V.int).length : Nat) : Int) > 2 then (((cs.map V.int).length : Nat) : Int) else 2) ≤ 4 ∧ 0 ≤ (if (((cs.map V.int).length : Nat) : Int) > 2 then (((cs.map V.int).length : Nat) : Int) else 2) := by
      rw [List.length_map]
      split <;> omega
    refine ⟨.ref c, rfl, c, _, rfl, .inl (SqL.mk hc), _, _, rfl, _, rfl, by omega, by omega, for_range (fun i σ H2 => ∃ y2 y3 y4 y5 y6 y7 y8 y9 y10 y11 y12 y13 y14 y15, σ = [some (.ref a), some (.ref c), y2, y3, y4, y5, y6, y7, y8, y9, y10, y11, y12, y13, y14, y15, none] ∧ Sam H1 H2) ⟨none, none, none, none, none, none, none, none, none, none, none, none, none, none, rfl, Sam.refl H1⟩ ?_ ?_⟩
    rotate_left
    · rintro σ H2 ⟨y2, y3, y4, y5, y6, y7, y8, y9, y10, y11, y12, y13, y14, y15, rfl, s2⟩
      exact q _
    rintro i σ H2 hi ⟨y2, y3, y4, y5, y6, y7, y8, y9, y10, y11, y12, y13, y14, y15, rfl, s2⟩
    have hi2 : i < 1000 := by omega
    refine ⟨.ref c, rfl, .int (0 + (i : Int)), rfl, c, cs, i, by rw [Int.zero_add]; rfl, SqL.mk (s2.lst hc), hi2, fun H3 b s3 nb hB => ?_⟩
    have nb1 : H1 b = none := s2.free nb
    have s13 := s2.trans (Sam.of s3)
    have t3 := t1.sam s13
    refine ⟨⟨_, rfl⟩, _, rfl, b, 30, 0, rfl, hB, by decide, by decide, by omega, fun H4 r4 b4 B4 l4 h4 => ⟨_, _, rfl, rfl, 1 + r4, rfl, by omega, by omega, fun D nD => ?_⟩⟩
    obtain ⟨r4, rfl⟩ := nat_of l4
    have nDb : D ≠ b := ne_new B4 nD
    have nD3 : H3 D = none := by
      cases z : H3 D with
      | none => rfl
      | some o =>
        have := b4 _ _ nDb z
        rw [nD] at this
        cases this
    refine lc_range (fun j G => But b H3 G ∧ Bx G b (1 + j) ∧ ∃ rs : List Int, rs.length = j ∧ Bits rs ∧ G D = some (.lst ((rs.map bitS).map V.str))) ⟨b4.trans (same_but (same_upd nD)), B4.new nD, [], rfl, fun _ h => (by cases h), upd_same⟩ (fun j G hj h => ?_) (fun G h => ?_)
    · obtain ⟨cG, BG, rs, lr, br, hD⟩ := h
      have hj2 : j < 31 := by omega
      refine ⟨rfl, yes_ite ⟨.ref b, rfl, b, 2, _, rfl, BG, by decide, by decide, by omega, fun G2 r2 u2 B2 l2 h2 => ?_⟩⟩
      have r01 : r2 = 0 ∨ r2 = 1 := by omega
      have ch : atI (("01" : Str)).cps.toList r2 = some (48 + r2.toNat) := by
        rcases r01 with rfl | rfl <;> decide +kernel
      refine ⟨_, r2, _, rfl, rfl, by decide +kernel, ch, _, u2 _ _ nDb hD, by rw [List.length_map, List.length_map]; omega, fun x o hx e => ?_, (B2.other nDb).mono (by omega), rs ++ [r2], by rw [List.length_append, lr]; rfl, fun x hx => ?_, ?_⟩
      · rw [upd_ne (fun z => by rw [z, nD3] at e; cases e)]
        exact u2 _ _ hx (cG _ _ hx e)
      · rcases List.mem_append.mp hx with hx | hx
        · exact br x hx
        · rw [List.mem_singleton.mp hx]
          exact r01
      · rw [upd_same, ← bit_sign r01, List.map_append, List.map_append]
        rfl
    obtain ⟨cG, BG, rs, lr, br, hD⟩ := h
    have lr1 : rs.length = 1 + r4 := by omega
    have sumb : ∀ l : List Int, Bits l → ((l.map bitS).map (·.length)).sum = l.length := fun l h => by
      induction l with
      | nil => rfl
      | cons x l ih =>
        have e : (bitS x).length = 1 := by rw [TL.len_tl, tl_bit (h x List.mem_cons_self)]; rfl
        rw [List.map_cons, List.map_cons, List.sum_cons, e, ih fun y hy => h y (List.mem_cons_of_mem _ hy), List.length_cons]
        omega
    refine ⟨_, D, rs.map bitS, rfl, rfl, .inl (SqL.mk hD), ?_, ?_⟩
    · rw [sumb rs br, List.length_map, show ("" : Str).length = 0 by decide +kernel]
      omega
    have gr : GdR rs := ⟨br, by omega, by omega⟩
    have zr : ZS 31 (rowS rs) := row_zs br (by omega)
    show gName 4 (.str (rowS rs)) _ _ _
    have bG : Bus b H3 G := .of cG
    have tG := t3.bus hB bG
    have hr4 : r4 < 30 := by omega
    clear b4 B4 l4 h4 nD hD
    refine ⟨_, rfl, b, 4096, _, rfl, BG, by omega, by decide, fun F3 v1 m c3 B3 hm ok dm rnm vdm => ?_⟩
    refine ⟨_, rfl, b, _, rfl, B3, by omega, fun F4 v2 f c4 B4 hf d8 s24 i6 => ⟨_, _, rfl, ?_⟩⟩
    have hm4 := hm.but B3 c4
    have gm : GdM m := ⟨ok, vdm, dm, by omega⟩
    have gf : GdF f := ⟨i6, d8, s24⟩
    obtain ⟨wm, tsm, enm, etm, edm, okm, dpm, wtm, tbm⟩ := gm.nt
    obtain ⟨wf, tsf, enf, etf, edf, okf, dpf, wtf, tbf⟩ := gf.nt
    have tgm : Tg (fun _ => False) F4 v1 (Nt.node wm tsm).data := by
      rw [edm]
      exact mk_tg (p := fun _ => False) (fun _ _ _ z => z) hm4
    have tgf : Tg (fun _ => False) F4 v2 (Nt.node wf tsf).data := by
      rw [edf]
      exact tg_fm (p := fun _ => False) (fun _ _ _ z => z) hf
    refine ⟨_, rfl, _, rfl, v1, _, wm, tsm, rfl, tgm, okm, by omega, wtm, tbm, fun F5 s5 => ?_⟩
    refine ⟨_, rfl, v2, _, wf, tsf, rfl, tgf.same s5, okf, by omega, wtf, tbf, fun F6 s6 => ⟨(show 3 ≤ sizeLine by decide), fun X nX => ?_⟩⟩
    rw [← etm, ← etf]
    have sX := same_upd nX (o := .lst [.str (rowS rs), .str m.txt, .str f.txt])
    have hX := upd_same (H := F6) (a := X) (o := .lst [.str (rowS rs), .str m.txt, .str f.txt])
    have bX : Bus b H3 (upd F6 X (.lst [.str (rowS rs), .str m.txt, .str f.txt])) := (bG.trans (.of (c3.trans c4))).trans (Bus.same (s5.trans (s6.trans sX)))
    have BX : Bx (upd F6 X (.lst [.str (rowS rs), .str m.txt, .str f.txt])) b 1000 := (B4.same (s5.trans (s6.trans sX))).mono (by omega)
    generalize upd F6 X (.lst [.str (rowS rs), .str m.txt, .str f.txt]) = Z0 at hX bX BX ⊢
    have tZ := t3.bus hB bX
    have Xb : X ≠ b := fun e => by
      obtain ⟨_, _, _, e2, _⟩ := BX
      rw [← e, hX] at e2
      cases e2
    have zm := mk_zs gm
    have zf := fm_zs gf
    have all : ∀ (j : Nat) (x : V), [V.str (rowS rs), .str m.txt, .str f.txt][j]? = some x → ∃ z d, x = .str z ∧ AcD j z d ∧ ZS 500 z := fun j x e => by
      match j, e with
      | 0, e => cases e; exact ⟨_, _, rfl, ⟨rs, gr, rfl, rfl⟩, zr.mono (by decide)⟩
      | 1, e => cases e; exact ⟨_, _, rfl, ⟨m, gm, rfl, rfl⟩, zm⟩
      | 2, e => cases e; exact ⟨_, _, rfl, ⟨f, gf, rfl, rfl⟩, zf⟩
    clear c3 c4 s5 s6 sX B3 B4 hm hm4 hf tgm tgf
    refine ⟨.ref X, rfl, X, _, rfl, SqL.mk hX, for_it (walk_enum (xs := [V.str (rowS rs), .str m.txt, .str f.txt])) (fun j σ Z => ∃ y8 y9 y10 y11 y12 y13 y14 y15, σ = [some (.ref a), some (.ref c), some (.int (0 + (i : Int))), some (.ref b), some (.str (rowS rs)), some v1, some v2, some (.ref X), y8, y9, y10, y11, y12, y13, y14, y15, none] ∧ Bus b Z0 Z ∧ Bx Z b (1000 + 1000 * j)) ⟨y8, y9, y10, y11, y12, y13, y14, y15, rfl, Bus.refl b Z0, BX⟩ ?_ ?_ ?_⟩
    · rintro j σ Z hj ⟨y8, y9, y10, y11, y12, y13, y14, y15, rfl, bZ, BZ⟩
      exact SqL.mk (bZ.lst Xb hX)
    rotate_left
    · rintro σ Z ⟨y8, y9, y10, y11, y12, y13, y14, y15, rfl, bZ, BZ⟩
      exact ⟨_, _, _, _, _, _, _, _, _, _, _, _, _, _, rfl, bus_same nb1 s13 (bX.trans bZ)⟩
    rintro j x σ Z Z1 hj ⟨y8, y9, y10, y11, y12, y13, y14, y15, rfl, bZ, BZ⟩ ⟨t, x1, x2, rfl, nt, rfl, e1, e2⟩
    have hj3 : j < 3 := hj
    have ex1 : x1 = .int (j : Nat) := (Option.some.inj e1).symm
    subst ex1
    obtain ⟨z, d, rfl, ac, zz⟩ := all j x2 e2
    have st := same_upd nt (o := .tup [.int (j : Nat), .str z])
    have ht := upd_same (H := Z) (a := t) (o := .tup [.int (j : Nat), .str z])
    have bZ1 : Bus b Z0 (upd Z t (.tup [.int (j : Nat), .str z])) := bZ.trans (Bus.same st)
    have BZ1 := BZ.same st
    have hX1 := bZ1.lst Xb hX
    generalize upd Z t (.tup [.int (j : Nat), .str z]) = Z1 at ht bZ1 BZ1 hX1 ⊢
    clear bZ BZ st nt
    refine ⟨t, _, rfl, SqT.mk ht, rfl, _, _, rfl, _, _, rfl, rfl, ?_⟩
    have tZ1 := tZ.bus BX bZ1
    obtain ⟨ds, rfl⟩ := acd_tup ac
    have sho := acd_sho ac
    refine ⟨_, rfl, _, rfl, j, z, rfl, by omega, zz.ok (by decide), tZ1.r, tZ1.t, tZ1.f, fun d' ac' W v w1 tg => ?_, fun no => absurd ac (no _)⟩
    obtain rfl := acd_fun ac ac'
    refine ⟨v, _, rfl, tg.dp, sho, ?_⟩
    refine ⟨_, rfl, _, rfl, j, z, rfl, by omega, zz.ok (by decide), fun d' ac' W2 vb w2 tg2 => ?_, fun no => absurd ac (no _)⟩
    obtain rfl := acd_fun ac ac'
    refine ⟨vb, _, rfl, tg2.dp, sho, rfl, _, rfl, ?_⟩
    rw [decide_eq_true rfl]
    have w12 := w1.trans (Sam.of w2)
    have tW := tZ1.sam w12
    refine iteF ⟨_, rfl, _, rfl, j, z, rfl, by omega, zz.ok (by decide), tW.r, tW.t, tW.f, fun d' ac' W3 v3 w3 tg3 => ?_, fun no => absurd ac (no _)⟩
    obtain rfl := acd_fun ac ac'
    obtain ⟨u3, xs3, rfl, _⟩ := tg3.tupv
    refine ⟨rfl, _, rfl, ?_⟩
    rw [decide_eq_false (show ¬ V.ref u3 = V.non from fun z => by cases z)]
    have w13 := w12.trans w3
    have bW : Bus b Z0 W3 := bZ1.trans (.sam w13)
    have BW := BZ1.sam w13
    have hXW := bW.lst Xb hX
    have zl := zz.len
    clear w1 w2 w3 w12 w13 tg tg2 tg3 tW tZ1 bZ1 BZ1 hX1 ht
    have lz0 : ("0" : Str).length = 1 := by decide +kernel
    have lls : ("less (" : Str).length = 6 := by decide +kernel
    have lcb : (")" : Str).length = 1 := by decide +kernel
    have lsl : ("slow 64 (" : Str).length = 9 := by decide +kernel
    have zcb : ZS 1 (")" : Str) := zs_lit (by decide +kernel)
    have n0 := times_zs (zs_lit (n := 1) (z := "0") (by decide +kernel)) 4097
    have n1 := ((zs_lit (n := 9) (z := "slow 64 (") (by decide +kernel)).app zm).app zcb
    have n2 := ((times_zs (zs_lit (n := 6) (z := "less (") (by decide +kernel)) 7).app zf).app (times_zs zcb 7)
    have zml := zm.len
    have zfl := zf.len
    refine iteF ⟨_, 4097, rfl, rfl, by rw [lz0]; decide, by decide, ?_⟩
    refine ⟨.ref X, rfl, X, _, 1, _, rfl, rfl, SqL.mk hXW, rfl, _, _, rfl, rfl, by rw [lsl]; omega, _, _, rfl, rfl, by rw [ap_len, lsl, lcb]; omega, ?_⟩
    refine ⟨_, 7, rfl, rfl, by rw [lls]; decide, by decide, .ref X, rfl, X, _, 2, _, rfl, rfl, SqL.mk hXW, rfl, _, _, rfl, rfl, by rw [timesS_len, lls]; omega, _, 7, rfl, rfl, by rw [lcb]; decide, by decide, _, _, rfl, rfl, by rw [ap_len, timesS_len, timesS_len, lls, lcb]; omega, ?_⟩
    refine ⟨(show 3 ≤ sizeLine by decide), fun L1 nL1 => ?_⟩
    have sA := same_upd nL1 (o := .lst [.str (timesS "0" 4097), .str ("slow 64 (" ++ m.txt ++ ")"), .str (timesS "less (" 7 ++ f.txt ++ timesS ")" 7)])
    have menu3 : ∀ {N : Nat} {x1 x2 x3 : Str}, ZS N x1 → ZS N x2 → ZS N x3 → ∃ v, atI [V.str x1, .str x2, .str x3] ((j : Nat) : Int) = some v ∧ ∃ y, v = V.str y ∧ ZS N y := fun {N x1 x2 x3} g1 g2 g3 => at_menuV (Pr := fun v => ∃ y, v = V.str y ∧ ZS N y) (xs := [V.str x1, .str x2, .str x3]) (r := ((j : Nat) : Int)) (by omega) (by show ((j : Nat) : Int) < 3; omega) (fun v hv => by
      simp only [List.mem_cons, List.not_mem_nil, or_false] at hv
      rcases hv with rfl | rfl | rfl
      · exact ⟨_, rfl, g1⟩
      · exact ⟨_, rfl, g2⟩
      · exact ⟨_, rfl, g3⟩)
    obtain ⟨vm, em, more, rfl, zmore⟩ := menu3 (N := 5000) (n0.mono (by decide)) (n1.mono (by decide)) (n2.mono (by decide))
    refine ⟨_, rfl, L1, _, _, _, rfl, rfl, SqL.mk upd_same, em, ?_⟩
    refine ⟨(show 3 ≤ sizeLine by decide), fun L2' nL2 => ?_⟩
    have sB := sA.trans (same_upd nL2 (o := .lst [.str "", .str "late 1 (", .str "less ("]))
    obtain ⟨vw, ew, word, rfl, zword⟩ := menu3 (N := 8) (x1 := "") (x2 := "late 1 (") (x3 := "less (") (zs_lit (by decide +kernel)) (zs_lit (by decide +kernel)) (zs_lit (by decide +kernel))
    refine ⟨_, rfl, L2', _, _, _, rfl, rfl, SqL.mk upd_same, ew, ?_⟩
    refine ⟨(show 2 ≤ sizeLine by decide), fun L3 nL3 => ?_⟩
    have sC := sB.trans (same_upd nL3 (o := .lst [.int 40, .int 3000]))
    have hL3 := upd_same (H := upd (upd W3 L1 (.lst [.str (timesS "0" 4097), .str ("slow 64 (" ++ m.txt ++ ")"), .str (timesS "less (" 7 ++ f.txt ++ timesS ")" 7)])) L2' (.lst [.str "", .str "late 1 (", .str "less ("])) (a := L3) (o := .lst [.int 40, .int 3000])
    have L3b : L3 ≠ b := ne_new (BW.same sB) nL3
    have BC := BW.same sC
    generalize upd (upd (upd W3 L1 (.lst [.str (timesS "0" 4097), .str ("slow 64 (" ++ m.txt ++ ")"), .str (timesS "less (" 7 ++ f.txt ++ timesS ")" 7)])) L2' (.lst [.str "", .str "late 1 (", .str "less ("])) L3 (.lst [.int 40, .int 3000]) = C0 at sC hL3 BC ⊢
    clear sA sB nL1 nL2 nL3 hXW
    refine ⟨.ref b, rfl, b, 8, _, rfl, BC, by decide, by decide, by omega, fun C1 r8 u8 B8 l8 h8 => ⟨rfl, ?_⟩⟩
    have hL3C := u8 _ _ L3b hL3
    have many2 : ∀ kk : Bool, ∃ n : Nat, atI [V.int 40, V.int 3000] (if kk = true then 1 else 0) = some (.int (n : Nat)) ∧ (n = 40 ∨ n = 3000) := fun kk => by
      cases kk
      · exact ⟨40, rfl, .inl rfl⟩
      · exact ⟨3000, rfl, .inr rfl⟩
    have int01 : ∀ kk : Bool, ∃ n : Nat, (if kk = true then (1 : Int) else 0) = (n : Nat) ∧ n ≤ 1 := fun kk => by
      cases kk
      · exact ⟨0, rfl, by decide⟩
      · exact ⟨1, rfl, by decide⟩
    obtain ⟨n, en, hn⟩ := many2 (decide (V.int r8 = V.int 0))
    refine .inr ⟨_, rfl, L3, _, _, _, rfl, rfl, SqL.mk hL3C, en, ?_⟩
    have hn3 : n ≤ 3000 := by omega
    have zwl := zword.len
    have mw : word.length * n ≤ 24000 := Nat.le_trans (Nat.mul_le_mul zwl hn3) (by decide)
    refine ⟨_, rfl, _, rfl, word, n, rfl, rfl, by omega, by omega, _, rfl, _, _, rfl, rfl, by rw [timesS_len]; omega, ?_⟩
    refine ⟨_, rfl, _, n, rfl, rfl, by rw [lcb]; omega, by omega, ?_⟩
    refine ⟨_, rfl, _, _, rfl, rfl, .inr ⟨_, rfl, ?_⟩⟩
    obtain ⟨one, eone, hone⟩ := int01 (decide ((0 : Int) < ((j : Nat) : Int)))
    have lcn : (timesS ")" n).length * one ≤ 3000 := by
      rw [timesS_len, lcb, Nat.one_mul]
      exact Nat.le_trans (Nat.mul_le_mul hn3 hone) (by decide)
    refine ⟨_, one, rfl, congrArg V.int eone, by omega, by omega, _, _, rfl, rfl, by rw [ap_len, timesS_len (timesS ")" n)]; rw [timesS_len word]; omega, ?_⟩
    refine ⟨_, rfl, _, _, rfl, rfl, by rw [show (" " : Str).length = 1 by decide +kernel]; omega, ?_⟩
    refine ⟨_, rfl, _, _, rfl, rfl, .ref b, rfl, b, 30, _, rfl, B8, by decide, by decide, by omega, fun C2 r9 u9 B9 l9 h9 => ?_⟩
    obtain ⟨r9, rfl⟩ := nat_of l9
    refine ⟨_, _, rfl, rfl, _, 4 + n + r9, rfl, congrArg V.int (show (4 : Int) + (n : Nat) + (r9 : Nat) = ((4 + n + r9 : Nat) : Int) by omega), by rw [show ("9" : Str).length = 1 by decide +kernel]; omega, by omega, _, _, rfl, rfl, by rw [ap_len, timesS_len, show (" " : Str).length = 1 by decide +kernel, show ("9" : Str).length = 1 by decide +kernel]; omega, (show 2 ≤ sizeLine by decide), fun L4 nL4 => ?_⟩
    have lsp : (" " : Str).length = 1 := by decide +kernel
    have zo1 : ZS 30000 (timesS word n ++ z ++ timesS (timesS ")" n) one) := (((times_zs zword n).app zz).app (times_zs (times_zs zcb n) one)).mono (by
      have : 1 * n * one ≤ 3000 := by
        rw [Nat.one_mul]
        exact Nat.le_trans (Nat.mul_le_mul hn3 hone) (by decide)
      omega)
    have zo2 : ZS 9000 (z ++ " " ++ timesS "9" (4 + n + r9)) := ((zz.app (zs_lit (n := 1) (z := " ") (by decide +kernel))).app (times_zs (zs_lit (n := 1) (z := "9") (by decide +kernel)) (4 + n + r9))).mono (by omega)
    generalize timesS word n ++ z ++ timesS (timesS ")" n) one = o1 at zo1 ⊢
    generalize z ++ " " ++ timesS "9" (4 + n + r9) = o2 at zo2 ⊢
    have hL4 := upd_same (H := C2) (a := L4) (o := .lst [.str o1, .str o2])
    have sL4 := same_upd nL4 (o := .lst [.str o1, .str o2])
    generalize upd C2 L4 (.lst [.str o1, .str o2]) = C3 at hL4 sL4 ⊢
    show gName 13 (.ref L4) _ _ _
    refine nx_via (σ := [some (.ref a), some (.ref c), some (.int (0 + (i : Int))), some (.ref b), some (.str (rowS rs)), some v1, some v2, some (.ref X), some (.int (j : Nat)), some (.str z), some (.str more), some (.str word), some (.int (n : Nat)), some (.ref L4), y14, y15, none]) (fun σ G => ∃ z2, σ = [some (.ref a), some (.ref c), some (.int (0 + (i : Int))), some (.ref b), some (.str (rowS rs)), some v1, some v2, some (.ref X), some (.int (j : Nat)), some (.str z), some (.str more), some (.str word), some (.int (n : Nat)), some (.ref L4), y14, y15, none] ∧ Same C2 G ∧ G L4 = some (.lst [.str o1, .str z2]) ∧ ZS 9000 z2) (fun N' hN' => ?_) ?_
    · refine ⟨_, rfl, _, _, rfl, rfl, _, rfl, ?_⟩
      refine ite2 (fun _ => ?_) (fun _ => hN' _ _ ⟨o2, rfl, sL4, hL4, zo2⟩)
      have l1 : ("1" : Str).length = 1 := by decide +kernel
      refine ⟨_, 5000, rfl, rfl, by rw [l1]; decide, by decide, _, 5000, rfl, rfl, by rw [l1]; decide, by decide, _, _, rfl, rfl, by rw [timesS_len, l1, show ("counter " : Str).length = 8 by decide +kernel]; decide, _, _, rfl, rfl, by rw [ap_len, timesS_len, l1, show ("counter " : Str).length = 8 by decide +kernel, show (" 1 0" : Str).length = 4 by decide +kernel]; decide, _, 5000, rfl, rfl, by rw [l1]; decide, by decide, _, _, rfl, rfl, by rw [timesS_len, l1, show ("in " : Str).length = 3 by decide +kernel]; decide, (show 3 ≤ sizeLine by decide), fun L5 nL5 => ?_⟩
      have p0 : ZS 5000 (timesS "1" 5000) := times_zs (zs_lit (n := 1) (z := "1") (by decide +kernel)) 5000
      have p1 := ((zs_lit (n := 8) (z := "counter ") (by decide +kernel)).app p0).app (zs_lit (n := 4) (z := " 1 0") (by decide +kernel))
      have p2 := (zs_lit (n := 3) (z := "in ") (by decide +kernel)).app p0
      obtain ⟨vq, eq, z2, rfl, zq⟩ := menu3 (N := 9000) (p0.mono (by decide)) (p1.mono (by decide)) (p2.mono (by decide))
      have s5 := same_upd nL5 (o := .lst [.str (timesS "1" 5000), .str ("counter " ++ timesS "1" 5000 ++ " 1 0"), .str ("in " ++ timesS "1" 5000)])
      refine ⟨_, rfl, L5, _, _, _, rfl, rfl, SqL.mk upd_same, eq, ?_⟩
      refine ⟨_, rfl, L4, _, 1, 1, rfl, rfl, s5 _ _ hL4, rfl, hN' _ _ ⟨z2, rfl, fun x o e => ?_, upd_same, zq⟩⟩
      rw [upd_ne (fun z => by rw [z, nL4] at e; cases e)]
      exact s5 _ _ (sL4 _ _ e)
    clear zo2
    rintro σ D0 ⟨z2, rfl, s2D, hL4, zo2⟩
    refine ⟨_, rfl, .inl ⟨rfl, _, SqL.mk hL4⟩, (show 3 ≤ sizeLine by decide), fun L6 nL6 => ?_⟩
    have s6 := same_upd nL6 (o := .lst [.str "0 1", .str "counter 00003 1 0", .str "in 00002"])
    obtain ⟨v6, e6, z3, rfl, zo3⟩ := menu3 (N := 40) (x1 := "0 1") (x2 := "counter 00003 1 0") (x3 := "in 00002") (zs_lit (by decide +kernel)) (zs_lit (by decide +kernel)) (zs_lit (by decide +kernel))
    refine ⟨_, rfl, L6, _, _, _, rfl, rfl, SqL.mk upd_same, e6, L4, _, _, rfl, rfl, s6 _ _ hL4, (show 2 < sizeLine by decide), ?_⟩
    have sE : Same C2 (upd (upd D0 L6 (.lst [.str "0 1", .str "counter 00003 1 0", .str "in 00002"])) L4 (.lst ([V.str o1, .str z2] ++ [.str z3]))) := fun x o e => by
      rw [upd_ne (fun z => by rw [z, nL4] at e; cases e)]
      exact s6 _ _ (s2D _ _ e)
    have hLE := upd_same (H := upd D0 L6 (.lst [.str "0 1", .str "counter 00003 1 0", .str "in 00002"])) (a := L4) (o := .lst ([V.str o1, .str z2] ++ [.str z3]))
    generalize upd (upd D0 L6 (.lst [.str "0 1", .str "counter 00003 1 0", .str "in 00002"])) L4 (.lst ([V.str o1, .str z2] ++ [.str z3])) = E0 at sE hLE ⊢
    have L4b : L4 ≠ b := ne_new B9 nL4
    have bE : Bus b Z0 E0 := bW.trans ((Bus.same sC).trans ((Bus.of u8).trans ((Bus.of u9).trans (Bus.same sE))))
    have BE := B9.same sE
    have tE := tZ.bus BX bE
    clear s6 sE s2D nL6 hL4 nL4 sL4 u9 u8 sC bW
    refine ⟨_, rfl, by omega, by omega, for_range (fun t σ G => ∃ y14 y15, σ = [some (.ref a), some (.ref c), some (.int (0 + (i : Int))), some (.ref b), some (.str (rowS rs)), some v1, some v2, some (.ref X), some (.int (j : Nat)), some (.str z), some (.str more), some (.str word), some (.int (n : Nat)), some (.ref L4), y14, y15, none] ∧ Bus b E0 G ∧ Bx G b (1100 + 1000 * j + 100 * t)) ⟨y14, y15, rfl, Bus.refl b E0, BE.mono (by omega)⟩ ?_ ?_⟩
    rotate_left
    · rintro σ G ⟨y14, y15, rfl, bG2, BG2⟩
      exact ⟨_, _, _, _, _, _, _, _, rfl, bE.trans bG2, BG2.mono (by omega)⟩
    rintro t σ G ht ⟨y14, y15, rfl, bG2, BG2⟩
    have ht8 : t < 8 := by omega
    have zz1 : ZS 500 z := zz
    refine ⟨_, rfl, _, rfl, b, _, 500, z, rfl, BG2, by omega, zz1, by decide, fun G1 w1 bg1 B1 zw1 => ?_⟩
    have L41 : G1 L4 = some (.lst [.str o1, .str z2, .str z3]) := bg1 _ _ L4b (bG2.lst L4b hLE)
    refine ⟨_, rfl, .ref b, rfl, b, 3, _, rfl, B1, by decide, by decide, by omega, fun G2 r3 u3 B3 l3 h3 => ?_⟩
    obtain ⟨vo, eo, od, rfl, zod⟩ := at_menuV (Pr := fun v => ∃ y, v = V.str y ∧ ZS 30000 y) (xs := [V.str o1, .str z2, .str z3]) (r := r3) l3 (by show r3 < 3; omega) (fun v hv => by
      simp only [List.mem_cons, List.not_mem_nil, or_false] at hv
      rcases hv with rfl | rfl | rfl
      · exact ⟨_, rfl, zo1⟩
      · exact ⟨_, rfl, zo2.mono (by decide)⟩
      · exact ⟨_, rfl, zo3.mono (by decide)⟩)
    refine ⟨L4, _, _, _, rfl, rfl, SqL.mk (u3 _ _ L4b L41), eo, _, rfl, (show 3 ≤ sizeLine by decide), fun L7 nL7 => ?_⟩
    have s7 := same_upd nL7 (o := .lst [.str w1, .str od, .str more])
    refine ⟨_, rfl, _, _, rfl, rfl, _, _, rfl, ?_⟩
    obtain ⟨vt, et, th, rfl, zth⟩ := at_menuV (Pr := fun v => ∃ y, v = V.str y ∧ ZS 30000 y) (xs := [V.str w1, .str od, .str more]) (r := if (0 + (t : Int)) - 5 > 0 then (0 + (t : Int)) - 5 else 0) (by split <;> omega) (by show _ < ((3 : Nat) : Int); split <;> omega) (fun v hv => by
      simp only [List.mem_cons, List.not_mem_nil, or_false] at hv
      rcases hv with rfl | rfl | rfl
      · exact ⟨_, rfl, zw1.mono (by decide)⟩
      · exact ⟨_, rfl, zod⟩
      · exact ⟨_, rfl, zmore.mono (by decide)⟩)
    refine ⟨L7, _, _, _, rfl, rfl, SqL.mk upd_same, et, ?_⟩
    have bF : Bus b E0 (upd G2 L7 (.lst [.str w1, .str od, .str more])) := bG2.trans ((Bus.of bg1).trans ((Bus.of u3).trans (Bus.same s7)))
    have BF := B3.same s7
    generalize upd G2 L7 (.lst [.str w1, .str od, .str more]) = F0 at bF BF ⊢
    clear s7 nL7 u3 L41 bg1 B1 B3 BG2 bG2
    show gName 15 (.str th) _ _ _
    refine nx_via (σ := [some (.ref a), some (.ref c), some (.int (0 + (i : Int))), some (.ref b), some (.str (rowS rs)), some v1, some v2, some (.ref X), some (.int (j : Nat)), some (.str z), some (.str more), some (.str word), some (.int (n : Nat)), some (.ref L4), some (.int (0 + (t : Int))), some (.str th), none]) (fun σ G => ∃ y, σ = [some (.ref a), some (.ref c), some (.int (0 + (i : Int))), some (.ref b), some (.str (rowS rs)), some v1, some v2, some (.ref X), some (.int (j : Nat)), some (.str z), some (.str more), some (.str word), some (.int (n : Nat)), some (.ref L4), some (.int (0 + (t : Int))), some (.str y), none] ∧ Bus b E0 G ∧ Bx G b (1100 + 1000 * j + 100 * t + 50) ∧ ZS 70000 y) (fun N' hN' => ?_) ?_
    · refine ⟨_, rfl, b, 3, _, rfl, BF, by decide, by decide, by omega, fun G3 r4 u4 B4 l4 h4 => ⟨rfl, _, rfl, ?_⟩⟩
      refine ite2 (fun _ => ?_) (fun _ => hN' _ _ ⟨th, rfl, bF.trans (Bus.of u4), B4.mono (by omega), zth.mono (by decide)⟩)
      refine ⟨_, rfl, _, rfl, b, _, 30000, th, rfl, B4, by omega, zth, by decide, fun G4 w4 bg4 B5 zw4 => ?_⟩
      exact hN' _ _ ⟨w4, rfl, bF.trans ((Bus.of u4).trans (Bus.of bg4)), B5.mono (by omega), zw4.mono (by decide)⟩
    rintro σ G5 ⟨y, rfl, b5, B5, zy⟩
    have t5 := tE.bus BE b5
    by_cases hac : ∃ d, AcD j y d
    · obtain ⟨dy, acy⟩ := hac
      obtain ⟨dys, rfl⟩ := acd_tup acy
      have shoy := acd_sho acy
      refine ⟨_, rfl, _, rfl, j, y, rfl, by omega, zy.ok (by decide), t5.r, t5.t, t5.f, fun d' ac' W v w1 tg => ?_, fun no => absurd acy (no _)⟩
      obtain rfl := acd_fun acy ac'
      refine ⟨v, _, rfl, tg.dp, shoy, ?_⟩
      refine ⟨_, rfl, _, rfl, j, y, rfl, by omega, zy.ok (by decide), fun d' ac' W2 vb w2 tg2 => ?_, fun no => absurd acy (no _)⟩
      obtain rfl := acd_fun acy ac'
      refine ⟨vb, _, rfl, tg2.dp, shoy, rfl, _, rfl, ?_⟩
      rw [decide_eq_true rfl]
      exact iteF ⟨_, _, rfl, b5.trans (.sam (w1.trans (Sam.of w2))), (B5.sam (w1.trans (Sam.of w2))).mono (by omega)⟩
    · have hno : ∀ d, ¬ AcD j y d := fun d h => hac ⟨d, h⟩
      have shoN : Sho .none := sho_of (k := 7) (by decide) (by decide) (by decide +kernel) (by decide +kernel) (by decide +kernel)
      refine ⟨_, rfl, _, rfl, j, y, rfl, by omega, zy.ok (by decide), t5.r, t5.t, t5.f, fun d' ac' => absurd ac' (hno _), fun _ W w1 => ?_⟩
      refine ⟨.non, .none, rfl, .non, shoN, ?_⟩
      refine ⟨_, rfl, _, rfl, j, y, rfl, by omega, zy.ok (by decide), fun d' ac' => absurd ac' (hno _), fun _ W2 w2 => ?_⟩
      refine ⟨.non, .none, rfl, .non, shoN, rfl, _, rfl, ?_⟩
      rw [decide_eq_true rfl]
      exact iteF ⟨_, _, rfl, b5.trans (.sam (w1.trans (Sam.of w2))), (B5.sam (w1.trans (Sam.of w2))).mono (by omega)⟩
end
theorem codeAt {K : PySem.W.Frag} {p : He.Defn} : CodeAt K (He.fAd K p) (He.cT K p).1 := fun oc od fd osl lk b e => (He.codeOf_eq lk e).symm
theorem facts {l : PySem.W.OpenLaw} {w : World} {K : PySem.W.Frag} {h : Heap} {mg : Str → Option Value} {f : Addr} (X : K.In h) (G : h.Ns mainGlobals mg) (hfa_ : mg ("law" : Str) = some (.ref f)) (cc : He.SaysX hfa hfn hts htf hex w h K) :
    ∃ (fd : FuncData) (cs : List (Addr × Addr)) (sp : Sp), (∀ q, q ∈ cs → TbAt K h q) ∧ (∀ (s : Shared) (u : Value), BindsTo s fd ⟨[u], []⟩ [("_law_script", u)]) ∧ (∀ (H : Hp) (a : Addr) (ns : List Int), ns.length ≤ 63 → (∀ q, q ∈ cs → H q.2 = some (.tbl #[])) → SqL K H a (ns.map V.int) → sp [.ref a] H (fun v _ => v = .bl true) fun _ _ _ => False) ∧ ∀ base : Heap, K.In base → base.Ns mainGlobals mg → (∀ q, q ∈ cs → GxR.TabB base mg q.1 q.2) → GOk l.prog w K mg base CX0 25 f fd ["_law_script"] sp := by
  have c : He.SaysD hfa hfn K := congrArg (fun z : He.AlT => z.1) cc.t
  obtain ⟨fd_is_number, F_is_number⟩ := c.def_ 0 (d := d_is_number) rfl
  obtain ⟨fd_is_within, F_is_within⟩ := c.def_ 1 (d := d_is_within) rfl
  obtain ⟨fd_common_divisor, F_common_divisor⟩ := c.def_ 2 (d := d_common_divisor) rfl
  obtain ⟨fd_is_bit, F_is_bit⟩ := c.def_ 3 (d := d_is_bit) rfl
  obtain ⟨fd_is_row, F_is_row⟩ := c.def_ 4 (d := d_is_row) rfl
  obtain ⟨fd_is_table, F_is_table⟩ := c.def_ 5 (d := d_is_table) rfl
  obtain ⟨fd_is_plain, F_is_plain⟩ := c.def_ 6 (d := d_is_plain) rfl
  obtain ⟨fd_is_around, F_is_around⟩ := c.def_ 7 (d := d_is_around) rfl
  obtain ⟨fd_is_maker, F_is_maker⟩ := c.def_ 8 (d := d_is_maker) rfl
  obtain ⟨fd_counter_round, F_counter_round⟩ := c.def_ 9 (d := d_counter_round) rfl
  obtain ⟨fd_last_for_first, F_last_for_first⟩ := c.def_ 10 (d := d_last_for_first) rfl
  obtain ⟨fd_size_of, F_size_of⟩ := c.def_ 11 (d := d_size_of) rfl
  obtain ⟨fd_turned_round, F_turned_round⟩ := c.def_ 12 (d := d_turned_round) rfl
  obtain ⟨fd_odd_ones, F_odd_ones⟩ := c.def_ 13 (d := d_odd_ones) rfl
  obtain ⟨fd_held_round, F_held_round⟩ := c.def_ 14 (d := d_held_round) rfl
  obtain ⟨fd_plain_round, F_plain_round⟩ := c.def_ 15 (d := d_plain_round) rfl
  obtain ⟨fd_round_of, F_round_of⟩ := c.def_ 16 (d := d_round_of) rfl
  obtain ⟨fd_is_part, F_is_part⟩ := c.def_ 17 (d := d_is_part) rfl
  obtain ⟨fd_sides_of, F_sides_of⟩ := c.def_ 18 (d := d_sides_of) rfl
  obtain ⟨fd_is_formula, F_is_formula⟩ := c.def_ 19 (d := d_is_formula) rfl
  obtain ⟨fd_number_from, F_number_from⟩ := c.def_ 20 (d := d_number_from) rfl
  obtain ⟨fd_word_from, F_word_from⟩ := c.def_ 21 (d := d_word_from) rfl
  obtain ⟨fd_shaped, F_shaped⟩ := c.def_ 22 (d := d_shaped) rfl
  obtain ⟨fd_nested_from, F_nested_from⟩ := c.def_ 23 (d := d_nested_from) rfl
  obtain ⟨fd_row_from, F_row_from⟩ := c.def_ 24 (d := d_row_from) rfl
  obtain ⟨fd_maker_from, F_maker_from⟩ := c.def_ 25 (d := d_maker_from) rfl
  obtain ⟨fd_formula_from, F_formula_from⟩ := c.def_ 26 (d := d_formula_from) rfl
  obtain ⟨fd__law_box, F__law_box⟩ := c.def_ 27 (d := d__law_box) rfl
  obtain ⟨fd__law_take, F__law_take⟩ := c.def_ 28 (d := d__law_take) rfl
  obtain ⟨fd__law_folded, F__law_folded⟩ := c.def_ 29 (d := d__law_folded) rfl
  obtain ⟨fd__law_divisor, F__law_divisor⟩ := c.def_ 30 (d := d__law_divisor) rfl
  obtain ⟨fd__law_powers, F__law_powers⟩ := c.def_ 31 (d := d__law_powers) rfl
  obtain ⟨fd__law_plain, F__law_plain⟩ := c.def_ 32 (d := d__law_plain) rfl
  obtain ⟨fd__law_base, F__law_base⟩ := c.def_ 33 (d := d__law_base) rfl
  obtain ⟨fd__law_round, F__law_round⟩ := c.def_ 34 (d := d__law_round) rfl
  obtain ⟨fd__law_maker, F__law_maker⟩ := c.def_ 35 (d := d__law_maker) rfl
  obtain ⟨fd__law_formula, F__law_formula⟩ := c.def_ 36 (d := d__law_formula) rfl
  obtain ⟨fd__law_any, F__law_any⟩ := c.def_ 37 (d := d__law_any) rfl
  obtain ⟨fd__law_signs, F__law_signs⟩ := c.def_ 38 (d := d__law_signs) rfl
  obtain ⟨fd__law_written, F__law_written⟩ := c.def_ 39 (d := d__law_written) rfl
  obtain ⟨fd__law_is_number, F__law_is_number⟩ := c.def_ 40 (d := d__law_is_number) rfl
  obtain ⟨fd__law_fits, F__law_fits⟩ := c.def_ 41 (d := d__law_fits) rfl
  obtain ⟨fd__law_clauses, F__law_clauses⟩ := c.def_ 42 (d := d__law_clauses) rfl
  obtain ⟨fd__law_word_at, F__law_word_at⟩ := c.def_ 43 (d := d__law_word_at) rfl
  obtain ⟨fd__law_number_at, F__law_number_at⟩ := c.def_ 44 (d := d__law_number_at) rfl
  obtain ⟨fd__law_thing_at, F__law_thing_at⟩ := c.def_ 45 (d := d__law_thing_at) rfl
  obtain ⟨fd__law_measure, F__law_measure⟩ := c.def_ 46 (d := d__law_measure) rfl
  obtain ⟨fd__law_due, F__law_due⟩ := c.def_ 47 (d := d__law_due) rfl
  obtain ⟨fd__law_told, F__law_told⟩ := c.def_ 48 (d := d__law_told) rfl
  obtain ⟨fd__law_spoilt, F__law_spoilt⟩ := c.def_ 49 (d := d__law_spoilt) rfl
  obtain ⟨fd_law, F_law⟩ := c.def_ 50 (d := d_law) rfl
  have e := hfa_.symm.trans (He.glo_ok X G (c.fact 50 (f := .glo "law") rfl))
  cases e
  have b := FunD.bindsA (ps := ["_law_script"]) F_law fun _ _ _ _ _ _ us hl => match us, hl with | [_], _ => rfl
  have hm : Hex K := of_decide_eq_true cc.more
  obtain ⟨⟨h0, h1, h2, h3, h4, h5, h6, h7, h8, h9, h10, h11⟩, ⟨h12, h13, h14, h15, h16, h17, h18, h19, h20, h21, h22, h23⟩⟩ := hm
  haveI : DW K w := ⟨cc.t.tab 0 rfl, h23⟩
  let T : Defs K mg := ⟨_, fd_is_number, F_is_number, (He.glo_ok X G (c.fact 0 (f := .glo "is_number") rfl)), (FunD.bindsN F_is_number fun _ _ _ _ _ _ us hl => match us, hl with | [_], _ => rfl), _, fd_is_within, F_is_within, (He.glo_ok X G (c.fact 1 (f := .glo "is_within") rfl)), (FunD.bindsN F_is_within fun _ _ _ _ _ _ us hl => match us, hl with | [_, _, _], _ => rfl), _, fd_common_divisor, F_common_divisor, (He.glo_ok X G (c.fact 2 (f := .glo "common_divisor") rfl)), (FunD.bindsN F_common_divisor fun _ _ _ _ _ _ us hl => match us, hl with | [_, _], _ => rfl), _, fd_is_bit, F_is_bit, (He.glo_ok X G (c.fact 3 (f := .glo "is_bit") rfl)), (FunD.bindsN F_is_bit fun _ _ _ _ _ _ us hl => match us, hl with | [_], _ => rfl), _, fd_is_row, F_is_row, (He.glo_ok X G (c.fact 4 (f := .glo "is_row") rfl)), (FunD.bindsN F_is_row fun _ _ _ _ _ _ us hl => match us, hl with | [_], _ => rfl), _, fd_is_table, F_is_table, (He.glo_ok X G (c.fact 5 (f := .glo "is_table") rfl)), (FunD.bindsN F_is_table fun _ _ _ _ _ _ us hl => match us, hl with | [_], _ => rfl), _, fd_is_plain, F_is_plain, (He.glo_ok X G (c.fact 6 (f := .glo "is_plain") rfl)), (FunD.bindsN F_is_plain fun _ _ _ _ _ _ us hl => match us, hl with | [_], _ => rfl), _, fd_is_around, F_is_around, (He.glo_ok X G (c.fact 7 (f := .glo "is_around") rfl)), (FunD.bindsN F_is_around fun _ _ _ _ _ _ us hl => match us, hl with | [_], _ => rfl), _, fd_is_maker, F_is_maker, (He.glo_ok X G (c.fact 8 (f := .glo "is_maker") rfl)), (FunD.bindsN F_is_maker fun _ _ _ _ _ _ us hl => match us, hl with | [_], _ => rfl), _, fd_counter_round, F_counter_round, (He.glo_ok X G (c.fact 9 (f := .glo "counter_round") rfl)), (FunD.bindsN F_counter_round fun _ _ _ _ _ _ us hl => match us, hl with | [_, _, _], _ => rfl), _, fd_last_for_first, F_last_for_first, (He.glo_ok X G (c.fact 10 (f := .glo "last_for_first") rfl)), (FunD.bindsN F_last_for_first fun _ _ _ _ _ _ us hl => match us, hl with | [_, _], _ => rfl), _, fd_size_of, F_size_of, (He.glo_ok X G (c.fact 11 (f := .glo "size_of") rfl)), (FunD.bindsN F_size_of fun _ _ _ _ _ _ us hl => match us, hl with | [_], _ => rfl), _, fd_turned_round, F_turned_round, (He.glo_ok X G (c.fact 12 (f := .glo "turned_round") rfl)), (FunD.bindsN F_turned_round fun _ _ _ _ _ _ us hl => match us, hl with | [_, _], _ => rfl), _, fd_odd_ones, F_odd_ones, (He.glo_ok X G (c.fact 13 (f := .glo "odd_ones") rfl)), (FunD.bindsN F_odd_ones fun _ _ _ _ _ _ us hl => match us, hl with | [_], _ => rfl), _, fd_held_round, F_held_round, (He.glo_ok X G (c.fact 14 (f := .glo "held_round") rfl)), (FunD.bindsN F_held_round fun _ _ _ _ _ _ us hl => match us, hl with | [_, _, _], _ => rfl), _, fd_plain_round, F_plain_round, (He.glo_ok X G (c.fact 15 (f := .glo "plain_round") rfl)), (FunD.bindsN F_plain_round fun _ _ _ _ _ _ us hl => match us, hl with | [_], _ => rfl), _, fd_round_of, F_round_of, (He.glo_ok X G (c.fact 16 (f := .glo "round_of") rfl)), (FunD.bindsN F_round_of fun _ _ _ _ _ _ us hl => match us, hl with | [_], _ => rfl), _, fd_is_part, F_is_part, (He.glo_ok X G (c.fact 17 (f := .glo "is_part") rfl)), (FunD.bindsN F_is_part fun _ _ _ _ _ _ us hl => match us, hl with | [_], _ => rfl), _, fd_sides_of, F_sides_of, (He.glo_ok X G (c.fact 18 (f := .glo "sides_of") rfl)), (FunD.bindsN F_sides_of fun _ _ _ _ _ _ us hl => match us, hl with | [_], _ => rfl), _, fd_is_formula, F_is_formula, (He.glo_ok X G (c.fact 19 (f := .glo "is_formula") rfl)), (FunD.bindsN F_is_formula fun _ _ _ _ _ _ us hl => match us, hl with | [_], _ => rfl), _, fd_number_from, F_number_from, (He.glo_ok X G (c.fact 20 (f := .glo "number_from") rfl)), (FunD.bindsN F_number_from fun _ _ _ _ _ _ us hl => match us, hl with | [_], _ => rfl), _, fd_word_from, F_word_from, (He.glo_ok X G (c.fact 21 (f := .glo "word_from") rfl)), (FunD.bindsN F_word_from fun _ _ _ _ _ _ us hl => match us, hl with | [_], _ => rfl), _, fd_shaped, F_shaped, (He.glo_ok X G (c.fact 22 (f := .glo "shaped") rfl)), (FunD.bindsN F_shaped fun _ _ _ _ _ _ us hl => match us, hl with | [_], _ => rfl), _, fd_nested_from, F_nested_from, (He.glo_ok X G (c.fact 23 (f := .glo "nested_from") rfl)), (FunD.bindsN F_nested_from fun _ _ _ _ _ _ us hl => match us, hl with | [_], _ => rfl), _, fd_row_from, F_row_from, (He.glo_ok X G (c.fact 24 (f := .glo "row_from") rfl)), (FunD.bindsN F_row_from fun _ _ _ _ _ _ us hl => match us, hl with | [_], _ => rfl), _, fd_maker_from, F_maker_from, (He.glo_ok X G (c.fact 25 (f := .glo "maker_from") rfl)), (FunD.bindsN F_maker_from fun _ _ _ _ _ _ us hl => match us, hl with | [_], _ => rfl), _, fd_formula_from, F_formula_from, (He.glo_ok X G (c.fact 26 (f := .glo "formula_from") rfl)), (FunD.bindsN F_formula_from fun _ _ _ _ _ _ us hl => match us, hl with | [_], _ => rfl), _, fd__law_box, F__law_box, (He.glo_ok X G (c.fact 27 (f := .glo "_law_box") rfl)), (FunD.bindsN F__law_box fun _ _ _ _ _ _ us hl => match us, hl with | [_, _], _ => rfl), _, fd__law_take, F__law_take, (He.glo_ok X G (c.fact 28 (f := .glo "_law_take") rfl)), (FunD.bindsN F__law_take fun _ _ _ _ _ _ us hl => match us, hl with | [_, _], _ => rfl), _, fd__law_folded, F__law_folded, (He.glo_ok X G (c.fact 29 (f := .glo "_law_folded") rfl)), (FunD.bindsN F__law_folded fun _ _ _ _ _ _ us hl => match us, hl with | [_, _], _ => rfl), _, fd__law_divisor, F__law_divisor, (He.glo_ok X G (c.fact 30 (f := .glo "_law_divisor") rfl)), (FunD.bindsN F__law_divisor fun _ _ _ _ _ _ us hl => match us, hl with | [_, _], _ => rfl), _, fd__law_powers, F__law_powers, (He.glo_ok X G (c.fact 31 (f := .glo "_law_powers") rfl)), (FunD.bindsN F__law_powers fun _ _ _ _ _ _ us hl => match us, hl with | [], _ => rfl), _, fd__law_plain, F__law_plain, (He.glo_ok X G (c.fact 32 (f := .glo "_law_plain") rfl)), (FunD.bindsN F__law_plain fun _ _ _ _ _ _ us hl => match us, hl with | [_], _ => rfl), _, fd__law_base, F__law_base, (He.glo_ok X G (c.fact 33 (f := .glo "_law_base") rfl)), (FunD.bindsN F__law_base fun _ _ _ _ _ _ us hl => match us, hl with | [_], _ => rfl), _, fd__law_round, F__law_round, (He.glo_ok X G (c.fact 34 (f := .glo "_law_round") rfl)), (FunD.bindsN F__law_round fun _ _ _ _ _ _ us hl => match us, hl with | [_], _ => rfl), _, fd__law_maker, F__law_maker, (He.glo_ok X G (c.fact 35 (f := .glo "_law_maker") rfl)), (FunD.bindsN F__law_maker fun _ _ _ _ _ _ us hl => match us, hl with | [_, _], _ => rfl), _, fd__law_formula, F__law_formula, (He.glo_ok X G (c.fact 36 (f := .glo "_law_formula") rfl)), (FunD.bindsN F__law_formula fun _ _ _ _ _ _ us hl => match us, hl with | [_, _, _, _], _ => rfl), _, fd__law_any, F__law_any, (He.glo_ok X G (c.fact 37 (f := .glo "_law_any") rfl)), (FunD.bindsN F__law_any fun _ _ _ _ _ _ us hl => match us, hl with | [_], _ => rfl), _, fd__law_signs, F__law_signs, (He.glo_ok X G (c.fact 38 (f := .glo "_law_signs") rfl)), (FunD.bindsN F__law_signs fun _ _ _ _ _ _ us hl => match us, hl with | [], _ => rfl), _, fd__law_written, F__law_written, (He.glo_ok X G (c.fact 39 (f := .glo "_law_written") rfl)), (FunD.bindsN F__law_written fun _ _ _ _ _ _ us hl => match us, hl with | [_], _ => rfl), _, fd__law_is_number, F__law_is_number, (He.glo_ok X G (c.fact 40 (f := .glo "_law_is_number") rfl)), (FunD.bindsN F__law_is_number fun _ _ _ _ _ _ us hl => match us, hl with | [_, _, _], _ => rfl), _, fd__law_fits, F__law_fits, (He.glo_ok X G (c.fact 41 (f := .glo "_law_fits") rfl)), (FunD.bindsN F__law_fits fun _ _ _ _ _ _ us hl => match us, hl with | [_], _ => rfl), _, fd__law_clauses, F__law_clauses, (He.glo_ok X G (c.fact 42 (f := .glo "_law_clauses") rfl)), (FunD.bindsN F__law_clauses fun _ _ _ _ _ _ us hl => match us, hl with | [_, _], _ => rfl), _, fd__law_word_at, F__law_word_at, (He.glo_ok X G (c.fact 43 (f := .glo "_law_word_at") rfl)), (FunD.bindsN F__law_word_at fun _ _ _ _ _ _ us hl => match us, hl with | [_, _], _ => rfl), _, fd__law_number_at, F__law_number_at, (He.glo_ok X G (c.fact 44 (f := .glo "_law_number_at") rfl)), (FunD.bindsN F__law_number_at fun _ _ _ _ _ _ us hl => match us, hl with | [_, _], _ => rfl), _, fd__law_thing_at, F__law_thing_at, (He.glo_ok X G (c.fact 45 (f := .glo "_law_thing_at") rfl)), (FunD.bindsN F__law_thing_at fun _ _ _ _ _ _ us hl => match us, hl with | [_, _, _, _], _ => rfl), _, fd__law_measure, F__law_measure, (He.glo_ok X G (c.fact 46 (f := .glo "_law_measure") rfl)), (FunD.bindsN F__law_measure fun _ _ _ _ _ _ us hl => match us, hl with | [_], _ => rfl), _, fd__law_due, F__law_due, (He.glo_ok X G (c.fact 47 (f := .glo "_law_due") rfl)), (FunD.bindsN F__law_due fun _ _ _ _ _ _ us hl => match us, hl with | [_, _], _ => rfl), _, fd__law_told, F__law_told, (He.glo_ok X G (c.fact 48 (f := .glo "_law_told") rfl)), (FunD.bindsN F__law_told fun _ _ _ _ _ _ us hl => match us, hl with | [_, _], _ => rfl), _, fd__law_spoilt, F__law_spoilt, (He.glo_ok X G (c.fact 49 (f := .glo "_law_spoilt") rfl)), (FunD.bindsN F__law_spoilt fun _ _ _ _ _ _ us hl => match us, hl with | [_, _], _ => rfl), _, fd_law, F_law, (He.glo_ok X G (c.fact 50 (f := .glo "law") rfl)), (FunD.bindsN F_law fun _ _ _ _ _ _ us hl => match us, hl with | [_], _ => rfl), (He.cT K ("is_row", none)).1, (He.cT K ("is_row", none)).2, codeAt, (He.cT K ("is_table", none)).1, (He.cT K ("is_table", none)).2, codeAt, (He.cT K ("row_from", none)).1, (He.cT K ("row_from", none)).2, codeAt, _, (He.glo_ok X G (c.fact 68 (f := .glo "OnesError") rfl)), _, (He.glo_ok X G (c.fact 69 (f := .glo "Unlike") rfl)), _, (He.glo_ok X G (c.fact 70 (f := .glo "NoSuch") rfl)), _, (He.glo_ok X G (c.fact 71 (f := .glo "NoOne") rfl)), _, (He.glo_ok X G (c.fact 72 (f := .glo "NoRound") rfl)), _, (He.glo_ok X G (c.fact 73 (f := .glo "BadText") rfl)), _, (He.glo_ok X G (c.fact 74 (f := .glo "BadSheet") rfl)), _, (He.glo_ok X G (c.fact 75 (f := .glo "SIDES") rfl)), rfl, (He.exc_ok (c.fact 76 (f := .exc "BadText") rfl)).1, (He.exc_ok (c.fact 76 (f := .exc "BadText") rfl)).2.1, (He.exc_ok (c.fact 76 (f := .exc "BadText") rfl)).2.2.1, (He.exc_ok (c.fact 76 (f := .exc "BadText") rfl)).2.2.2, ⟨h0, h1, h2, h3, h4, h5, h6, h7⟩, (He.exm_ok (c.fact 77 (f := .exm "BadText" "OnesError" true) rfl)), h8, h9, h10, h11, h12, h13, h14, h15, h16, h17, h18, h19, h20, h21, h22, (He.free_ok X G (c.fact 51 (f := .free "ValueError") rfl)), (He.free_ok X G (c.fact 52 (f := .free "abs") rfl)), (He.free_ok X G (c.fact 53 (f := .free "all") rfl)), (He.free_ok X G (c.fact 54 (f := .free "bool") rfl)), (He.free_ok X G (c.fact 55 (f := .free "divmod") rfl)), (He.free_ok X G (c.fact 56 (f := .free "enumerate") rfl)), (He.free_ok X G (c.fact 57 (f := .free "int") rfl)), (He.free_ok X G (c.fact 58 (f := .free "isinstance") rfl)), (He.free_ok X G (c.fact 59 (f := .free "len") rfl)), (He.free_ok X G (c.fact 60 (f := .free "list") rfl)), (He.free_ok X G (c.fact 61 (f := .free "max") rfl)), (He.free_ok X G (c.fact 62 (f := .free "range") rfl)), (He.free_ok X G (c.fact 63 (f := .free "repr") rfl)), (He.free_ok X G (c.fact 64 (f := .free "str") rfl)), (He.free_ok X G (c.fact 65 (f := .free "sum") rfl)), (He.free_ok X G (c.fact 66 (f := .free "tuple") rfl)), (He.free_ok X G (c.fact 67 (f := .free "zip") rfl)), (He.int_ok X G (c.fact 78 (f := .int "LONGEST" 4096) rfl)), (He.int_ok X G (c.fact 79 (f := .int "MOST_AROUND" 3) rfl)), (He.int_ok X G (c.fact 80 (f := .int "GREATEST_INPUT" 5) rfl)), (He.int_ok X G (c.fact 81 (f := .int "MOST_PARTS" 24) rfl)), (He.int_ok X G (c.fact 82 (f := .int "DEEPEST" 8) rfl)), (He.int_ok X G (c.fact 83 (f := .int "MOST_FIGURES" 3) rfl))⟩
  refine ⟨fd_law, htf.map (He.cT K), sp_law T, fun p hp => ?_, fun s v => b s [v] rfl, fun H a ns hl hH hS => ⟨a, ns, rfl, hS, hl, ?_, fun _ => rfl⟩, fun base _ _ TB => ok_law T ?_⟩
  · obtain ⟨q, hq, rfl⟩ := List.mem_map.mp hp
    exact ⟨cc.empty q hq, cc.out q hq, PySem.W.codeHd_of_K X (cc.hd q hq)⟩
  · exact ⟨⟨#[], hH _ (List.mem_map.mpr ⟨_, List.mem_cons_self, rfl⟩), trip0⟩, ⟨#[], hH _ (List.mem_map.mpr ⟨_, (List.mem_cons_of_mem _ List.mem_cons_self), rfl⟩), trip0⟩, ⟨#[], hH _ (List.mem_map.mpr ⟨_, (List.mem_cons_of_mem _ (List.mem_cons_of_mem _ List.mem_cons_self)), rfl⟩), trip0⟩, trivial⟩
  · exact ⟨⟨(TB _ (List.mem_map.mpr ⟨_, List.mem_cons_self, rfl⟩)).code, (TB _ (List.mem_map.mpr ⟨_, List.mem_cons_self, rfl⟩)).bm, (TB _ (List.mem_map.mpr ⟨_, List.mem_cons_self, rfl⟩)).gP⟩, ⟨(TB _ (List.mem_map.mpr ⟨_, (List.mem_cons_of_mem _ List.mem_cons_self), rfl⟩)).code, (TB _ (List.mem_map.mpr ⟨_, (List.mem_cons_of_mem _ List.mem_cons_self), rfl⟩)).bm, (TB _ (List.mem_map.mpr ⟨_, (List.mem_cons_of_mem _ List.mem_cons_self), rfl⟩)).gP⟩, ⟨(TB _ (List.mem_map.mpr ⟨_, (List.mem_cons_of_mem _ (List.mem_cons_of_mem _ List.mem_cons_self)), rfl⟩)).code, (TB _ (List.mem_map.mpr ⟨_, (List.mem_cons_of_mem _ (List.mem_cons_of_mem _ List.mem_cons_self)), rfl⟩)).bm, (TB _ (List.mem_map.mpr ⟨_, (List.mem_cons_of_mem _ (List.mem_cons_of_mem _ List.mem_cons_self)), rfl⟩)).gP⟩⟩
end Fq
open PySem PySem.W PySem.Calls PyProof.Rows
set_option maxHeartbeats 0 in
theorem PySem.Challenge.cw_shareones_k57_texts_spoilt_anywhere_holds : PySem.Challenge.rw_shareones_k57_texts_spoilt_anywhere.Holds := by
  w_on; o_law
  refine HandSHeadRun.head_any (r := OpenLaw.row PySem.Challenge.rw_shareones_k57_texts_spoilt_anywhere) (q := view (OpenLaw.row PySem.Challenge.rw_shareones_k57_texts_spoilt_anywhere).prog [71]) (H := Fq.hk) (ob := Fq.ob) (M := 6000) (loose := Fq.loose) (d := HandSHeadRun.topDef (OpenLaw.row PySem.Challenge.rw_shareones_k57_texts_spoilt_anywhere).prog 71) (kwd := []) Fq.ob_eq
    (by kernel_rfl) (fun s => by kernel_rfl) Fq.run (by kernel_rfl) (by kernel_rfl) (by kernel_rfl) (by rfl) (by first | assumption | decide +kernel) (by decide +kernel) ⟨rfl, rfl, rfl, rfl, rfl, by decide +kernel⟩ ?hw ?hc
  case hw => w_witness2
  case hc =>
    refine Fq.walk_ofGT (l := PySem.Challenge.rw_shareones_k57_texts_spoilt_anywhere) (n := 63) (k := 25) (x := "_law_script") rfl (by decide) (by kernel_rfl) ⟨rfl, by decide, by decide⟩ ?F
    intro w mg fa h Y G hmg0
    obtain ⟨K, KX, c⟩ := Y
    have hmg : mg ("law" : PySem.Str) = some (.ref fa) := by
      have e : (HandSHeadRun.topDef (OpenLaw.row PySem.Challenge.rw_shareones_k57_texts_spoilt_anywhere).prog 71).name = ("law" : PySem.Str) := by kernel_rfl
      rw [← e]
      exact hmg0
    obtain ⟨fd, cs, sp, a1, a2, a3, a4⟩ := Fq.facts (l := PySem.Challenge.rw_shareones_k57_texts_spoilt_anywhere) KX G hmg c
    exact ⟨K, fd, cs, sp, KX, a1, a2, a3, a4⟩
