import PyProof.Rows.All
import Wide.All
import OpenK.AllK
import Wide.FinOn
import KE.KStateDown
import Lean
import HandS.ForMost
import HandS.Wide
import HandS.WideBits
import HandS.IsInst
import HandS.Walk
import HandS.Evl
import HandS.Style
import HandS.NoneIn
import HandS.Defaults
import HandS.Head0
import HandS.Head1
import HandS.Head2
import HandS.HeadEnd
import HandS.HeadHook1
import HandS.HeadHook2
import HandS.AnyAll
import HandS.Comp
import HandS.Conv
import HandS.Deep
import HandS.Dict
import HandS.DictComp
import HandS.EndTab
import HandS.Exc
import HandS.ExcIs
import HandS.ExcOwn
import HandS.FStr
import HandS.Flow
import HandS.GenBody
import HandS.GenList
import HandS.GenOver
import HandS.HeadHook3
import HandS.HeadHook4
import HandS.HeadWalk
import HandS.Iter
import HandS.Keys
import HandS.More
import HandS.Replace
import HandS.ReplaceDef
import HandS.ReplaceList
import HandS.ReplaceLit
import HandS.Set
import HandS.SetBool
import HandS.SetFor
import HandS.Small
import HandS.SortInts
import HandS.SortKw
import HandS.SortRule
import HandS.Star
import HandS.StrMore
import HandS.Strs
import HandS.Style
import HandS.Text
import HandS.TryOnly
import HandS.TupAny
import HandS.TupLen
import HandS.TupMul
import HandS.Walk
import HandS.WordsDict
import HandS.WordsExc
import HandS.Zip
import KE.DataMinMax
import KE.GoesEnum
import KE.GoesMore
import KE.GoesSet
import KE.GoesZip
import KE.KDictWalk
import KE.KDictZip
import KE.KNest
import KE.KStar
import PyProof.ConsumeS
import PyProof.GenArm
import PyProof.GenComp
import PyProof.GenCompT
import PyProof.GenQ
import PyProof.JoinWalk
import PyProof.ReprLen
import PyProof.ReprRoads
import PyProof.Rows.MatchSeqLen
import PyProof.RulesMatch
import PyProof.RulesMatchSeq
import PyProof.TupleOfGen
import PySem.Challenge.RW_shareones_k56_formulas_written
set_option Elab.async false
set_option pp.maxSteps 250
set_option linter.all false
set_option maxRecDepth 100000
set_option maxHeartbeats 4000000
namespace Fq
open PySem PySem.Spec PyProof.Rows L2
/-! a dict of the program's top, texts to numbers -/
def entI (e : DictEntry) : Option (Str × Int) := match e.key, e.val with
  | .str x _, .int i _ => some (x, i)
  | _, _ => none
def dicB (K : PySem.W.Frag) (a : Addr) (kvs : List (Str × Int)) : Bool := match K.lookup a with
  | some ⟨_, _, .dict es _, _⟩ => decide (es.toList.map entI = kvs.map some)
  | _ => false
def dl_SIDES : List (Str × Int) := [("less", 1), ("both", 2), ("either", 2), ("oneof", 2), ("pick", 3)]
class DW (K : PySem.W.Frag) (w : World) : Prop where
  k_SIDES : ∃ es n, KDict K w (He.ga K "SIDES") es n
  v_SIDES : dicB K (He.ga K "SIDES") dl_SIDES = true
section
variable {P : Program} {w : World} {K : PySem.W.Frag} {mg : Str → Option Value} {base : Heap} [DW K w]
def topS (i : Nat) : Stmt := PySem.Challenge.pw_shareones_k56_formulas_written.main.body.getD i (.Pass ⟨0, 0, 0, 0⟩)
abbrev FnP (K : PySem.W.Frag) (x : Str) (st : Stmt) (f : Addr) (fd : FuncData) : Prop := FunD K x x (defArgs st) (defBody st) (defScope st) [] [] f fd
abbrev s_is_number : Stmt := topS 4
abbrev N_is_number : List Str := ["thing"]
theorem sc_is_number : FnScope N_is_number ["thing"] (defScope s_is_number) := ⟨rfl, rfl, rfl, by decide +kernel, rfl, by decide +kernel, by decide +kernel⟩
abbrev s_is_within : Stmt := topS 5
abbrev N_is_within : List Str := ["thing", "least", "greatest"]
theorem sc_is_within : FnScope N_is_within ["thing", "least", "greatest"] (defScope s_is_within) := ⟨rfl, rfl, rfl, by decide +kernel, rfl, by decide +kernel, by decide +kernel⟩
abbrev s_is_part : Stmt := topS 11
abbrev N_is_part : List Str := ["thing"]
theorem sc_is_part : FnScope N_is_part ["thing"] (defScope s_is_part) := ⟨rfl, rfl, rfl, by decide +kernel, rfl, by decide +kernel, by decide +kernel⟩
abbrev s_sides_of : Stmt := topS 12
abbrev N_sides_of : List Str := ["part"]
theorem sc_sides_of : FnScope N_sides_of ["part"] (defScope s_sides_of) := ⟨rfl, rfl, rfl, by decide +kernel, rfl, by decide +kernel, by decide +kernel⟩
abbrev s_is_formula : Stmt := topS 13
abbrev N_is_formula : List Str := ["thing", "waiting", "parts", "part", "depth", "side"]
theorem sc_is_formula : FnScope N_is_formula ["thing"] (defScope s_is_formula) := ⟨rfl, rfl, rfl, by decide +kernel, rfl, by decide +kernel, by decide +kernel⟩
abbrev s_part_text : Stmt := topS 16
abbrev N_part_text : List Str := ["part"]
theorem sc_part_text : FnScope N_part_text ["part"] (defScope s_part_text) := ⟨rfl, rfl, rfl, by decide +kernel, rfl, by decide +kernel, by decide +kernel⟩
abbrev s_nested_text : Stmt := topS 17
abbrev N_nested_text : List Str := ["thing", "parts", "part"]
theorem sc_nested_text : FnScope N_nested_text ["thing"] (defScope s_nested_text) := ⟨rfl, rfl, rfl, by decide +kernel, rfl, by decide +kernel, by decide +kernel⟩
abbrev s_formula_text : Stmt := topS 18
abbrev N_formula_text : List Str := ["formula"]
theorem sc_formula_text : FnScope N_formula_text ["formula"] (defScope s_formula_text) := ⟨rfl, rfl, rfl, by decide +kernel, rfl, by decide +kernel, by decide +kernel⟩
abbrev s_number_from : Stmt := topS 19
abbrev N_number_from : List Str := ["text", "number"]
theorem sc_number_from : FnScope N_number_from ["text"] (defScope s_number_from) := ⟨rfl, rfl, rfl, by decide +kernel, rfl, by decide +kernel, by decide +kernel⟩
abbrev s_word_from : Stmt := topS 20
abbrev N_word_from : List Str := ["text", "number"]
theorem sc_word_from : FnScope N_word_from ["text"] (defScope s_word_from) := ⟨rfl, rfl, rfl, by decide +kernel, rfl, by decide +kernel, by decide +kernel⟩
abbrev s_shaped : Stmt := topS 21
abbrev N_shaped : List Str := ["parts"]
theorem sc_shaped : FnScope N_shaped ["parts"] (defScope s_shaped) := ⟨rfl, rfl, rfl, by decide +kernel, rfl, by decide +kernel, by decide +kernel⟩
abbrev s_nested_from : Stmt := topS 22
abbrev N_nested_from : List Str := ["text", "words", "levels", "word", "inner"]
theorem sc_nested_from : FnScope N_nested_from ["text"] (defScope s_nested_from) := ⟨rfl, rfl, rfl, by decide +kernel, rfl, by decide +kernel, by decide +kernel⟩
abbrev s_formula_from : Stmt := topS 23
abbrev N_formula_from : List Str := ["text", "formula"]
theorem sc_formula_from : FnScope N_formula_from ["text"] (defScope s_formula_from) := ⟨rfl, rfl, rfl, by decide +kernel, rfl, by decide +kernel, by decide +kernel⟩
abbrev s__law_box : Stmt := topS 25
abbrev N__law_box : List Str := ["_law_script", "_law_k", "_law_cell"]
theorem sc__law_box : FnScope N__law_box ["_law_script", "_law_k"] (defScope s__law_box) := ⟨rfl, rfl, rfl, by decide +kernel, rfl, by decide +kernel, by decide +kernel⟩
abbrev s__law_take : Stmt := topS 26
abbrev N__law_take : List Str := ["_law_box_here", "_law_many", "_law_found", "_law_once"]
theorem sc__law_take : FnScope N__law_take ["_law_box_here", "_law_many"] (defScope s__law_take) := ⟨rfl, rfl, rfl, by decide +kernel, rfl, by decide +kernel, by decide +kernel⟩
abbrev s__law_folded : Stmt := topS 27
abbrev N__law_folded : List Str := ["_law_script", "_law_many", "_law_cells", "_law_k", "_law_cell"]
theorem sc__law_folded : FnScope N__law_folded ["_law_script", "_law_many"] (defScope s__law_folded) := ⟨rfl, rfl, rfl, by decide +kernel, rfl, by decide +kernel, by decide +kernel⟩
abbrev s__law_formula : Stmt := topS 28
abbrev N__law_formula : List Str := ["_law_box_here", "_law_deep", "_law_many", "_law_wide", "_law_way", "_law_left", "_law_word", "_law_turn"]
theorem sc__law_formula : FnScope N__law_formula ["_law_box_here", "_law_deep", "_law_many", "_law_wide"] (defScope s__law_formula) := ⟨rfl, rfl, rfl, by decide +kernel, rfl, by decide +kernel, by decide +kernel⟩
abbrev s__law_any : Stmt := topS 29
abbrev N__law_any : List Str := ["_law_box_here", "_law_great", "_law_wide"]
theorem sc__law_any : FnScope N__law_any ["_law_box_here"] (defScope s__law_any) := ⟨rfl, rfl, rfl, by decide +kernel, rfl, by decide +kernel, by decide +kernel⟩
abbrev s__law_written : Stmt := topS 30
abbrev N__law_written : List Str := ["_law_thing", "_law_found", "_law_part", "_law_number"]
theorem sc__law_written : FnScope N__law_written ["_law_thing"] (defScope s__law_written) := ⟨rfl, rfl, rfl, by decide +kernel, rfl, by decide +kernel, by decide +kernel⟩
abbrev s_law : Stmt := topS 31
abbrev N_law : List Str := ["_law_script", "_law_cells", "_law_k", "_law_box_here", "_law_deep", "_law_turn", "_law_formula_here", "_law_elder"]
theorem sc_law : FnScope N_law ["_law_script"] (defScope s_law) := ⟨rfl, rfl, rfl, by decide +kernel, rfl, by decide +kernel, by decide +kernel⟩
/-- the code object of the def at f is the one at c -/
def CodeAt (K : PySem.W.Frag) (f c : Addr) : Prop := ∀ (oc : Value) (od : Option Addr) (fd : FuncData) (osl : Array (Option Value)), K.lookup f = some ⟨oc, od, .func fd, osl⟩ → ∀ b, fd.code = .ref b → b = c
theorem okC {P : Program} {w : World} {K : PySem.W.Frag} {mg : Str → Option Value} {base : Heap} {x : Str} {st : Stmt} {f c : Addr} {fd : FuncData} {N ps : List Str} {k : Nat} {sp : Sp} (F : FnP K x st f fd) (hc : CodeAt K f c) (S : FnScope N ps (defScope st)) (len : ∀ vs H Q E, sp vs H Q E → vs.length = ps.length)
    (hb : ∀ (A : Around) (outer : List Env) (s : Shared) (H : Hp) (vs : List V) (Q : VK) (E : XK), Room k (A.deeper (envOfC x (defScope st) s.heap.objs.size f (.ref c))) → sp vs H Q E →
      ∃ t, PSs (cxOf CX0 P w K mg base N x (defScope st) f (.ref c) A outer s H E) (defBody st) t ∧ t { nx := fun _ H' => Q .non H', rt := Q } (L2.start N vs) H) : FnOk P w K mg base CX0 (k + 1) f fd ps sp := by
  obtain ⟨oc, od, dV, kV, doc, pm, an, cdv, ct, osl, rfl, lk, hcd, _, _⟩ := F.ex
  obtain ⟨b, rfl⟩ := He.codeIn_ref hcd
  have e := hc oc od _ osl lk b rfl
  subst e
  exact fn_of lk hcd S len hb
theorem pe_globI {X : Cx} {x : Str} {i : Int} {pos : Pos} (hg : Gl X x) (hm : ∃ t, X.mg x = some (.int i t)) (hd : (x == ("__debug__" : Str)) = false := by decide) : PE X (.Name x pos) (tC (.int i)) := by
  obtain ⟨t, h⟩ := hm
  exact pe_glob hg h ⟨_, rfl⟩ hd
structure Defs (K : PySem.W.Frag) (mg : Str → Option Value) where
  f_is_number : Addr
  fd_is_number : FuncData
  F_is_number : FnP K "is_number" s_is_number f_is_number fd_is_number
  g_is_number : mg "is_number" = some (.ref f_is_number)
  b_is_number : Binds K fd_is_number ["thing"] []
  f_is_within : Addr
  fd_is_within : FuncData
  F_is_within : FnP K "is_within" s_is_within f_is_within fd_is_within
  g_is_within : mg "is_within" = some (.ref f_is_within)
  b_is_within : Binds K fd_is_within ["thing", "least", "greatest"] []
  f_is_part : Addr
  fd_is_part : FuncData
  F_is_part : FnP K "is_part" s_is_part f_is_part fd_is_part
  g_is_part : mg "is_part" = some (.ref f_is_part)
  b_is_part : Binds K fd_is_part ["thing"] []
  f_sides_of : Addr
  fd_sides_of : FuncData
  F_sides_of : FnP K "sides_of" s_sides_of f_sides_of fd_sides_of
  g_sides_of : mg "sides_of" = some (.ref f_sides_of)
  b_sides_of : Binds K fd_sides_of ["part"] []
  f_is_formula : Addr
  fd_is_formula : FuncData
  F_is_formula : FnP K "is_formula" s_is_formula f_is_formula fd_is_formula
  g_is_formula : mg "is_formula" = some (.ref f_is_formula)
  b_is_formula : Binds K fd_is_formula ["thing"] []
  f_part_text : Addr
  fd_part_text : FuncData
  F_part_text : FnP K "part_text" s_part_text f_part_text fd_part_text
  g_part_text : mg "part_text" = some (.ref f_part_text)
  b_part_text : Binds K fd_part_text ["part"] []
  f_nested_text : Addr
  fd_nested_text : FuncData
  F_nested_text : FnP K "nested_text" s_nested_text f_nested_text fd_nested_text
  g_nested_text : mg "nested_text" = some (.ref f_nested_text)
  b_nested_text : Binds K fd_nested_text ["thing"] []
  f_formula_text : Addr
  fd_formula_text : FuncData
  F_formula_text : FnP K "formula_text" s_formula_text f_formula_text fd_formula_text
  g_formula_text : mg "formula_text" = some (.ref f_formula_text)
  b_formula_text : Binds K fd_formula_text ["formula"] []
  f_number_from : Addr
  fd_number_from : FuncData
  F_number_from : FnP K "number_from" s_number_from f_number_from fd_number_from
  g_number_from : mg "number_from" = some (.ref f_number_from)
  b_number_from : Binds K fd_number_from ["text"] []
  f_word_from : Addr
  fd_word_from : FuncData
  F_word_from : FnP K "word_from" s_word_from f_word_from fd_word_from
  g_word_from : mg "word_from" = some (.ref f_word_from)
  b_word_from : Binds K fd_word_from ["text"] []
  f_shaped : Addr
  fd_shaped : FuncData
  F_shaped : FnP K "shaped" s_shaped f_shaped fd_shaped
  g_shaped : mg "shaped" = some (.ref f_shaped)
  b_shaped : Binds K fd_shaped ["parts"] []
  f_nested_from : Addr
  fd_nested_from : FuncData
  F_nested_from : FnP K "nested_from" s_nested_from f_nested_from fd_nested_from
  g_nested_from : mg "nested_from" = some (.ref f_nested_from)
  b_nested_from : Binds K fd_nested_from ["text"] []
  f_formula_from : Addr
  fd_formula_from : FuncData
  F_formula_from : FnP K "formula_from" s_formula_from f_formula_from fd_formula_from
  g_formula_from : mg "formula_from" = some (.ref f_formula_from)
  b_formula_from : Binds K fd_formula_from ["text"] []
  f__law_box : Addr
  fd__law_box : FuncData
  F__law_box : FnP K "_law_box" s__law_box f__law_box fd__law_box
  g__law_box : mg "_law_box" = some (.ref f__law_box)
  b__law_box : Binds K fd__law_box ["_law_script", "_law_k"] []
  f__law_take : Addr
  fd__law_take : FuncData
  F__law_take : FnP K "_law_take" s__law_take f__law_take fd__law_take
  g__law_take : mg "_law_take" = some (.ref f__law_take)
  b__law_take : Binds K fd__law_take ["_law_box_here", "_law_many"] []
  f__law_folded : Addr
  fd__law_folded : FuncData
  F__law_folded : FnP K "_law_folded" s__law_folded f__law_folded fd__law_folded
  g__law_folded : mg "_law_folded" = some (.ref f__law_folded)
  b__law_folded : Binds K fd__law_folded ["_law_script", "_law_many"] []
  f__law_formula : Addr
  fd__law_formula : FuncData
  F__law_formula : FnP K "_law_formula" s__law_formula f__law_formula fd__law_formula
  g__law_formula : mg "_law_formula" = some (.ref f__law_formula)
  b__law_formula : Binds K fd__law_formula ["_law_box_here", "_law_deep", "_law_many", "_law_wide"] []
  f__law_any : Addr
  fd__law_any : FuncData
  F__law_any : FnP K "_law_any" s__law_any f__law_any fd__law_any
  g__law_any : mg "_law_any" = some (.ref f__law_any)
  b__law_any : Binds K fd__law_any ["_law_box_here"] []
  f__law_written : Addr
  fd__law_written : FuncData
  F__law_written : FnP K "_law_written" s__law_written f__law_written fd__law_written
  g__law_written : mg "_law_written" = some (.ref f__law_written)
  b__law_written : Binds K fd__law_written ["_law_thing"] []
  f_law : Addr
  fd_law : FuncData
  F_law : FnP K "law" s_law f_law fd_law
  g_law : mg "law" = some (.ref f_law)
  b_law : Binds K fd_law ["_law_script"] []
  c_nested_text : Addr
  P_nested_text : Addr
  k_nested_text : CodeAt K f_nested_text c_nested_text
  C_SIDES : Addr
  g_SIDES : mg "SIDES" = some (.ref C_SIDES)
  e_SIDES : C_SIDES = He.ga K "SIDES"
  m_ValueError : mg "ValueError" = none
  m_abs : mg "abs" = none
  m_bool : mg "bool" = none
  m_divmod : mg "divmod" = none
  m_enumerate : mg "enumerate" = none
  m_int : mg "int" = none
  m_isinstance : mg "isinstance" = none
  m_len : mg "len" = none
  m_list : mg "list" = none
  m_max : mg "max" = none
  m_range : mg "range" = none
  m_repr : mg "repr" = none
  m_str : mg "str" = none
  m_tuple : mg "tuple" = none
  i_GREATEST_INPUT : ∃ t, mg "GREATEST_INPUT" = some (.int 5 t)
  i_MOST_PARTS : ∃ t, mg "MOST_PARTS" = some (.int 24 t)
  i_DEEPEST : ∃ t, mg "DEEPEST" = some (.int 8 t)
  i_MOST_FIGURES : ∃ t, mg "MOST_FIGURES" = some (.int 3 t)
structure Tabs {K : PySem.W.Frag} {mg : Str → Option Value} (T : Defs K mg) (base : Heap) : Prop where
  t_nested_text : GxR.TabB base mg T.c_nested_text T.P_nested_text
theorem bt_ValueError : bootBuiltins "ValueError" = some (.type "ValueError") := by decide +kernel
theorem bt_abs : bootBuiltins "abs" = some (.builtin "abs") := by decide +kernel
theorem bt_bool : bootBuiltins "bool" = some (.type "bool") := by decide +kernel
theorem bt_divmod : bootBuiltins "divmod" = some (.builtin "divmod") := by decide +kernel
theorem bt_enumerate : bootBuiltins "enumerate" = some (.type "enumerate") := by decide +kernel
theorem bt_int : bootBuiltins "int" = some (.type "int") := by decide +kernel
theorem bt_isinstance : bootBuiltins "isinstance" = some (.builtin "isinstance") := by decide +kernel
theorem bt_len : bootBuiltins "len" = some (.builtin "len") := by decide +kernel
theorem bt_list : bootBuiltins "list" = some (.type "list") := by decide +kernel
theorem bt_max : bootBuiltins "max" = some (.builtin "max") := by decide +kernel
theorem bt_range : bootBuiltins "range" = some (.type "range") := by decide +kernel
theorem bt_repr : bootBuiltins "repr" = some (.builtin "repr") := by decide +kernel
theorem bt_str : bootBuiltins "str" = some (.type "str") := by decide +kernel
theorem bt_tuple : bootBuiltins "tuple" = some (.type "tuple") := by decide +kernel
def frT (t b : Int) : Int := (b.sign * t) / (Int.gcd t b : Int)
def frB (t b : Int) : Int := (b.natAbs : Int) / (Int.gcd t b : Int)
theorem fr_ex (t : Int) {b : Int} (hb : b ≠ 0) : ∃ (g : Nat) (x y : Int), 0 < g ∧ Int.gcd t b = g ∧ t = (g : Int) * x ∧ b = (g : Int) * y ∧ y ≠ 0 ∧ Int.gcd x y = 1 := by
  have hg : 0 < Int.gcd t b := Int.gcd_pos_of_ne_zero_right t hb
  obtain ⟨x, hx⟩ := Int.gcd_dvd_left t b
  obtain ⟨y, hy⟩ := Int.gcd_dvd_right t b
  refine ⟨Int.gcd t b, x, y, hg, rfl, hx, hy, fun e => hb (by rw [hy, e, Int.mul_zero]), ?_⟩
  generalize eg : Int.gcd t b = g at hg hx hy
  have e : g = g * Int.gcd x y := by
    rw [← eg]
    conv => lhs; rw [hx, hy, Int.gcd_mul_left]
    rw [Int.natAbs_natCast, eg]
  exact Nat.eq_of_mul_eq_mul_left hg (by rw [← e, Nat.mul_one])
theorem sgn {b : Int} {g : Nat} {y : Int} (hg : 0 < g) (hb : b = (g : Int) * y) : b.sign = y.sign := by
  rw [hb, Int.sign_mul, Int.sign_eq_one_of_pos (by omega), Int.one_mul]
theorem fr_vals {t b : Int} {g : Nat} {x y : Int} (hg : 0 < g) (eg : Int.gcd t b = g) (ht : t = (g : Int) * x) (hb : b = (g : Int) * y) : frT t b = y.sign * x ∧ frB t b = (y.natAbs : Int) := by
  have g0 : (g : Int) ≠ 0 := by omega
  constructor
  · unfold frT
    rw [eg, sgn hg hb, ht, show y.sign * ((g : Int) * x) = (g : Int) * (y.sign * x) by rw [Int.mul_left_comm]]
    exact Int.mul_ediv_cancel_left _ g0
  · unfold frB
    rw [eg, hb, Int.natAbs_mul, Int.natAbs_natCast, Int.natCast_mul]
    exact Int.mul_ediv_cancel_left _ g0
theorem sgn_abs {y : Int} (hy : y ≠ 0) : y.sign.natAbs = 1 := Int.natAbs_sign_of_ne_zero hy
theorem fr_pos (t : Int) {b : Int} (hb : b ≠ 0) : 0 < frB t b := by
  obtain ⟨g, x, y, hg, eg, ht, hy, hy0, h1⟩ := fr_ex t hb
  rw [(fr_vals hg eg ht hy).2]
  omega
theorem fr_gcd (t : Int) {b : Int} (hb : b ≠ 0) : Int.gcd (frT t b) (frB t b) = 1 := by
  obtain ⟨g, x, y, hg, eg, ht, hy, hy0, h1⟩ := fr_ex t hb
  rw [(fr_vals hg eg ht hy).1, (fr_vals hg eg ht hy).2]
  show Nat.gcd (y.sign * x).natAbs ((y.natAbs : Int)).natAbs = 1
  rw [Int.natAbs_mul, sgn_abs hy0, Nat.one_mul, Int.natAbs_natCast]
  exact h1
theorem fr_eq (t : Int) {b : Int} (hb : b ≠ 0) : frT t b * b = t * frB t b := by
  obtain ⟨g, x, y, hg, eg, ht, hy, hy0, h1⟩ := fr_ex t hb
  rw [(fr_vals hg eg ht hy).1, (fr_vals hg eg ht hy).2]
  rw [ht, hy]
  have e : y * y.sign = (y.natAbs : Int) := Int.mul_sign_self y
  rw [← e]
  simp only [Int.mul_comm, Int.mul_left_comm, Int.mul_assoc]
theorem fr_absT (t : Int) {b : Int} (hb : b ≠ 0) : (frT t b).natAbs ≤ t.natAbs := by
  obtain ⟨g, x, y, hg, eg, ht, hy, hy0, h1⟩ := fr_ex t hb
  rw [(fr_vals hg eg ht hy).1, ht, Int.natAbs_mul, sgn_abs hy0, Nat.one_mul, Int.natAbs_mul, Int.natAbs_natCast]
  exact Nat.le_mul_of_pos_left _ hg
theorem fr_absB (t : Int) {b : Int} (hb : b ≠ 0) : (frB t b).natAbs ≤ b.natAbs := by
  obtain ⟨g, x, y, hg, eg, ht, hy, hy0, h1⟩ := fr_ex t hb
  rw [(fr_vals hg eg ht hy).2, hy, Int.natAbs_mul, Int.natAbs_natCast, Int.natAbs_natCast]
  exact Nat.le_mul_of_pos_left _ hg
theorem fr_negT (t b : Int) : frT (-t) (-b) = frT t b := by
  unfold frT
  rw [Int.sign_neg, Int.neg_mul_neg, Int.gcd_neg, Int.neg_gcd]
theorem fr_negB (t b : Int) : frB (-t) (-b) = frB t b := by
  unfold frB
  rw [Int.natAbs_neg, Int.gcd_neg, Int.neg_gcd]
/-- what the program's two ways reckon -/
theorem fd_pos {g : Nat} {x : Int} (hg : 0 < g) : ((g : Int) * x).fdiv (g : Int) = x := by
  rw [Int.fdiv_eq_ediv_of_nonneg _ (by omega)]
  exact Int.mul_ediv_cancel_left _ (by omega)
theorem fd_neg {g : Nat} {x : Int} (hg : 0 < g) : ((g : Int) * x).fdiv (-(g : Int)) = -x := by
  rw [show (g : Int) * x = -(g : Int) * (-x) by rw [Int.neg_mul_neg]]
  exact Int.mul_fdiv_cancel_left _ (by omega)
theorem fr_lt (t : Int) {b : Int} (hb : b < 0) : t.fdiv (-(Int.gcd t b : Int)) = frT t b ∧ b.fdiv (-(Int.gcd t b : Int)) = frB t b := by
  obtain ⟨g, x, y, hg, eg, ht, hy, hy0, h1⟩ := fr_ex t (show b ≠ 0 by omega)
  rw [(fr_vals hg eg ht hy).1, (fr_vals hg eg ht hy).2, eg]
  have yn : y < 0 := by
    rw [hy] at hb
    exact Int.neg_of_mul_neg_right hb (by omega)
  constructor
  · conv => lhs; rw [ht]
    rw [fd_neg hg, Int.sign_eq_neg_one_of_neg yn]
    omega
  · conv => lhs; rw [hy]
    rw [fd_neg hg]
    omega
theorem fr_ge (t : Int) {b : Int} (hb : 0 < b) : t.fdiv (Int.gcd t b : Int) = frT t b ∧ b.fdiv (Int.gcd t b : Int) = frB t b := by
  obtain ⟨g, x, y, hg, eg, ht, hy, hy0, h1⟩ := fr_ex t (show b ≠ 0 by omega)
  rw [(fr_vals hg eg ht hy).1, (fr_vals hg eg ht hy).2, eg]
  have yn : 0 < y := by
    rw [hy] at hb
    exact Int.pos_of_mul_pos_right hb (by omega)
  constructor
  · conv => lhs; rw [ht]
    rw [fd_pos hg, Int.sign_eq_one_of_pos yn]
    omega
  · conv => lhs; rw [hy]
    rw [fd_pos hg]
    omega
/-! sizes -/
def S (n : Nat) (x : Int) : Prop := x.natAbs < 2 ^ n
theorem S.mono {n m : Nat} {x : Int} (h : S n x) (l : n ≤ m) : S m x := Nat.lt_of_lt_of_le h (Nat.pow_le_pow_right (by decide) l)
theorem S.mul {n m : Nat} {x y : Int} (h : S n x) (k : S m y) : S (n + m) (x * y) := by
  unfold S at *
  rw [Int.natAbs_mul, Nat.pow_add]
  exact Nat.mul_lt_mul'' h k
theorem S.add {n : Nat} {x y : Int} (h : S n x) (k : S n y) : S (n + 1) (x + y) := by
  unfold S at *
  rw [Nat.pow_succ]
  omega
theorem S.sub {n : Nat} {x y : Int} (h : S n x) (k : S n y) : S (n + 1) (x - y) := by
  unfold S at *
  rw [Nat.pow_succ]
  omega
theorem S.frT {n : Nat} {t b : Int} (h : S n t) (hb : b ≠ 0) : S n (frT t b) := Nat.lt_of_le_of_lt (fr_absT t hb) h
theorem S.frB {n : Nat} {t b : Int} (h : S n b) (hb : b ≠ 0) : S n (frB t b) := Nat.lt_of_le_of_lt (fr_absB t hb) h
theorem abs_eq (i : Int) : (if i < 0 then -i else i) = (i.natAbs : Int) := by
  split <;> omega
/-! the same rules with the written part by its name: for the inside of comprehensions -/
theorem pg_tupK {X : Cx} {K : PySem.W.Frag} {es : List Expr} {k n : Nat} {pos : Pos} {t : TGs} (h : X.K = K) (hc : X.calm = true) (hg : PGs X es t) (hn : (assignEach es X.env).length = n := by rfl) (hst : (assignEach es X.env).findIdx? (·.1) = none := by rfl) : PG X (.Tuple es k pos) (gTup K n t) := by
  subst h
  exact pg_tup hc hg hn hst
theorem isiK {X : Cx} {K : PySem.W.Frag} (h : X.K = K) : CallR X (.builtin "isinstance") (rIsi K) := by
  subst h
  exact call_isi
theorem ixlK {X : Cx} {K : PySem.W.Frag} (h : X.K = K) : IxR X (rIxL K) := by
  subst h
  exact ix_list
theorem ixtK {X : Cx} {K : PySem.W.Frag} (h : X.K = K) : IxR X (rIxT K) := by
  subst h
  exact ix_tup
theorem lenK {X : Cx} {K : PySem.W.Frag} (h : X.K = K) : CallR X (.builtin "len") (fun xs H Q => ∃ p ys, xs = [.ref p] ∧ (SqL K H p ys ∨ SqT K H p ys) ∧ Q (.int ys.length) H) := by
  subst h
  exact call_len_seq
theorem sumK {X : Cx} {K : PySem.W.Frag} (h : X.K = K) (hc : X.calm = true) : CallR X (.builtin "sum") (rSum K) := by
  subst h
  exact cr_sum hc
theorem yes_ite {σ : L2.St} {H : Hp} {A B : Hp → Prop} (h : A H) : tYes σ H (fun b H3 => if b = true then A H3 else B H3) := by
  show if true = true then A H else B H
  rw [if_pos rfl]
  exact h
/-! heaps -/
theorem same_upd {H : Hp} {p : Addr} {o : HO} (h : H p = none) : Same H (upd H p o) := fun b x e => by
  rw [upd_ne (ne_of_none e h)]
  exact e
def But (p : Addr) (H H' : Hp) : Prop := ∀ b o, b ≠ p → H b = some o → H' b = some o
theorem But.trans {p : Addr} {H H1 H2 : Hp} (a : But p H H1) (b : But p H1 H2) : But p H H2 := fun c o n e => b c o n (a c o n e)
theorem But.refl (p : Addr) (H : Hp) : But p H H := fun _ _ _ e => e
theorem But.put {p : Addr} {H H' : Hp} {o : HO} (a : But p H H') : But p H (L2.upd H' p o) := fun c x n e => by
  rw [upd_ne n]
  exact a c x n e
theorem same_but {p : Addr} {H H' : Hp} (a : Same H H') : But p H H' := fun c x _ e => a c x e
theorem But.new {p q : Addr} {H H' : Hp} {o : HO} (a : But p H H') (n : H' q = none) : But p H (upd H' q o) := fun c x hn e => by
  have e2 := a c x hn e
  rw [upd_ne (ne_of_none e2 n)]
  exact e2
/-- objects made since H may change: what H has stays -/
theorem same_newer {H H' : Hp} {q : Addr} {o : HO} (a : Same H H') (n : H q = none) : Same H (upd H' q o) := fun c x e => by
  rw [upd_ne (ne_of_none e n)]
  exact a c x e
theorem But.same {p : Addr} {H H1 H2 : Hp} (n : H p = none) (a : Same H H1) (b : But p H1 H2) : Same H H2 := fun c x e =>
  b c x (ne_of_none e n) (a c x e)
/-- the box: a rest, a begin, how often -/
def Bx (H : Hp) (p : Addr) (n : Nat) : Prop := ∃ a b c : Int, H p = some (.lst [.int a, .int b, .int c]) ∧ 0 ≤ a ∧ 0 ≤ b ∧ b < 2147483647 ∧ 0 ≤ c ∧ c ≤ n
theorem Bx.same {H H' : Hp} {p : Addr} {n : Nat} (h : Bx H p n) (s : Same H H') : Bx H' p n := by
  obtain ⟨a, b, c, hp, r⟩ := h
  exact ⟨a, b, c, s _ _ hp, r⟩
theorem Bx.mono {H : Hp} {p : Addr} {n m : Nat} (h : Bx H p n) (l : n ≤ m) : Bx H p m := by
  obtain ⟨a, b, c, hp, h1, h2, h3, h4, h5⟩ := h
  exact ⟨a, b, c, hp, h1, h2, h3, h4, by omega⟩
theorem Bx.new {H : Hp} {p q : Addr} {n : Nat} {o : HO} (h : Bx H p n) (nq : H q = none) : Bx (L2.upd H q o) p n := h.same (same_upd nq)
theorem Bx.ne_tup {H : Hp} {p q : Addr} {n : Nat} {xs : List V} (h : Bx H p n) (e : H q = some (.tup xs)) : q ≠ p := by
  obtain ⟨a, b, c, hp, _⟩ := h
  exact ne_of e hp (fun z => by cases z)
/-- an item of a menu of numbers -/
theorem at_menu {Pr : Int → Prop} {xs : List Int} {r : Int} (h0 : 0 ≤ r) (h1 : r < xs.length) (hx : ∀ x, x ∈ xs → Pr x) : ∃ v, atI (xs.map V.int) r = some (V.int v) ∧ Pr v := by
  obtain ⟨j, rfl⟩ := Int.eq_ofNat_of_zero_le h0
  have hj : j < xs.length := by omega
  refine ⟨xs[j], atI_nat (by rw [List.getElem?_map, List.getElem?_eq_getElem hj]; rfl), hx _ (List.getElem_mem hj)⟩
theorem SqL.mk {K : PySem.W.Frag} {H : Hp} {a : Addr} {xs : List V} (h : H a = some (.lst xs)) : SqL K H a xs := .inl (.inl h)
theorem SqT.mk {K : PySem.W.Frag} {H : Hp} {a : Addr} {xs : List V} (h : H a = some (.tup xs)) : SqT K H a xs := .inl (.inl h)
theorem same_tup {K : PySem.W.Frag} {H H' : Hp} {a : Addr} {xs : List V} (e : Same H H') (h : SqT K H a xs) : SqT K H' a xs := by
  rcases h with (h | ⟨o, h⟩) | h
  · exact .inl (.inl (e _ _ h))
  · exact .inl (.inr ⟨o, e _ _ h⟩)
  · exact .inr h
theorem ixn {n j : Nat} (hj : j < n) : ixN n (j : Int) = some j := by
  unfold ixN
  rw [if_pos (by omega), if_pos (by omega)]
  simp
theorem cdivP {a m : Int} (h0 : 0 < m) (h1 : m < 2 ^ 60) : CDivP a m := ⟨h0, PyProof.noPylong_of_log2 (wide_div (i := a) (b := 60) h0 (by omega) (by decide) (by decide)).2⟩
theorem i01 {c : Prop} [Decidable c] : -(2 ^ 64) < (if c then (1 : Int) else 0) ∧ (if c then (1 : Int) else 0) < 2 ^ 64 := by
  split <;> decide
theorem i01n {c : Prop} [Decidable c] : 0 ≤ (if c then (1 : Int) else 0) := by
  split <;> decide
theorem absn (i : Int) : 0 ≤ (if i < 0 then -i else i) := by
  split <;> omega
/-! the box of a cell -/
def sp__law_box (K : PySem.W.Frag) : Sp := fun vs H Q _ => ∃ (a : Addr) (ns : List Int) (k : Nat), vs = [.ref a, .int (k : Nat)] ∧ SqL K H a (ns.map V.int) ∧ k < 1000 ∧
  ∀ H' p, Same H H' → H p = none → Bx H' p 0 → Q (.ref p) H'
theorem ok__law_box (T : Defs K mg) (TT : Tabs T base) : FnOk P w K mg base CX0 1 T.f__law_box T.fd__law_box ["_law_script", "_law_k"] (sp__law_box K) := by
  refine T.F__law_box.ok sc__law_box (fun vs H Q E h => ?_) (fun cdv A outer s H vs Q E hr h => ?_)
  · obtain ⟨a, ns, k, rfl, hS, hk, q⟩ := h
    rfl
  · obtain ⟨a, ns, k, rfl, hS, hk, q⟩ := h
    refine ⟨_, PSs.nox (pss_cons (ps_set (i := 2) sc__law_box.nd rfl (.inl rfl) pe_int)
    (pss_cons (ps_if (pt_cmpR op_lt (pv 1) (pe_callB call_len_seq (by rfl) T.m_len bt_len (pa_cons (pv 0) pa_nil)) (nomark _)) (pss_one (ps_set (i := 2) sc__law_box.nd rfl (.inl rfl) (pe_ix ix_list (pv 0) (pv 1) (fun _ _ => rfl)))) pss_nil)
    (pss_one (ps_ret (pe_lst (pa_cons (pe_op op_mul (pe_callB call_abs (by rfl) T.m_abs bt_abs (pa_cons (pv 2) pa_nil)) (pe_callTy call_int1 (by rfl) T.m_int bt_int (pa_cons (pe_cmpR op_ge (pe_callB call_abs (by rfl) T.m_abs bt_abs (pa_cons (pv 2) pa_nil)) (pe_op op_pow pe_int pe_int) (nomark _)) pa_nil))) (pa_cons (pe_op op_mod (pe_op op_add (pv 2) (pe_op op_mul (pe_op op_mul pe_int (pv 1)) (pv 1))) pe_int) (pa_cons pe_int pa_nil)))))))), ?_⟩
    refine ⟨.int k, rfl, .ref a, rfl, a, _, rfl, .inl hS, _, _, rfl, rfl, _, rfl, ite2 (fun e => ?_) (fun e => ?_)⟩
    · have hl : (k : Int) < ((ns.map V.int).length : Nat) := of_decide_eq_true e
      rw [List.length_map] at hl
      have hj : k < ns.length := by omega
      refine ⟨.ref a, rfl, .int k, rfl, a, _, _, .int ns[k], rfl, rfl, hS, atI_nat (by rw [List.getElem?_map, List.getElem?_eq_getElem hj]; rfl), ?_⟩
      refine ⟨_, rfl, _, rfl, _, rfl, _, rfl, _, _, rfl, rfl, ⟨by decide, by decide, by decide⟩, _, _, rfl, rfl, .inr ⟨_, rfl, _, _, rfl, rfl, .inr i01, _, rfl, .int k, rfl, _, _, rfl, rfl, .inl ⟨by decide, by decide⟩, .int k, rfl, _, _, rfl, rfl, .inr ⟨by omega, by omega⟩, _, _, rfl, rfl, _, _, rfl, rfl, (show (0 : Int) < 2147483647 by decide), (show 3 ≤ sizeLine by decide), fun p np => ?_⟩⟩
      refine q _ p (same_upd np) np ⟨_, _, _, upd_same, ?_, Int.emod_nonneg _ (by decide), Int.emod_lt_of_pos _ (by decide), Int.le_refl 0, Int.le_refl 0⟩
      exact Int.mul_nonneg (absn _) i01n
    · refine ⟨_, rfl, _, rfl, _, rfl, _, rfl, _, _, rfl, rfl, ⟨by decide, by decide, by decide⟩, _, _, rfl, rfl, .inr ⟨_, rfl, _, _, rfl, rfl, .inr i01, _, rfl, .int k, rfl, _, _, rfl, rfl, .inl ⟨by decide, by decide⟩, .int k, rfl, _, _, rfl, rfl, .inr ⟨by omega, by omega⟩, _, _, rfl, rfl, _, _, rfl, rfl, (show (0 : Int) < 2147483647 by decide), (show 3 ≤ sizeLine by decide), fun p np => ?_⟩⟩
      refine q _ p (same_upd np) np ⟨_, _, _, upd_same, ?_, Int.emod_nonneg _ (by decide), Int.emod_lt_of_pos _ (by decide), Int.le_refl 0, Int.le_refl 0⟩
      exact Int.mul_nonneg (absn _) i01n
/-! one number taken -/
def sp__law_take (K : PySem.W.Frag) : Sp := fun vs H Q _ => ∃ (p : Addr) (m : Int) (n : Nat), vs = [.ref p, .int m] ∧ Bx H p n ∧ 0 < m ∧ m < 2 ^ 60 ∧ n < 1000000000000 ∧
  ∀ H' r, But p H H' → Bx H' p (n + 1) → 0 ≤ r → r < m → Q (.int r) H'
theorem ok__law_take (T : Defs K mg) (TT : Tabs T base) : FnOk P w K mg base CX0 1 T.f__law_take T.fd__law_take ["_law_box_here", "_law_many"] (sp__law_take K) := by
  refine T.F__law_take.ok sc__law_take (fun vs H Q E h => ?_) (fun cdv A outer s H vs Q E hr h => ?_)
  · obtain ⟨p, m, n, rfl, ⟨a, b, c, hp, ha, hb, hb2, hc, hc2⟩, h0, h1, hn, q⟩ := h
    rfl
  · obtain ⟨p, m, n, rfl, ⟨a, b, c, hp, ha, hb, hb2, hc, hc2⟩, h0, h1, hn, q⟩ := h
    refine ⟨_, PSs.nox (pss_cons (ps_if (pt_cmpR op_gt (pe_ix ix_list (pv 0) pe_int (fun _ _ => rfl)) pe_int (nomark _)) (pss_cons (ps_asg (pe_callB call_divmodW (by rfl) T.m_divmod bt_divmod (pa_cons (pe_ix ix_list (pv 0) pe_int (fun _ _ => rfl)) (pa_cons (pv 1) pa_nil))) (pg_tup rfl (pgs_cons (pg_sub (pv 0) pe_int set_list) (pgs_cons (pg_name (i := 2) sc__law_take.nd rfl (.inl rfl)) pgs_nil))))
    (pss_one (ps_ret (pv 2)))) pss_nil)
    (pss_cons (ps_asg (pe_op op_add (pe_ix ix_list (pv 0) pe_int (fun _ _ => rfl)) pe_int) (pg_sub (pv 0) pe_int set_list))
    (pss_cons (ps_set (i := 3) sc__law_take.nd rfl (.inl rfl) (pe_op op_mod (pe_op op_pow (pe_op op_add (pe_ix ix_list (pv 0) pe_int (fun _ _ => rfl)) (pe_op op_mul pe_int (pe_ix ix_list (pv 0) pe_int (fun _ _ => rfl)))) pe_int) pe_int))
    (pss_one (ps_ret (pe_op op_mod (pe_op op_fdiv (pe_op op_mod (pe_op op_add (pe_op op_mul (pv 3) pe_int) (pe_op op_mul (pe_op op_mul (pe_ix ix_list (pv 0) pe_int (fun _ _ => rfl)) (pe_ix ix_list (pv 0) pe_int (fun _ _ => rfl))) pe_int)) pe_int) pe_int) (pv 1))))))), ?_⟩
    have SQ : SqL K H p [.int a, .int b, .int c] := SqL.mk hp
    refine ⟨.ref p, rfl, p, _, 0, _, rfl, rfl, SQ, atI_nat (j := 0) rfl, _, _, rfl, rfl, _, rfl, ite2 (fun e => ?_) (fun e => ?_)⟩
    · refine ⟨.ref p, rfl, p, _, 0, _, rfl, rfl, SQ, atI_nat (j := 0) rfl, .int m, rfl, a, m, rfl, cdivP h0 h1, fun t nt => ?_⟩
      have hp1 : (upd H t (.tup [.int (a / m), .int (a % m)])) p = some (.lst [.int a, .int b, .int c]) := by
        rw [upd_ne (ne_of_none hp nt)]
        exact hp
      refine ⟨t, _, rfl, SqT.mk upd_same, rfl, _, _, rfl, .ref p, rfl, p, _, 0, 0, rfl, rfl, hp1, rfl, _, _, rfl, rfl, _, rfl, ?_⟩
      refine q _ _ ((But.refl p H).new nt).put ⟨_, _, _, upd_same, Int.ediv_nonneg ha (by omega), hb, hb2, hc, by omega⟩ (Int.emod_nonneg _ (by omega)) (Int.emod_lt_of_pos _ h0)
    · refine ⟨.ref p, rfl, p, _, 2, _, rfl, rfl, SQ, atI_nat (j := 2) rfl, _, _, rfl, rfl, .ref p, rfl, p, _, 2, 2, rfl, rfl, hp, rfl, ?_⟩
      have SQ1 : SqL K (upd H p (.lst [.int a, .int b, .int (c + 1)])) p [.int a, .int b, .int (c + 1)] := SqL.mk upd_same
      refine ⟨.ref p, rfl, p, _, 1, _, rfl, rfl, SQ1, atI_nat (j := 1) rfl, .ref p, rfl, p, _, 2, _, rfl, rfl, SQ1, atI_nat (j := 2) rfl, _, _, rfl, rfl, .inl ⟨by decide, by decide⟩, _, _, rfl, rfl, _, _, rfl, rfl, ⟨by decide, by decide, by omega⟩, _, _, rfl, rfl, (show (0 : Int) < 2147483647 by decide), ?_⟩
      refine ⟨_, rfl, _, _, rfl, rfl, .inr ⟨by decide, by decide⟩, .ref p, rfl, p, _, 2, _, rfl, rfl, SQ1, atI_nat (j := 2) rfl, .ref p, rfl, p, _, 2, _, rfl, rfl, SQ1, atI_nat (j := 2) rfl, _, _, rfl, rfl, .inl ⟨by omega, by omega⟩, _, _, rfl, rfl, .inr ⟨by decide, by decide⟩, _, _, rfl, rfl, _, _, rfl, rfl, (show (0 : Int) < 2147483629 by decide), _, _, rfl, rfl, ⟨by decide, by decide⟩, .int m, rfl, _, _, rfl, rfl, h0, ?_⟩
      refine q _ _ (But.refl p H).put ⟨_, _, _, upd_same, ha, hb, hb2, by omega, by omega⟩ (Int.emod_nonneg _ (by omega)) (Int.emod_lt_of_pos _ h0)
/-! the folded cells -/
theorem cut_take (ns : List Int) (m : Nat) : cutV (ns.map V.int) none (some (m : Int)) = (ns.take m).map V.int := by
  unfold cutV
  rw [HT.sIx_none, HT.sIx_nat, List.drop_zero, List.length_map, Nat.sub_zero, ← List.map_take]
  congr 1
  by_cases h : m ≤ ns.length
  · rw [Nat.min_eq_left h]
  · rw [Nat.min_eq_right (by omega), List.take_length, List.take_of_length_le (by omega)]
theorem cut_rest (ns : List Int) (m k : Nat) : ∃ ms : List Int, cutV (ns.map V.int) (some (m : Int)) (some (k : Int)) = ms.map V.int ∧ (0 < ms.length → m < ns.length) ∧ ms.length ≤ ns.length := by
  unfold cutV
  rw [HT.sIx_nat, HT.sIx_nat, List.length_map]
  refine ⟨(ns.drop (min m ns.length)).take (min k ns.length - min m ns.length), ?_, fun h => ?_, ?_⟩
  · rw [List.map_take, List.map_drop]
  · rw [List.length_take, List.length_drop] at h
    omega
  · rw [List.length_take, List.length_drop]
    omega
def sp__law_folded (K : PySem.W.Frag) : Sp := fun vs H Q _ => ∃ (a : Addr) (ns : List Int) (m : Nat), vs = [.ref a, .int (m : Nat)] ∧ SqL K H a (ns.map V.int) ∧ ns.length ≤ 63 ∧ 0 < m ∧ m < 64 ∧
  ∀ H' p (cs : List Int), Same H H' → H p = none → H' p = some (.lst (cs.map V.int)) → cs.length ≤ m → Q (.ref p) H'
theorem ok__law_folded (T : Defs K mg) (TT : Tabs T base) : FnOk P w K mg base CX0 1 T.f__law_folded T.fd__law_folded ["_law_script", "_law_many"] (sp__law_folded K) := by
  refine T.F__law_folded.ok sc__law_folded (fun vs H Q E h => ?_) (fun cdv A outer s H vs Q E hr h => ?_)
  · obtain ⟨a, ns, m, rfl, hS, hlen, hm, hm2, q⟩ := h
    rfl
  · obtain ⟨a, ns, m, rfl, hS, hlen, hm, hm2, q⟩ := h
    refine ⟨_, PSs.nox (pss_cons (ps_set (i := 2) sc__law_folded.nd rfl (.inl rfl) (pe_callTy call_list_of (by rfl) T.m_list bt_list (pa_cons (pe_slice sl_list (pv 0) po_none (po_some (pv 1))) pa_nil)))
    (pss_cons ((ps_for PassesOwn.never rfl (pi_enum (by rfl) T.m_enumerate (pa_cons (pe_slice sl_list (pv 0) (po_some (pv 1)) (po_some pe_int)) pa_nil)) (pg_tup rfl (pgs_cons (pg_name (i := 3) sc__law_folded.nd rfl (.inl rfl)) (pgs_cons (pg_name (i := 4) sc__law_folded.nd rfl (.inl rfl)) pgs_nil))) (pss_one (ps_asg (pe_op op_add (pe_ix ix_list (pv 2) (pe_op op_mod (pv 3) (pv 1)) (fun _ _ => rfl)) (pe_op op_mul (pv 4) (pe_op op_add (pv 3) pe_int))) (pg_sub (pv 2) (pe_op op_mod (pv 3) (pv 1)) set_list)))))
    (pss_one (ps_ret (pv 2))))), ?_⟩
    refine ⟨.ref a, rfl, .int m, rfl, m, rfl, a, _, rfl, hS, fun c nc => ?_⟩
    rw [cut_take]
    have s1 : Same H (upd H c (.lst ((ns.take m).map V.int))) := same_upd nc
    refine ⟨c, _, rfl, .inl (SqL.mk upd_same), fun l nl => ?_⟩
    have s2 := s1.trans (same_upd nl (o := .lst ((ns.take m).map V.int)))
    refine ⟨.ref a, rfl, .int m, rfl, m, rfl, 63, rfl, a, _, rfl, s2.seq hS, fun d nd => ?_⟩
    obtain ⟨ms, em, hms, hms2⟩ := cut_rest ns m 63
    rw [show (63 : Int) = ((63 : Nat) : Int) from rfl, em]
    have nl0 : H l = none := s1.free nl
    have nd0 : H d = none := s2.free nd
    have ndl : l ≠ d := fun e => by
      rw [← e, upd_same] at nd
      cases nd
    refine ⟨d, _, rfl, SqL.mk upd_same, for_it (walk_enum (xs := ms.map V.int)) (fun i σ H3 => ∃ y3 y4, ∃ cs : List Int, σ = [some (.ref a), some (.int m), some (.ref l), y3, y4] ∧ Same H H3 ∧ H3 l = some (.lst (cs.map V.int)) ∧ cs.length = (ns.take m).length ∧ H3 d = some (.lst (ms.map V.int))) ⟨none, none, ns.take m, rfl, s2.trans (same_upd nd), ?_, rfl, upd_same⟩ ?_ ?_ ?_⟩
    · rw [upd_ne ndl, upd_same]
    · rintro i σ H3 hi ⟨y3, y4, cs, rfl, s3, hl, hc, hd⟩
      exact SqL.mk hd
    · rintro i x σ H3 H4 hi ⟨y3, y4, cs, rfl, s3, hl, hc, hd⟩ ⟨t, x1, x2, rfl, nt, rfl, e1, e2⟩
      rw [List.length_map] at hi
      have lm : m < ns.length := hms (by omega)
      have lc : cs.length = m := by
        rw [hc, List.length_take]
        omega
      have ex1 : x1 = .int (i : Nat) := (Option.some.inj e1).symm
      have ex2 : x2 = .int ms[i] := by
        have e2 : (ms.map V.int)[i]? = some x2 := e2
        rw [List.getElem?_map, List.getElem?_eq_getElem hi] at e2
        exact (Option.some.inj e2).symm
      subst ex1 ex2
      have hl1 : (upd H3 t (.tup [.int (i : Nat), .int ms[i]])) l = some (.lst (cs.map V.int)) := by
        rw [upd_ne (ne_of_none hl nt)]
        exact hl
      have him : i % m < cs.length := by
        rw [lc]
        exact Nat.mod_lt _ hm
      have eim : ((i : Int) % (m : Int)) = ((i % m : Nat) : Int) := by omega
      refine ⟨t, _, rfl, SqT.mk upd_same, rfl, _, _, rfl, _, _, rfl, rfl, ?_⟩
      refine ⟨.ref l, rfl, .int (i : Nat), rfl, .int m, rfl, _, _, rfl, rfl, (show (0 : Int) < (m : Int) by omega), l, _, _, .int cs[i % m], rfl, rfl, SqL.mk hl1, ?_, .int ms[i], rfl, .int (i : Nat), rfl, _, _, rfl, rfl, _, _, rfl, rfl, .inr ⟨by omega, by omega⟩, _, _, rfl, rfl, .ref l, rfl, .int (i : Nat), rfl, .int m, rfl, _, _, rfl, rfl, (show (0 : Int) < (m : Int) by omega), l, _, _, i % m, rfl, rfl, hl1, ?_, ?_⟩
      · rw [eim]
        exact atI_nat (by rw [List.getElem?_map, List.getElem?_eq_getElem him]; rfl)
      · rw [eim]
        exact ixn (by rw [List.length_map]; exact him)
      · refine ⟨_, _, cs.set (i % m) (cs[i % m] + ms[i] * ((i : Int) + 2)), rfl, same_newer (s3.trans (same_upd nt)) nl0, ?_, by rw [List.length_set, hc], ?_⟩
        · rw [upd_same, List.map_set]
        · rw [upd_ne ndl.symm, upd_ne (ne_of_none hd nt)]
          exact hd
    · rintro σ H3 ⟨y3, y4, cs, rfl, s3, hl, hc, hd⟩
      exact ⟨.ref l, rfl, q H3 l cs s3 nl0 hl (by rw [hc, List.length_take]; omega)⟩
/-! match x: case (word, names ..) -/
abbrev TCs := Addr → List V → TS
structure PCs (X : Cx) (cs : List MatchCase) (t : TCs) : Prop where
  run : ∀ (pins : List (Addr × Obj)) (s : Shared) (σ : L2.St) (H : Hp) (D : L2.Ends) (a : Addr) (xs : List V) (first : Bool), Inv X pins σ H s → SqT X.K H a xs → t a xs D σ H →
    wpAny (model X.prog X.w) X.A (matchCases cs X.env (.ref a) first) (SP X pins D) X.xe s
def tMatch (K : PySem.W.Frag) (te : TE) (tc : TCs) : TS := fun D σ H => te σ H fun v H1 => ∃ a xs, v = .ref a ∧ SqT K H1 a xs ∧ tc a xs D σ H1
theorem ps_match {X : Cx} {e : Expr} {cs : List MatchCase} {pos : Pos} {te : TE} {tc : TCs} (he : PE X e te) (hc : PCs X cs tc) : PS X (.Match e cs pos) (tMatch X.K te tc) := by
  refine ⟨fun pins s σ H D I h => ?_⟩
  refine wpAny_Match (thn (he.run pins s σ H _ I h) fun v s1 ⟨x, H1, I1, r1, a, xs, e1, hq, q⟩ => ?_)
  subst e1
  cases r1
  exact hc.run pins s1 σ H1 D a xs true I1 hq q
theorem pcs_nil {X : Cx} : PCs X [] (fun _ _ D σ H => D.nx σ H) := ⟨fun _ _ σ H _ _ _ _ I _ h => wpAny_matchCases_nil ⟨σ, H, I, h⟩⟩
theorem pcs_any {X : Cx} {body : List Stmt} {rest : List MatchCase} {pos : Pos} {tb : TS} (hb : PSs X body tb) : PCs X (⟨.MatchAs none none pos, none, body⟩ :: rest) (fun _ _ => tb) := by
  refine ⟨fun pins s σ H D a xs first I hq h => wpAny_matchCases_cons (wpAny_matchPattern_Capture ?_)⟩
  exact wpAny_assignInOrder_none (hb.run pins s σ H D I h)
/-- the slots i .. get the values .. in turn -/
def sets (σ : L2.St) : List Nat → List V → L2.St
  | i :: is, v :: vs => sets (σ.set i (some v)) is vs
  | _, _ => σ
structure PCap (X : Cx) (ps : List Pattern) (ns : List (Nat × Str)) : Prop where
  each : ∀ (s : Shared) (us : List Value) (Q : Option (List (Str × Value)) → Shared → Prop), us.length = ns.length → Q (some (List.zipWith (fun n u => (n.2, u)) ns us)) s → wpAny (model X.prog X.w) X.A (matchEach ps X.env us) Q X.xe s
  slot : ∀ n, n ∈ ns → X.N[n.1]? = some n.2 ∧ Loc X.env.scope n.2 ∧ (X.fn n.2 = true ∨ X.env.scope.names.lookup n.2 = some .local)
  len : ps.length = ns.length
theorem pcap_nil {X : Cx} : PCap X [] [] := ⟨fun s us Q hl h => wpAny_matchEach_nil (by
  rw [show us = [] from List.eq_nil_of_length_eq_zero hl] at h
  exact h), fun n hn => (by cases hn), rfl⟩
theorem pcap_cons {X : Cx} {i : Nat} {x : Str} {pos : Pos} {ps : List Pattern} {ns : List (Nat × Str)} (hi : X.N[i]? = some x) (hx : Loc X.env.scope x) (h : PCap X ps ns) (hf : X.fn x = true ∨ X.env.scope.names.lookup x = some .local := by first | exact .inl rfl | exact .inr rfl | assumption) :
    PCap X (.MatchAs none (some x) pos :: ps) ((i, x) :: ns) := by
  refine ⟨fun s us Q hl hQ => ?_, fun n hn => ?_, ?_⟩
  · match us, hl with
    | u :: us, hl =>
      refine wpAny_matchEach_cons (wpAny_matchPattern_Capture ?_)
      refine h.each s us _ (Nat.succ.inj hl) ?_
      exact hQ
  · rcases List.mem_cons.mp hn with rfl | hn
    · exact ⟨hi, hx, hf⟩
    · exact h.slot n hn
  · rw [List.length_cons, List.length_cons, h.len]
theorem bind_all {X : Cx} {pins : List (Addr × Obj)} {H : Hp} (hN : X.N.Nodup) : ∀ (ns : List (Nat × Str)) (us : List Value) (vs : List V) (σ : L2.St) (s : Shared) (Q : Unit → Shared → Prop),
    (∀ n, n ∈ ns → X.N[n.1]? = some n.2 ∧ Loc X.env.scope n.2 ∧ (X.fn n.2 = true ∨ X.env.scope.names.lookup n.2 = some .local)) → us.length = ns.length → Vals vs us → Inv X pins σ H s → (∀ s', Inv X pins (sets σ (ns.map Prod.fst) vs) H s' → Q () s') →
    wpAny (model X.prog X.w) X.A (assignInOrder ((List.zipWith (fun (n : Nat × Str) u => (n.2, u)) ns us).map fun (n, _) => bindName X.env n) ((List.zipWith (fun (n : Nat × Str) u => (n.2, u)) ns us).map (·.2))) Q X.xe s
  | [], us, vs, σ, s, Q, _, hl, r, I, q => by
    have e : us = [] := List.eq_nil_of_length_eq_zero hl
    subst e
    cases r
    exact wpAny_assignInOrder_none (q s I)
  | n :: ns, us, vs, σ, s, Q, hs, hl, r, I, q => by
    match us, vs, hl, r with
    | u :: us, v :: vs, hl, .cons r1 r2 =>
      obtain ⟨h1, h2, h3⟩ := hs n List.mem_cons_self
      refine wpAny_assignInOrder_more (wpAny_bindName (store_ok I hN h1 h2 r1 (fun s1 I1 => ?_) h3))
      exact bind_all hN ns us vs _ s1 Q (fun m hm => hs m (List.mem_cons_of_mem _ hm)) (Nat.succ.inj hl) r2 I1 q
def tCase (word : Str) (is : List Nat) (tb : TS) (rest : TCs) : TCs := fun a xs D σ H =>
  (xs.length ≠ is.length + 1 ∧ rest a xs D σ H) ∨ ∃ z ys, xs = .str z :: ys ∧ ys.length = is.length ∧ ((z = word ∧ tb D (sets σ is ys) H) ∨ (z ≠ word ∧ rest a xs D σ H))
theorem pcs_seq {X : Cx} {e : Expr} {word : Str} {vp sp : Pos} {ps : List Pattern} {ns : List (Nat × Str)} {body : List Stmt} {rest : List MatchCase} {tb : TS} {tr : TCs} (hc : X.calm = true) (hN : X.N.Nodup) (hw : PE X e (tC (.str word))) (hcap : PCap X ps ns) (hb : PSs X body tb) (hr : PCs X rest tr)
    (hstar : (.MatchValue e vp :: ps).findIdx? (·.isStar) = none := by rfl) (hwild : ((.MatchValue e vp :: ps).all fun p => p.isWildcard || (p.isStar && p.names.isEmpty)) = false := by rfl) :
    PCs X (⟨.MatchSequence (.MatchValue e vp :: ps) sp, none, body⟩ :: rest) (tCase word (ns.map Prod.fst) tb tr) := by
  refine ⟨fun pins s σ H D a xs first I hq h => ?_⟩
  obtain ⟨its, rv, ht, hz⟩ := I.tuple hq
  have hl := rv.length
  have hsl : sizeLine = 16777216 := by decide
  have hfit : ((its.toArray.size : Nat) : Int) < 2 ^ 63 := by
    rw [List.size_toArray]
    omega
  have lp := hcap.len
  have miss : ∀ s', Inv X pins σ H s' → tr a xs D σ H → wpAny (model X.prog X.w) X.A (matchCases rest X.env (.ref a) false) (SP X pins D) X.xe s' := fun s' I' q => hr.run pins s' σ H D a xs false I' hq q
  refine wpAny_matchCases_cons ?_
  rcases h with ⟨hn, h⟩ | ⟨z, ys, rfl, hn, h⟩
  · rw [List.length_map] at hn
    refine matchSeq_tuple_miss ht hfit (by rw [List.size_toArray, List.length_cons]; omega) ?_ hstar hwild
    exact miss _ (I.kept (t' := s.toks + 1 + 1) fun b o q => q) h
  · rw [List.length_map] at hn
    rw [List.length_cons] at hl
    refine matchSeq_tuple_hit ht hfit (by rw [List.size_toArray, List.length_cons]; omega) ?_ hstar hwild
    have e1 : (Pattern.MatchValue e vp :: ps).length = its.toArray.size := by
      rw [List.size_toArray, List.length_cons]
      omega
    have key : ∀ s2 : Shared, Inv X pins σ H s2 → wpAny (model X.prog X.w) X.A (matchEach (.MatchValue e vp :: ps) X.env its) (fun r s₁ => match r with
        | none => wpAny (model X.prog X.w) X.A (matchCases rest X.env (.ref a) false) (SP X pins D) X.xe s₁
        | some bs => wpAny (model X.prog X.w) X.A (assignInOrder (bs.map fun (n, _) => bindName X.env n) (bs.map (·.2))) (fun _ s₂ => wpAny (model X.prog X.w) X.A (execs body X.env) (SP X pins D) X.xe s₂) X.xe s₁) X.xe s2 := fun s2 I1 => by
      clear e1 hfit hz ht
      match its, rv, hl with
      | u :: us, .cons r1 r2, hl =>
        refine wpAny_matchEach_cons (wpAny_matchPattern_Value ?_)
        refine thn (hw.run pins s2 σ H (fun v H' => v = .str word ∧ H' = H) I1 ⟨rfl, rfl⟩) fun c s3 ⟨x, H3, I3, r3, e3, e4⟩ => ?_
        subst e3 e4
        refine thn (op_eq pins s3 σ H3 (.str z) (.str word) u c (fun v H' => v = .bl (decide (V.str z = V.str word)) ∧ H' = H3) I3 r1 r3 ⟨rfl, rfl, rfl⟩) fun d s4 ⟨y, H4, I4, r4, e5, e6⟩ => ?_
        subst e5 e6
        obtain rfl : d = Value.bool (decide (V.str z = V.str word)) := r4
        refine wpAny_truthy_bool ?_
        rcases h with ⟨rfl, h⟩ | ⟨ne, h⟩
        · rw [if_pos (decide_eq_true rfl)]
          have ul : us.length = ns.length := by
            have := r2.length
            omega
          refine hcap.each s4 us _ ul ?_
          show wpAny _ _ (assignInOrder _ _) _ _ s4
          exact bind_all hN ns us ys σ s4 _ hcap.slot ul r2 I4 fun s5 I5 => hb.run pins s5 _ H4 D I5 h
        · rw [if_neg (fun y => ne (V.str.inj (of_decide_eq_true y)))]
          exact miss s4 I4 h
    rw [e1]
    refine unpackItems_tuple (I.ok.hd hc) ht fun h' hx => ?_
    have I1 : Inv X pins σ H { s with heap := h', toks := s.toks + 1 + 1 } := I.kept (t' := s.toks + 1 + 1) fun b o q => hx b o (Nat.ne_of_lt (Heap.lt_size q)) q
    refine key _ ?_
    exact I1
theorem nat_of {x : Int} (h : 0 ≤ x) : ∃ m : Nat, x = (m : Nat) := Int.eq_ofNat_of_zero_le h
/-! where a number stands first -/
theorem flat_ints (xs : List Int) : (xs.map V.int).all flatV = true := by
  rw [List.all_eq_true]
  intro x hx
  obtain ⟨i, _, rfl⟩ := List.mem_map.mp hx
  rfl
theorem in_ints (xs : List Int) (k : Int) : inV (.int k) (xs.map V.int) = decide (k ∈ xs) := by
  unfold inV
  rw [Bool.eq_iff_iff, List.any_eq_true, decide_eq_true_iff]
  constructor
  · rintro ⟨y, hy, e⟩
    obtain ⟨i, hi, rfl⟩ := List.mem_map.mp hy
    have : i = k := by
      have e : (i == k) = true := e
      exact eq_of_beq e
    rw [← this]
    exact hi
  · intro h
    exact ⟨_, List.mem_map.mpr ⟨k, h, rfl⟩, show (k == k) = true from beq_self_eq_true k⟩
theorem first_of {xs : List Int} {k : Int} : k ∈ xs → ∃ j : Nat, xs[j]? = some k ∧ ∀ m, m < j → xs[m]? ≠ some k := by
  induction xs with
  | nil => intro h; cases h
  | cons x r ih =>
    intro h
    by_cases e : x = k
    · exact ⟨0, by rw [e]; rfl, fun m hm => by omega⟩
    · rcases List.mem_cons.mp h with h | h
      · exact absurd h.symm e
      · obtain ⟨j, h1, h2⟩ := ih h
        refine ⟨j + 1, h1, fun m hm => ?_⟩
        cases m with
        | zero => exact fun z => e (Option.some.inj z)
        | succ m => exact h2 m (by omega)
theorem u1 {k : Nat} {A : Around} (r : Room k A) : A.units + 1 < cLine := by
  have := r.un
  omega
theorem lcK {X : Cx} {K : PySem.W.Frag} (h : X.K = K) : MtR X "list.count" (rCntI K) := by
  subst h
  exact mt_lcount
theorem pe_bmK {X : Cx} {K : PySem.W.Frag} {T id : String} {name : Str} {r : V → List V → Hp → VK → Prop} {o e : Expr} {es : List Expr} {to : TE} {t : TA} {apos cpos : Pos} (pa : PlainAttrs T) (slot : Slot T name id) (hty : typeOf (.builtin id) = pure (.type "method_descriptor")) (hm : MtR X id r) (ho : PE X o to) (ha : PA X (e :: es) t) (hk : X.K = K := by rfl)
    (hbase : attributeBase o name X.env (eval o X.env) = eval o X.env := by rfl)
    (hfew : ((backTo cpos (starEach (e :: es) X.env)).all (fun x => !x.1) && (backToKw cpos (keywordEach [] X.env)).all (fun x => x.1.isSome) && decide ((e :: es).length + ([] : List Keyword).length + (if ([] : List Keyword).isEmpty then 0 else 1) < 30)) = true := by rfl)
    (hline : (apos.endLine == cpos.line) = true := by rfl) (hs : starEach (e :: es) X.env = (false, eval e X.env) :: starEach es X.env := by rfl) (hplain : (backTo cpos (starEach es X.env)).any (·.1) = false := by rfl) :
    PE X (.Call (.Attribute o name apos) (e :: es) [] cpos) (tBM K T r to t) := by
  subst hk
  exact pe_bm pa slot hty hm ho ha hbase hfew hline hs hplain
/-! heaps with tables -/
theorem trip0 : TriplesOk (#[] : Array Value).toList := trivial
structure Sam (H H' : Hp) : Prop where
  obj : ∀ b o, (∀ ps, o ≠ .tbl ps) → H b = some o → H' b = some o
  tab : ∀ b ps, H b = some (.tbl ps) → ∃ ps', H' b = some (.tbl ps') ∧ (TriplesOk ps.toList → TriplesOk ps'.toList)
theorem Sam.of {H H' : Hp} (s : Same H H') : Sam H H' := ⟨fun b o _ e => s b o e, fun b ps e => ⟨ps, s b _ e, fun z => z⟩⟩
theorem Sam.refl (H : Hp) : Sam H H := .of (Same.refl H)
theorem Sam.trans {H H1 H2 : Hp} (a : Sam H H1) (b : Sam H1 H2) : Sam H H2 := ⟨fun c o n e => b.obj c o n (a.obj c o n e), fun c ps e => by
  obtain ⟨p1, e1, t1⟩ := a.tab c ps e
  obtain ⟨p2, e2, t2⟩ := b.tab c p1 e1
  exact ⟨p2, e2, fun z => t2 (t1 z)⟩⟩
theorem Sam.tabG {H H' : Hp} {P : Addr} (a : Sam H H') (t : GxR.TabG H P) : GxR.TabG H' P := by
  obtain ⟨ps, e, z⟩ := t
  obtain ⟨p1, e1, t1⟩ := a.tab P ps e
  exact ⟨p1, e1, t1 z⟩
theorem Sam.tup {H H' : Hp} {a : Addr} {xs : List V} (s : Sam H H') (h : H a = some (.tup xs)) : H' a = some (.tup xs) := s.obj _ _ (fun _ z => by cases z) h
theorem Sam.lst {H H' : Hp} {a : Addr} {xs : List V} (s : Sam H H') (h : H a = some (.lst xs)) : H' a = some (.lst xs) := s.obj _ _ (fun _ z => by cases z) h
theorem Sam.free {H H' : Hp} (s : Sam H H') {l : Addr} (h : H' l = none) : H l = none := by
  cases q : H l with
  | none => rfl
  | some o =>
    cases o with
    | tbl ps =>
      obtain ⟨p1, e1, _⟩ := s.tab l ps q
      rw [e1] at h
      cases h
    | _ =>
      rw [s.obj l _ (fun _ z => by cases z) q] at h
      cases h
theorem Sam.tabbed {P : Addr} {H H' : Hp} (g : GxR.TabG H P) (t : GxR.Tabbed P H H') : Sam H H' := by
  obtain ⟨⟨p1, e1, z1⟩, k⟩ := t
  obtain ⟨p0, e0, _⟩ := g
  refine ⟨fun b o n e => ?_, fun b ps e => ?_⟩
  · by_cases hb : b = P
    · rw [hb, e0] at e
      exact absurd (Option.some.inj e).symm (n p0)
    · rw [k b hb]
      exact e
  · by_cases hb : b = P
    · rw [hb]
      exact ⟨p1, e1, fun _ => z1⟩
    · exact ⟨ps, by rw [k b hb]; exact e, fun z => z⟩
theorem sam_newer {H H' : Hp} {q : Addr} {o : HO} (a : Sam H H') (n : H q = none) : Sam H (upd H' q o) := ⟨fun c x hx e => by
    rw [upd_ne (ne_of_none e n)]
    exact a.obj c x hx e, fun c ps e => by
    obtain ⟨p1, e1, t1⟩ := a.tab c ps e
    exact ⟨p1, by rw [upd_ne (ne_of_none e n)]; exact e1, t1⟩⟩
/-- all but the box stays, tables grow -/
structure Bus (p : Addr) (H H' : Hp) : Prop where
  obj : ∀ b o, b ≠ p → (∀ ps, o ≠ .tbl ps) → H b = some o → H' b = some o
  tab : ∀ b ps, b ≠ p → H b = some (.tbl ps) → ∃ ps', H' b = some (.tbl ps') ∧ (TriplesOk ps.toList → TriplesOk ps'.toList)
theorem Bus.of {p : Addr} {H H' : Hp} (s : But p H H') : Bus p H H' := ⟨fun b o n _ e => s b o n e, fun b ps n e => ⟨ps, s b _ n e, fun z => z⟩⟩
theorem Bus.sam {p : Addr} {H H' : Hp} (s : Sam H H') : Bus p H H' := ⟨fun b o _ n e => s.obj b o n e, fun b ps _ e => s.tab b ps e⟩
theorem Bus.refl (p : Addr) (H : Hp) : Bus p H H := .of (But.refl p H)
theorem Bus.trans {p : Addr} {H H1 H2 : Hp} (a : Bus p H H1) (b : Bus p H1 H2) : Bus p H H2 := ⟨fun c o h n e => b.obj c o h n (a.obj c o h n e), fun c ps h e => by
  obtain ⟨p1, e1, t1⟩ := a.tab c ps h e
  obtain ⟨p2, e2, t2⟩ := b.tab c p1 h e1
  exact ⟨p2, e2, fun z => t2 (t1 z)⟩⟩
theorem Bus.tup {p : Addr} {H H' : Hp} {n : Nat} {a : Addr} {xs : List V} (s : Bus p H H') (B : Bx H p n) (h : H a = some (.tup xs)) : H' a = some (.tup xs) := s.obj _ _ (B.ne_tup h) (fun _ z => by cases z) h
theorem Bus.lst {p : Addr} {H H' : Hp} {a : Addr} {xs : List V} (s : Bus p H H') (ne : a ≠ p) (h : H a = some (.lst xs)) : H' a = some (.lst xs) := s.obj _ _ ne (fun _ z => by cases z) h
theorem Bus.tabG {p : Addr} {H H' : Hp} {n : Nat} {P : Addr} (s : Bus p H H') (B : Bx H p n) (t : GxR.TabG H P) : GxR.TabG H' P := by
  obtain ⟨ps, e, z⟩ := t
  obtain ⟨a, b, c, hp, _⟩ := B
  obtain ⟨p1, e1, t1⟩ := s.tab P ps (ne_of e hp (fun z => by cases z)) e
  exact ⟨p1, e1, t1 z⟩
theorem Bus.new {p q : Addr} {H H' : Hp} {o : HO} (a : Bus p H H') (n : H' q = none) : Bus p H (upd H' q o) := a.trans (.of ((But.refl p H').new n))
/-- a thing made since H may change -/
theorem bus_newer {p q : Addr} {H H' : Hp} {o : HO} (a : Bus p H H') (n : H q = none) : Bus p H (upd H' q o) := ⟨fun c x h hx e => by
    rw [upd_ne (ne_of_none e n)]
    exact a.obj c x h hx e, fun c ps h e => by
    obtain ⟨p1, e1, t1⟩ := a.tab c ps h e
    exact ⟨p1, by rw [upd_ne (ne_of_none e n)]; exact e1, t1⟩⟩
theorem Bus.free {p : Addr} {H H' : Hp} {n : Nat} (s : Bus p H H') (B : Bx H p n) (B' : ∃ m, Bx H' p m) {l : Addr} (h : H' l = none) : H l = none := by
  cases q : H l with
  | none => rfl
  | some o =>
    have nl : l ≠ p := fun z => by
      obtain ⟨m, _, _, _, hp, _⟩ := B'
      rw [z, hp] at h
      cases h
    cases o with
    | tbl ps =>
      obtain ⟨p1, e1, _⟩ := s.tab l ps nl q
      rw [e1] at h
      cases h
    | _ =>
      rw [s.obj l _ nl (fun _ z => by cases z) q] at h
      cases h
theorem Bx.sam {H H' : Hp} {p : Addr} {n : Nat} (h : Bx H p n) (s : Sam H H') : Bx H' p n := by
  obtain ⟨a, b, c, hp, r⟩ := h
  exact ⟨a, b, c, s.lst hp, r⟩
theorem bus_same {p : Addr} {H H1 H2 : Hp} (n : H p = none) (a : Sam H H1) (b : Bus p H1 H2) : Sam H H2 := ⟨fun c x h e => b.obj c x (ne_of_none e n) h (a.obj c x h e), fun c ps e => by
  obtain ⟨p1, e1, t1⟩ := a.tab c ps e
  obtain ⟨p2, e2, t2⟩ := b.tab c p1 (ne_of_none e n) e1
  exact ⟨p2, e2, fun z => t2 (t1 z)⟩⟩
theorem ne_new {H : Hp} {p q : Addr} {n : Nat} (B : Bx H p n) (nq : H q = none) : q ≠ p := fun e => by
  obtain ⟨_, _, _, hp, _⟩ := B
  rw [e, hp] at nq
  cases nq
/-! a tuple so many times -/
theorem tuple_once (l : Addr) (items : Array Value) (n : Nat) (dd : Option Addr) (sl : Array (Option Value)) (u : Tok) :
    Meets (Builtin.«tuple.__mul__» ⟨[.ref l, .int 1 u], []⟩) (fun _ R s => s.heap.get? l = some { cls := .type "tuple", dict := dd, data := .seq items n, slots := sl } ∧ R (.ok (.ret (Value.ref l))) { s with toks := s.toks }) :=
  .of_wp fun prog w A R s h => by
    obtain ⟨hp, g, d, tk, os⟩ := s
    obtain ⟨hl, h⟩ := h
    have f1 := AutoSeq1.idx_int
    have c1 : (items.isEmpty || (1 : Int) == 1) = true := by simp
    wp_walk using wpAny_loadPart' hl
    repeat (first
      | (refine wpAny_ite_true (decide_eq_true c1) ?_; wp_walk using wpAny_loadPart' hl)
      | (refine wpAny_ite_false (decide_eq_false (by decide)) ?_; wp_walk using wpAny_loadPart' hl))
    exact ⟨_, rfl, h⟩
def rRepA (K : PySem.W.Frag) : R2 := fun x y H Q => ∃ (l : Addr) (k : Nat) (xs : List V), x = .ref l ∧ y = .int (k : Nat) ∧ SqT K H l xs ∧ xs ≠ [] ∧ 1 ≤ k ∧ xs.length * k ≤ 1000000 ∧ (k = 1 → Q (.ref l) H) ∧
  (2 ≤ k → ∀ p, H p = none → Q (.ref p) (upd H p (.tup (List.replicate k xs).flatten)))
theorem op_repA {X : Cx} : OpR X (binaryOp .Mult) (rRepA X.K) := by
  intro pins s σ H x y v u Q I rx ry h
  obtain ⟨l, k, xs, rfl, rfl, hT, hne, h1, hz, q1, q2⟩ := h
  cases rx
  obtain ⟨t, rfl⟩ := ry
  obtain ⟨its, r, ⟨⟨cls, dd, data, sl⟩, ho, hc, n, hd⟩, hs⟩ := I.tuple hT
  simp only at hc hd
  subst hc hd
  have lx : 0 < xs.length := List.length_pos_iff.mpr hne
  have le : its.length = xs.length := r.length.symm
  have ke : k * xs.length ≤ 1000000 := by
    rw [Nat.mul_comm]
    exact hz
  have kl : k ≤ 1000000 := Nat.le_trans (Nat.le_mul_of_pos_right k lx) ke
  have ne : its.toArray.isEmpty = false := by
    cases its with
    | nil =>
      rw [← le] at lx
      cases lx
    | cons a b => rfl
  by_cases k1 : k = 1
  · subst k1
    refine wpAny_binaryOp_repeat_ref (T := "tuple") (U := "int") (by decide) ⟨_, ho, rfl⟩ (fun s' => typeIs_int s' _ t) noFill_tuple_mul F.fills_int_mul F.slot_int_rmul repeat_tuple F.slot_int_index.lookup
      (call_meets F.slot_int_rmul (typeIs_int s _ t) F.entry_int_rmul (F.args_int_rmul_2 _ _) (int_rmul_tuple _ t l its.toArray n dd sl)
        ⟨ho, rfl, ⟨_, ho, rfl⟩, call_meets F.slot_tuple_mul ⟨_, ho, rfl⟩ F.entry_tuple_mul (F.args_tuple_mul_2 _ _) (tuple_once l its.toArray n dd sl t) ⟨ho, ?_⟩⟩)
    exact ⟨.ref l, H, I, rfl, q1 rfl⟩
  · have k2 : 2 ≤ k := by omega
    have sz : its.toArray.size = xs.length := by rw [List.size_toArray, le]
    have pr : ((its.toArray.size : Nat) : Int) * (k : Int) ≤ 1000000 := by
      rw [sz, ← Int.natCast_mul]
      omega
    have fl : (List.replicate k its).flatten.length ≤ sizeLine := by
      rw [PyProof.Rows.lm_len_rep_flat, le, sizeLine_eq]
      omega
    have d0 : (decide ((k : Int) < -(2 ^ 63)) || decide ((k : Int) ≥ 2 ^ 63)) = false := by
      rw [decide_eq_false (show ¬ (k : Int) < -(2 ^ 63) by omega), decide_eq_false (show ¬ (k : Int) ≥ 2 ^ 63 by omega)] <;> rfl
    have d1 : (its.toArray.isEmpty || (k : Int) == 1) = false := by
      rw [ne, Bool.false_or]
      exact beq_eq_false_iff_ne.mpr (by omega)
    have d2 : (decide ((k : Int) ≤ 0) || its.toArray.isEmpty) = false := by
      rw [ne, Bool.or_false]
      exact decide_eq_false (by omega)
    have d4 : Builtin.Tuple.tupleTooMany (((its.toArray.size : Nat) : Int) * (k : Int)) = false := by
      unfold Builtin.Tuple.tupleTooMany
      rw [sizeLine_eq]
      exact decide_eq_false (by omega)
    refine wpAny_binaryOp_repeat_ref (T := "tuple") (U := "int") (by decide) ⟨_, ho, rfl⟩ (fun s' => typeIs_int s' _ t) noFill_tuple_mul F.fills_int_mul F.slot_int_rmul repeat_tuple F.slot_int_index.lookup
      (call_meets F.slot_int_rmul (typeIs_int s _ t) F.entry_int_rmul (F.args_int_rmul_2 _ _) (int_rmul_tuple _ t l its.toArray n dd sl)
        ⟨ho, rfl, ⟨_, ho, rfl⟩, call_meets F.slot_tuple_mul ⟨_, ho, rfl⟩ F.entry_tuple_mul (F.args_tuple_mul_2 _ _) (tuple_mulW l its.toArray n dd sl (k : Int) t d0 d1 d2 (by omega) d4 (by rw [Int.toNat_natCast, size_rep, List.size_toArray]; exact fl)) ⟨ho, ?_⟩⟩)
    rw [Int.toNat_natCast, size_rep]
    refine ⟨.ref s.heap.objs.size, _, I.laid (t' := s.toks) (o := .tup (List.replicate k xs).flatten) (fun b ob q => Heap.get?_push_of_some _ q) (Nat.le_refl _) ⟨?_, _, r.rep k, IsTup.new _ _⟩, rfl, q2 k2 _ (I.hok.fresh (Nat.le_refl _))⟩
    rw [PyProof.Rows.lm_len_rep_flat, sizeLine_eq]
    omega
/-! the law's own rows -/
def Bits (rs : List Int) : Prop := ∀ x, x ∈ rs → x = 0 ∨ x = 1
theorem Bits.snoc {rs : List Int} {x : Int} (h : Bits rs) (hx : x = 0 ∨ x = 1) : Bits (rs ++ [x]) := fun y hy => by
  rcases List.mem_append.mp hy with hy | hy
  · exact h y hy
  · rw [List.mem_singleton] at hy
    rw [hy]
    exact hx
theorem but_newer {p q : Addr} {H H' : Hp} {o : HO} (a : But p H H') (n : H q = none) : But p H (upd H' q o) := fun c x hn e => by
  rw [upd_ne (ne_of_none e n)]
  exact a c x hn e
theorem Bx.other {H : Hp} {p q : Addr} {n : Nat} {o : HO} (h : Bx H p n) (nq : q ≠ p) : Bx (L2.upd H q o) p n := by
  obtain ⟨a, b, c, hp, r⟩ := h
  exact ⟨a, b, c, by rw [upd_ne (Ne.symm nq)]; exact hp, r⟩
def PV (p D : Addr) (HX : Hp) (k i : Nat) (H1 : Hp) : Prop := ∃ rs : List Int, rs.length = i ∧ Bits rs ∧ But p HX H1 ∧ Bx H1 p (k + i) ∧ H1 D = some (.lst (rs.map V.int))
theorem pv_start {p D : Addr} {HX : Hp} {k : Nat} (nD : HX D = none) (B : Bx HX p k) : PV p D HX k 0 (upd HX D (.lst [])) := ⟨[], rfl, fun _ h => (by cases h), (But.refl p HX).new nD, B.new nD, upd_same⟩
theorem pv_step {p D : Addr} {HX H1 H4 : Hp} {k i : Nat} {x : Int} (nD : HX D = none) (Dp : D ≠ p) (h : PV p D HX k i H1) (b : But p H1 H4) (B : Bx H4 p (k + (i + 1))) (hi : i < 100000) (hx : x = 0 ∨ x = 1) :
    ∃ acc, H4 D = some (.lst acc) ∧ acc.length < sizeLine ∧ PV p D HX k (i + 1) (upd H4 D (.lst (acc ++ [.int x]))) := by
  obtain ⟨rs, hl, hb, b1, _, hD⟩ := h
  have hsl : sizeLine = 16777216 := by decide
  refine ⟨_, b _ _ Dp hD, by rw [List.length_map]; omega, rs ++ [x], by rw [List.length_append, hl]; rfl, hb.snoc hx, but_newer (b1.trans b) nD, B.other Dp, ?_⟩
  rw [upd_same, List.map_append]
  rfl
theorem rep_one (m : Nat) (x : Int) : (List.replicate m [V.int x]).flatten = (List.replicate m x).map V.int := by
  rw [List.map_replicate]
  induction m with
  | zero => rfl
  | succ m ih => rw [List.replicate_succ, List.flatten_cons, ih, List.replicate_succ]; rfl
/-! a tuple no times, too -/
theorem tuple_nought (l : Addr) (items : Array Value) (n : Nat) (dd : Option Addr) (sl : Array (Option Value)) (u : Tok) (hi : items.isEmpty = false) :
    Meets (Builtin.«tuple.__mul__» ⟨[.ref l, .int 0 u], []⟩) (fun _ R s => s.heap.get? l = some { cls := .type "tuple", dict := dd, data := .seq items n, slots := sl } ∧ R (.ok (.ret (Value.ref s.heap.objs.size))) { s with heap := s.heap.push { cls := Value.type "tuple", data := Data.seq #[] }, toks := s.toks }) :=
  .of_wp fun prog w A R s h => by
    obtain ⟨hp, g, d, tk, os⟩ := s
    obtain ⟨hl, h⟩ := h
    have f1 := AutoSeq1.idx_int
    have c1 : (items.isEmpty || (0 : Int) == 1) = false := by rw [hi]; rfl
    have c2 : (decide ((0 : Int) ≤ 0) || items.isEmpty) = true := by simp
    wp_walk using wpAny_loadPart' hl
    repeat (first
      | (refine wpAny_ite_false (decide_eq_false (by rw [c1]; exact Bool.false_ne_true)) ?_; wp_walk using wpAny_loadPart' hl)
      | (refine wpAny_ite_true (decide_eq_true c2) ?_; wp_walk using wpAny_loadPart' hl)
      | (refine wpAny_ite_false (decide_eq_false (by decide)) ?_; wp_walk using wpAny_loadPart' hl))
    exact ⟨_, rfl, h⟩
def rRepB (K : PySem.W.Frag) : R2 := fun x y H Q => ∃ (l : Addr) (k : Nat) (xs : List V), x = .ref l ∧ y = .int (k : Nat) ∧ SqT K H l xs ∧ xs ≠ [] ∧ xs.length * k ≤ 1000000 ∧ (k = 1 → Q (.ref l) H) ∧
  (k ≠ 1 → ∀ p, H p = none → Q (.ref p) (upd H p (.tup (List.replicate k xs).flatten)))
theorem op_repB {X : Cx} : OpR X (binaryOp .Mult) (rRepB X.K) := by
  intro pins s σ H x y v u Q I rx ry h
  obtain ⟨l, k, xs, rfl, rfl, hT, hne, hz, q1, q2⟩ := h
  by_cases k0 : k = 0
  · subst k0
    cases rx
    obtain ⟨t, rfl⟩ := ry
    obtain ⟨its, r, ⟨⟨cls, dd, data, sl⟩, ho, hc, n, hd⟩, hs⟩ := I.tuple hT
    simp only at hc hd
    subst hc hd
    have le : its.length = xs.length := r.length.symm
    have ne : its.toArray.isEmpty = false := by
      cases its with
      | nil => exact absurd (List.eq_nil_of_length_eq_zero le.symm) hne
      | cons a b => rfl
    refine wpAny_binaryOp_repeat_ref (T := "tuple") (U := "int") (by decide) ⟨_, ho, rfl⟩ (fun s' => typeIs_int s' _ t) noFill_tuple_mul F.fills_int_mul F.slot_int_rmul repeat_tuple F.slot_int_index.lookup
      (call_meets F.slot_int_rmul (typeIs_int s _ t) F.entry_int_rmul (F.args_int_rmul_2 _ _) (int_rmul_tuple _ t l its.toArray n dd sl)
        ⟨ho, rfl, ⟨_, ho, rfl⟩, call_meets F.slot_tuple_mul ⟨_, ho, rfl⟩ F.entry_tuple_mul (F.args_tuple_mul_2 _ _) (tuple_nought l its.toArray n dd sl t ne) ⟨ho, ?_⟩⟩)
    exact ⟨.ref s.heap.objs.size, _, I.laid (t' := s.toks) (o := .tup []) (fun b ob q => Heap.get?_push_of_some _ q) (Nat.le_refl _) ⟨Nat.zero_le _, [], .nil, IsTup.new _ _⟩, rfl, q2 (by decide) _ (I.hok.fresh (Nat.le_refl _))⟩
  · exact op_repA pins s σ H _ _ v u Q I rx ry ⟨l, k, xs, rfl, rfl, hT, hne, by omega, hz, q1, fun z => q2 (by omega)⟩
/-- (x,) so many times -/
theorem rep_go {K : PySem.W.Frag} {H : Hp} {t : Addr} {x v : Int} {k : Nat} {Q : VK} (hv : v = (k : Nat)) (ht : H t = some (.tup [.int x])) (hk : k ≤ 100000) (q : ∀ H' p, Same H H' → H' p = some (.tup ((List.replicate k x).map V.int)) → Q (.ref p) H') : rRepB K (.ref t) (.int v) H Q := by
  subst hv
  refine ⟨t, k, _, rfl, rfl, SqT.mk ht, by simp, (show 1 * k ≤ 1000000 by omega), fun z => ?_, fun z p np => ?_⟩
  · subst z
    exact q H t (Same.refl H) ht
  · exact q _ p (same_upd np) (by rw [upd_same, rep_one])
theorem cat_go {K : PySem.W.Frag} {H : Hp} {a b : Addr} {rs ss : List Int} {Q : VK} (ha : H a = some (.tup (rs.map V.int))) (hb : H b = some (.tup (ss.map V.int))) (hl : rs.length + ss.length ≤ 100000)
    (q : ∀ H' p, Same H H' → H' p = some (.tup ((rs ++ ss).map V.int)) → Q (.ref p) H') : rCatA K (.ref a) (.ref b) H Q := by
  have hsl : sizeLine = 16777216 := by decide
  refine ⟨a, b, _, _, rfl, rfl, SqT.mk ha, SqT.mk hb, by rw [List.length_map, List.length_map]; omega, fun z => ?_, fun _ z => ?_, fun _ _ p np => ?_⟩
  · rw [List.map_eq_nil_iff.mp z] at q
    exact q H b (Same.refl H) hb
  · rw [List.map_eq_nil_iff.mp z] at q
    exact q H a (Same.refl H) (by rw [List.append_nil]; exact ha)
  · exact q _ p (same_upd np) (by rw [upd_same, List.map_append])
theorem catK {X : Cx} {K : PySem.W.Frag} (h : X.K = K) : OpR X (binaryOp .Add) (rCatA K) := by
  subst h
  exact op_catA
theorem zipAK {X : Cx} {K : PySem.W.Frag} {e e2 : Expr} {ta : TA} {p pos tpos : Pos} {elts : List Expr} {kk : Nat} (h : X.K = K) (hg : Gl X "zip") (hm : X.mg "zip" = none) (ha : PA X [e, e2] ta)
    (hs : starEach [e, e2] X.env = (false, eval e X.env) :: starEach [e2] X.env := by rfl) (hpl : (backTo pos (starEach [e2] X.env)).any (·.1) = false := by rfl) :
    PI X (.Tuple elts kk tpos) (.Call (.Name "zip" p) [e, e2] [] pos) (RZ.iZipA K ta) := by
  subst h
  exact RZ.pi_zipA hg hm ha hs hpl
theorem listK {X : Cx} {K : PySem.W.Frag} {tg e : Expr} {t : TE} (h : X.K = K) (he : PE X e t) : PI X tg e (iList K t) := by
  subst h
  exact pi_list he
theorem nx_via {t u : TS} {D : Ends} {r : VK} {k c : L2.St → Hp → Prop} {σ : L2.St} {H : Hp} (R : L2.St → Hp → Prop) (h1 : ∀ N : L2.St → Hp → Prop, (∀ σ H, R σ H → N σ H) → t { D with nx := N } σ H) (h2 : ∀ σ H, R σ H → u D σ H) : Ends.nx { nx := tSeq t u D, rt := r, bk := k, ct := c } σ H := h1 _ h2
theorem seq_via {t u : TS} {D : Ends} {σ : L2.St} {H : Hp} (R : L2.St → Hp → Prop) (h1 : ∀ N : L2.St → Hp → Prop, (∀ σ H, R σ H → N σ H) → t { D with nx := N } σ H) (h2 : ∀ σ H, R σ H → u D σ H) : tSeq t u D σ H := h1 _ h2
def dot (rs ss : List Int) : Int := (List.zipWith (fun x y => x * y) rs ss).sum
def allRows : Nat → List (List Int)
  | 0 => [[]]
  | k + 1 => (allRows k).map (· ++ [0]) ++ (allRows k).map (· ++ [1])
theorem all_sound : ∀ (k : Nat) (r : List Int), r ∈ allRows k → r.length = k ∧ Bits r
  | 0, r, h => by
    rw [show r = [] from List.mem_singleton.mp h]
    exact ⟨rfl, fun x hx => by cases hx⟩
  | k + 1, r, h => by
    have aux : ∀ (b : Int), (b = 0 ∨ b = 1) → r ∈ (allRows k).map (· ++ [b]) → r.length = k + 1 ∧ Bits r := fun b hb hm => by
      obtain ⟨q, hq, rfl⟩ := List.mem_map.mp hm
      obtain ⟨h1, h2⟩ := all_sound k q hq
      refine ⟨by rw [List.length_append, h1]; rfl, fun x hx => ?_⟩
      rcases List.mem_append.mp hx with hx | hx
      · exact h2 x hx
      · rw [List.mem_singleton.mp hx]
        exact hb
    rcases List.mem_append.mp h with h | h
    · exact aux 0 (.inl rfl) h
    · exact aux 1 (.inr rfl) h
theorem all_full : ∀ (k : Nat) (r : List Int), r.length = k → Bits r → r ∈ allRows k
  | 0, r, h, _ => by
    rw [List.eq_nil_of_length_eq_zero h]
    exact List.mem_singleton.mpr rfl
  | k + 1, r, h, hb => by
    have hne : r ≠ [] := fun z => by
      rw [z] at h
      cases h
    have e := List.dropLast_concat_getLast hne
    have m1 : r.dropLast ∈ allRows k := all_full k _ (by rw [List.length_dropLast, h]; rfl) fun x hx => hb x (List.dropLast_subset r hx)
    rcases hb _ (List.getLast_mem hne) with z | z
    · rw [z] at e
      exact List.mem_append.mpr (.inl (List.mem_map.mpr ⟨_, m1, e⟩))
    · rw [z] at e
      exact List.mem_append.mpr (.inr (List.mem_map.mpr ⟨_, m1, e⟩))
theorem all_len : ∀ k, (allRows k).length = 2 ^ k
  | 0 => rfl
  | k + 1 => by
    show ((allRows k).map (· ++ [0]) ++ (allRows k).map (· ++ [1])).length = _
    rw [List.length_append, List.length_map, List.length_map, all_len k, Nat.pow_succ]
    omega
theorem bits_sum : ∀ (r : List Int), Bits r → 0 ≤ r.sum ∧ r.sum ≤ r.length
  | [], _ => ⟨Int.le_refl 0, Int.le_refl 0⟩
  | x :: r, h => by
    have ih := bits_sum r fun y hy => h y (List.mem_cons_of_mem _ hy)
    have hx := h x List.mem_cons_self
    rw [List.sum_cons, List.length_cons]
    omega
theorem sum_rep (k : Nat) (x : Int) : (List.replicate k x).sum = k * x := by
  induction k with
  | zero => simp
  | succ k ih =>
    rw [List.replicate_succ, List.sum_cons, ih, Int.natCast_add, Int.add_mul]
    omega
theorem sum_split (r : List Int) (a : Nat) : r.sum = (r.take a).sum + (r.drop a).sum := by
  conv => lhs; rw [← List.take_append_drop a r, List.sum_append]
theorem dot_zero (k : Nat) : ∀ r : List Int, dot (List.replicate k 0) r = 0 := by
  unfold dot
  induction k with
  | zero => intro r; simp
  | succ k ih =>
    intro r
    cases r with
    | nil => simp
    | cons x r =>
      rw [List.replicate_succ, List.zipWith_cons_cons, List.sum_cons, ih]
      omega
theorem dot_one : ∀ (a k : Nat) (r : List Int), r.length = a + k → dot (List.replicate a 1 ++ List.replicate k 0) r = (r.take a).sum
  | 0, k, r, _ => by
    rw [List.replicate_zero, List.nil_append, dot_zero]
    rfl
  | a + 1, k, [], h => by
    simp at h
    omega
  | a + 1, k, x :: r, h => by
    have ih := dot_one a k r (by rw [List.length_cons] at h; omega)
    unfold dot at *
    rw [List.replicate_succ, List.cons_append, List.zipWith_cons_cons, List.sum_cons, ih, List.take_succ_cons, List.sum_cons]
    omega
def nearR (n b : Nat) : List Int := List.replicate b 1 ++ List.replicate (n - b) 0
def farR (n b : Nat) : List Int := List.replicate (n - b) 0 ++ List.replicate b 1
theorem near_bits (n b : Nat) : Bits (nearR n b) := fun x hx => by
  rcases List.mem_append.mp hx with h | h
  · exact .inr (List.eq_of_mem_replicate h)
  · exact .inl (List.eq_of_mem_replicate h)
theorem far_bits (n b : Nat) : Bits (farR n b) := fun x hx => by
  rcases List.mem_append.mp hx with h | h
  · exact .inl (List.eq_of_mem_replicate h)
  · exact .inr (List.eq_of_mem_replicate h)
theorem near_len {n b : Nat} (h : b ≤ n) : (nearR n b).length = n := by
  unfold nearR
  rw [List.length_append, List.length_replicate, List.length_replicate]
  omega
theorem far_len {n b : Nat} (h : b ≤ n) : (farR n b).length = n := by
  unfold farR
  rw [List.length_append, List.length_replicate, List.length_replicate]
  omega
theorem near_sum (n b : Nat) : (nearR n b).sum = b := by
  unfold nearR
  rw [List.sum_append, sum_rep, sum_rep]
  omega
theorem far_sum (n b : Nat) : (farR n b).sum = b := by
  unfold farR
  rw [List.sum_append, sum_rep, sum_rep]
  omega
theorem near_take (n a b : Nat) : ((nearR n b).take a).sum = (min a b : Nat) := by
  unfold nearR
  rw [List.take_append, List.sum_append, List.take_replicate, List.take_replicate, sum_rep, sum_rep]
  omega
theorem far_take {n a b : Nat} (hb : b ≤ n) (ha : a ≤ n) : ((farR n b).take a).sum = (a + b - n : Nat) := by
  unfold farR
  rw [List.take_append, List.sum_append, List.take_replicate, List.take_replicate, sum_rep, sum_rep, List.length_replicate]
  omega
/-- how far the first a bits of a row may go -/
theorem take_ends {n a b : Nat} {r : List Int} (hl : r.length = n) (hb : Bits r) (hs : r.sum = b) (ha : a ≤ n) : (a + b - n : Nat) ≤ (r.take a).sum ∧ (r.take a).sum ≤ (min a b : Nat) := by
  have e := sum_split r a
  have h1 := bits_sum (r.take a) fun x hx => hb x (List.mem_of_mem_take hx)
  have h2 := bits_sum (r.drop a) fun x hx => hb x (List.mem_of_mem_drop hx)
  rw [List.length_take] at h1
  rw [List.length_drop] at h2
  omega
/-! sums over the first places -/
def Sm (f : Nat → Int) : Nat → Int
  | 0 => 0
  | n + 1 => Sm f n + f n
theorem Sm_congr {f g : Nat → Int} : ∀ {n : Nat}, (∀ i, i < n → f i = g i) → Sm f n = Sm g n
  | 0, _ => rfl
  | n + 1, h => by
    show Sm f n + f n = Sm g n + g n
    rw [Sm_congr (n := n) fun i hi => h i (by omega), h n (by omega)]
theorem Sm_plus (f g : Nat → Int) : ∀ n, Sm (fun i => f i + g i) n = Sm f n + Sm g n
  | 0 => rfl
  | n + 1 => by
    show Sm _ n + (f n + g n) = (Sm f n + f n) + (Sm g n + g n)
    rw [Sm_plus f g n]
    omega
theorem Sm_mul (c : Int) (f : Nat → Int) : ∀ n, Sm (fun i => c * f i) n = c * Sm f n
  | 0 => by
    show (0 : Int) = c * 0
    rw [Int.mul_zero]
  | n + 1 => by
    show Sm _ n + c * f n = c * (Sm f n + f n)
    rw [Sm_mul c f n, Int.mul_add]
theorem Sm_const (c : Int) : ∀ n, Sm (fun _ => c) n = n * c
  | 0 => by
    show (0 : Int) = ((0 : Nat) : Int) * c
    omega
  | n + 1 => by
    show Sm _ n + c = ((n + 1 : Nat) : Int) * c
    rw [Sm_const c n, Int.natCast_add, Int.add_mul]
    omega
theorem Sm_comm (f : Nat → Nat → Int) (m : Nat) : ∀ n, Sm (fun j => Sm (fun i => f i j) m) n = Sm (fun i => Sm (f i) n) m
  | 0 => by
    show (0 : Int) = Sm (fun _ => (0 : Int)) m
    rw [Sm_const]
    omega
  | n + 1 => by
    show Sm _ n + Sm (fun i => f i n) m = Sm (fun i => Sm (f i) n + f i n) m
    rw [Sm_comm f m n, Sm_plus]
theorem Sm_split (f : Nat → Int) (m : Nat) : ∀ k, Sm f (m + k) = Sm f m + Sm (fun j => f (m + j)) k
  | 0 => by
    show Sm f m = Sm f m + 0
    omega
  | k + 1 => by
    show Sm f (m + k) + f (m + k) = Sm f m + (Sm _ k + f (m + k))
    rw [Sm_split f m k]
    omega
theorem Sm_head (f : Nat → Int) : ∀ n, Sm f (n + 1) = f 0 + Sm (fun j => f (j + 1)) n
  | 0 => by
    show (0 : Int) + f 0 = f 0 + 0
    omega
  | n + 1 => by
    show Sm f (n + 1) + f (n + 1) = f 0 + (Sm _ n + f (n + 1))
    rw [Sm_head f n]
    omega
theorem Sm_rev (f : Nat → Int) : ∀ m, Sm (fun k => f (m - 1 - k)) m = Sm f m
  | 0 => rfl
  | m + 1 => by
    rw [Sm_head]
    show f (m + 1 - 1 - 0) + _ = Sm f m + f m
    rw [show m + 1 - 1 - 0 = m by omega, ← Sm_rev f m]
    rw [Sm_congr (f := fun j => f (m + 1 - 1 - (j + 1))) (g := fun k => f (m - 1 - k)) fun i hi => by rw [show m + 1 - 1 - (i + 1) = m - 1 - i by omega]]
    omega
theorem Sm_turn (f : Nat → Int) {i n : Nat} (hi : i < n) : Sm (fun b => f ((i + n - b) % n)) n = Sm f n := by
  have e : n = (i + 1) + (n - i - 1) := by omega
  have h1 : Sm (fun b => f ((i + n - b) % n)) (i + 1) = Sm f (i + 1) := by
    rw [← Sm_rev f (i + 1)]
    refine Sm_congr fun b hb => ?_
    rw [show i + n - b = (i + 1 - 1 - b) + n by omega, Nat.add_mod_right, Nat.mod_eq_of_lt (by omega)]
  have h2 : Sm (fun j => f ((i + n - (i + 1 + j)) % n)) (n - i - 1) = Sm (fun j => f (i + 1 + j)) (n - i - 1) := by
    rw [← Sm_rev (fun j => f (i + 1 + j)) (n - i - 1)]
    refine Sm_congr fun b hb => ?_
    rw [Nat.mod_eq_of_lt (by omega), show i + n - (i + 1 + b) = i + 1 + (n - i - 1 - 1 - b) by omega]
  have s1 := Sm_split (fun b => f ((i + n - b) % n)) (i + 1) (n - i - 1)
  have s2 := Sm_split f (i + 1) (n - i - 1)
  rw [← e] at s1 s2
  rw [s1, s2, h1, h2]
theorem Sm_list : ∀ (xs : List Int), xs.sum = Sm (fun i => xs.getD i 0) xs.length
  | [] => rfl
  | x :: r => by
    rw [List.sum_cons, List.length_cons, Sm_head, Sm_list r]
    rfl
theorem Sm_map (v : Nat → Int) : ∀ n, ((List.range n).map v).sum = Sm v n
  | 0 => rfl
  | n + 1 => by
    rw [List.range_succ, List.map_append, List.sum_append, Sm_map v n]
    show _ + (v n + 0) = Sm v n + v n
    omega
theorem Sm_filter (p : Nat → Bool) (v : Nat → Int) : ∀ n, (((List.range n).filter p).map v).sum = Sm (fun i => if p i = true then v i else 0) n
  | 0 => rfl
  | n + 1 => by
    rw [List.range_succ, List.filter_append, List.map_append, List.sum_append, Sm_filter p v n]
    show _ + (([n].filter p).map v).sum = Sm _ n + (if p n = true then v n else 0)
    by_cases h : p n = true
    · rw [List.filter_cons_of_pos h, if_pos h]
      show _ + (v n + 0) = _
      omega
    · rw [List.filter_cons_of_neg h, if_neg h]
      rfl
theorem Sm_count (p : Nat → Bool) : ∀ n, (((List.range n).filter p).length : Int) = Sm (fun i => if p i = true then 1 else 0) n
  | 0 => rfl
  | n + 1 => by
    rw [List.range_succ, List.filter_append, List.length_append, Int.natCast_add, Sm_count p n]
    show _ + ((([n].filter p).length : Nat) : Int) = Sm _ n + (if p n = true then 1 else 0)
    by_cases h : p n = true
    · rw [List.filter_cons_of_pos h, if_pos h]
      rfl
    · rw [List.filter_cons_of_neg h, if_neg h]
      rfl
/-! rows that meet, one late -/
def mt (rs ss : List Int) (b : Nat) : Int := Sm (fun i => rs.getD i 0 * ss.getD ((i + rs.length - b) % rs.length) 0) rs.length
theorem dot_Sm : ∀ (rs ss : List Int), rs.length = ss.length → dot rs ss = Sm (fun i => rs.getD i 0 * ss.getD i 0) rs.length
  | [], [], _ => rfl
  | x :: r, y :: t, h => by
    have ih := dot_Sm r t (by simpa using h)
    unfold dot at *
    rw [List.zipWith_cons_cons, List.sum_cons, List.length_cons, Sm_head, ih]
    rfl
theorem dot_mt {rs ss : List Int} (h : rs.length = ss.length) : dot rs ss = mt rs ss 0 := by
  rw [dot_Sm rs ss h]
  unfold mt
  refine Sm_congr fun i hi => ?_
  rw [Nat.sub_zero, Nat.add_mod_right, Nat.mod_eq_of_lt hi]
/-- all together -/
theorem mt_all {rs ss : List Int} (h : rs.length = ss.length) : Sm (mt rs ss) rs.length = rs.sum * ss.sum := by
  unfold mt
  rw [Sm_comm]
  rw [Sm_congr (g := fun i => ss.sum * rs.getD i 0) fun i hi => by
    rw [Sm_mul (rs.getD i 0) (fun b => ss.getD ((i + rs.length - b) % rs.length) 0), Sm_turn (fun j => ss.getD j 0) hi, Sm_list ss, ← h, Int.mul_comm]]
  rw [Sm_mul, ← Sm_list, Int.mul_comm]
def LS (rs ss : List Int) : List Int := (List.range rs.length).map fun b => rs.length * mt rs ss b - rs.sum * ss.sum
theorem LS_len (rs ss : List Int) : (LS rs ss).length = rs.length := by
  unfold LS
  rw [List.length_map, List.length_range]
theorem LS_sum {rs ss : List Int} (h : rs.length = ss.length) : (LS rs ss).sum = 0 := by
  unfold LS
  rw [Sm_map]
  have e : Sm (fun b => (rs.length : Int) * mt rs ss b - rs.sum * ss.sum) rs.length = Sm (fun b => (rs.length : Int) * mt rs ss b + -(rs.sum * ss.sum)) rs.length := Sm_congr fun i _ => by omega
  rw [e, Sm_plus, Sm_mul, mt_all h, Sm_const, Int.mul_neg]
  omega
theorem LS_at {rs ss : List Int} {b : Nat} (hb : b < rs.length) : (LS rs ss)[b]? = some (rs.length * mt rs ss b - rs.sum * ss.sum) := by
  unfold LS
  rw [List.getElem?_map, List.getElem?_range hb]
  rfl
theorem bit_mul {x y : Int} (hx : x = 0 ∨ x = 1) : (if decide (x = 1) = true then y else 0) = x * y := by
  rcases hx with rfl | rfl
  · rw [if_neg (by decide), Int.zero_mul]
  · rw [if_pos (by decide), Int.one_mul]
theorem bits_at {rs : List Int} (h : Bits rs) (i : Nat) : rs.getD i 0 = 0 ∨ rs.getD i 0 = 1 := by
  rw [List.getD_eq_getElem?_getD]
  cases e : rs[i]? with
  | none => exact .inl rfl
  | some x => exact h x (List.mem_of_getElem? e)
def places (rs : List Int) (n : Nat) : List Nat := (List.range n).filter fun i => decide (rs.getD i 0 = 1)
theorem places_mt {rs ss : List Int} (h : Bits rs) (b : Nat) : ((places rs rs.length).map fun i => ss.getD ((i + rs.length - b) % rs.length) 0).sum = mt rs ss b := by
  unfold places mt
  rw [Sm_filter]
  exact Sm_congr fun i _ => bit_mul (bits_at h i)
theorem count_mt {rs ss : List Int} (h : Bits rs) (h2 : Bits ss) (b : Nat) : (((List.range rs.length).filter fun i => decide (rs.getD i 0 = 1) && decide (ss.getD ((i + rs.length - b) % rs.length) 0 = 1)).length : Int) = mt rs ss b := by
  rw [Sm_count]
  unfold mt
  refine Sm_congr fun i _ => ?_
  show _ = rs.getD i 0 * ss.getD ((i + rs.length - b) % rs.length) 0
  rcases bits_at h i with e | e <;> rcases bits_at h2 ((i + rs.length - b) % rs.length) with e2 | e2 <;> rw [e, e2] <;> decide
theorem getD_at {rs : List Int} {i : Nat} (h : i < rs.length) : rs[i]? = some (rs.getD i 0) := by
  rw [List.getD_eq_getElem?_getD, List.getElem?_eq_getElem h]
  rfl
/-! set(xs) of a list of numbers, with all that sorted() asks of it -/
abbrev noSet (w : World) : Obj := { cls := .type "set", dict := none, data := .set #[] 0 (.fresh 0 0 (!w.params.followText "set-order")) }
section
variable {P : Program} {w : World} {A : Around} {E : Value → Shared → Prop} {s : Shared}
theorem two_off {z l b : Nat} {h : Heap} {o : Obj} (hz : h.objs.size = z) (hb : b < z) : b ∉ [z, (h.push o).objs.size] := by
  rw [Heap.size_push, hz]
  intro hm
  rcases List.mem_cons.mp hm with e | hm
  · omega
  · have := List.mem_singleton.mp hm
    omega
set_option maxRecDepth 100000 in
set_option maxHeartbeats 3200000 in
theorem set_of_list {l : Addr} {xs : Array Value} (ns : List Int) {Q : Value → Shared → Prop} (hA : A.handled = none) (hl : s.heap.IsList l xs) (hi : IntsAre xs.toList ns) (hn : ns.length + 1 < scanBound)
    (fin : ∀ (h' : Heap) (tk c : Nat), SetR w h' s.heap.objs.size (fun j => decide (j ∈ ns)) c → c ≤ ns.length → (∀ b o, s.heap.get? b = some o → h'.get? b = some o) → Q (.ref s.heap.objs.size) { s with heap := h', toks := tk }) :
    wpAny (model P w) A (call (.type "set") [.ref l]) Q E s := by
  have size_eq : xs.size = ns.length := by
    have e := IntsAre.length hi
    rw [Array.length_toList] at e
    exact e
  obtain ⟨c₀, rest, mro₀⟩ := PySem.F.called_set.mro
  have made₀ := PySem.F.called_set.made
  have sub₀ := PySem.F.called_set.sub
  refine wpAny_call (codeAny_of_tree ?_)
  show wpAny _ _ (callAny (.type "set") _) _ _ _
  refine wpAny_pure ⟨Code.quiet_builtin _ (by decide +kernel), codeAny_builtin PySem.F.entry_type_call ?_⟩
  rw [Around.under_plain (weight_type_call_type "set" [.ref l] []) rfl]
  have nt₀ := PySem.F.called_set.notType
  have cc₀ := PySem.F.called_set.canCreate
  have tc₀ := PySem.F.typeCall_set_1 (.ref l)
  repeat (any_goals (first | assumption | wp_step))
  refine codeAny_mono (code_set_led1 (.ref l) (E := E) (Q₁ := fun obj t₁ => obj = .ref s.heap.objs.size ∧ t₁ = { s with heap := s.heap.push (noSet w) }) ⟨rfl, rfl⟩) fun r t₁ out => ?_
  cases r with
  | error e => exact out
  | ok fl =>
    cases fl with
    | ret obj =>
      obtain ⟨rfl, rfl⟩ := out
      have at₀ : (s.heap.push (noSet w)).get? s.heap.objs.size = some (noSet w) := Heap.get?_push_size _ rfl
      have ty₀ : Shared.TypeIs { s with heap := s.heap.push (noSet w) } (.ref s.heap.objs.size) "set" := ⟨_, at₀, rfl⟩
      have lk₀ := PySem.F.called_set.init.lookup
      have bd₀ := PySem.F.called_set.init.bind (.ref s.heap.objs.size)
      repeat (any_goals (first | assumption | wp_step))
      refine codeAny_mono (codeAny_call_builtin (R := wants (fun r t₂ => r = .none ∧ ∃ h' tk c, t₂ = { s with heap := h', toks := tk } ∧ SetR w h' s.heap.objs.size (fun j => decide (j ∈ ns)) c ∧ c ≤ ns.length ∧ (∀ b o, s.heap.get? b = some o → h'.get? b = some o)) E)
        PySem.F.called_set.init.plain PySem.F.entry_set_init (check_set_init_1 ty₀ ?_)) fun r₂ t₂ out₂ => ?_
      · obtain ⟨⟨kc, kd, kt, ks⟩, gl, cl, nl, dl⟩ := hl
        simp only at cl dl
        subst cl
        subst dl
        have lS : l < s.heap.objs.size := Heap.lt_size gl
        have gl' : (s.heap.push (noSet w)).get? l = some { cls := .type "list", dict := kd, data := .seq xs nl, slots := ks } := Heap.get?_push_of_some _ gl
        have no1 := PySem.F.sub_list_set
        have no2 := PySem.F.sub_list_frozenset
        have no3 : (Value.type "list" == Value.type "dict") = false := by decide
        have il : (s.heap.push (noSet w)).IsList l xs := ⟨_, gl', rfl, nl, rfl⟩
        unfold Builtin.«set.__init__» noKeywords Builtin.Frozenset.updateFrom
        generalize hPI : pyIter = PI
        wp_walk
        subst hPI
        refine wpAny_pyIter_list il (wpAny_bind (wpAny_runValue ?_))
        have hA3 : A.in1.in1.in1.handled = none := by simp [hA]
        have lI : l ≠ (s.heap.push (noSet w)).objs.size := by
          rw [Heap.size_push]
          exact Nat.ne_of_lt (Nat.lt_succ_of_lt lS)
        have offS : s.heap.objs.size ∉ [(s.heap.push (noSet w)).objs.size, l] := by
          rw [Heap.size_push]
          intro hm
          rcases List.mem_cons.mp hm with e | hm
          · exact absurd e (Nat.ne_of_lt (Nat.lt_succ_self _))
          · exact absurd (List.mem_singleton.mp hm) (Nat.ne_of_gt lS)
        have vals : ∀ (i : Nat) (v : Value), xs[i]? = some v → ∃ k t, ns[i]? = some k ∧ v = .int k t := fun i v hv => by
          have lt : i < ns.length := by
            rw [← size_eq]
            exact (Array.getElem?_eq_some_iff.mp hv).1
          obtain ⟨t, e⟩ := IntsAre.int_at hi i v (by rw [Array.getElem?_toList]; exact hv)
          exact ⟨ns.getD i 0, t, getD_at lt, e⟩
        refine set_update_ints ((Walks.list hA3 _ l lI xs).toS) s.heap.objs.size offS ns size_eq hn vals (xs.size - 0) 0 _ (by omega) (Nat.zero_le _) ⟨⟨_, Heap.get?_push_size _ rfl, rfl, rfl⟩, (il.push _)⟩
          ⟨0, Nat.le_refl 0, setR_new_at (Heap.get?_push_of_some _ at₀)⟩ fun t' c' moved small R' => ?_
        obtain ⟨h', g', d', tk', os'⟩ := t'
        have e1 : g' = s.gens := moved.gens
        have e2 : d' = s.drawn := moved.drawn
        have e3 : os' = s.os := moved.os
        subst e1
        subst e2
        subst e3
        show wpAny _ _ _ _ _ _
        refine wpAny_pure ?_
        show wpAny _ _ (ret Value.none) _ _ _
        rw [size_eq] at small
        exact wpAny_pure ⟨rfl, h', tk', c', rfl, R', small, fun b o e => moved.heap b o (two_off (l := l) rfl (Heap.lt_size e)) (Heap.get?_push_of_some _ (Heap.get?_push_of_some _ e))⟩
      · cases r₂ with
        | error e => exact out₂
        | ok fl₂ =>
          cases fl₂ with
          | ret r =>
            obtain ⟨rfl, h', tk, c', rfl, R', small, kept⟩ := out₂
            repeat (any_goals (first | assumption | wp_step))
            exact fin _ _ _ R' small kept
          | _ => exact out₂.elim
    | _ => exact out.elim
end
def rSetL (K : PySem.W.Frag) (w : World) : List V → Hp → VK → Prop := fun vs H Q => ∃ (l : Addr) (ns : List Int), vs = [V.ref l] ∧ SqL K H l (ns.map V.int) ∧ ns.length ≤ 1000 ∧ ∀ (p : Addr) (c : Nat), H p = none → c ≤ ns.length → Q (.ref p) (upd H p (SetO w p (fun j => decide (j ∈ ns)) c))
theorem cr_setL {X : Cx} (hc : X.calm = true) : CallR X (.type "set") (rSetL X.K X.w) := by
  intro pins s σ H xs us Q I r h
  obtain ⟨l, ns, rfl, hq, hl, q⟩ := h
  rw [Vals.ref1 r]
  obtain ⟨its, rv, pl, _⟩ := I.list hq
  refine set_of_list ns (I.ok.hd hc) pl.isList (by simpa using intsAre_of rv) (by unfold scanBound; omega) fun h' tk c R small kept => ?_
  exact ⟨.ref _, upd H s.heap.objs.size (SetO X.w s.heap.objs.size (fun j => decide (j ∈ ns)) c), I.laid (t' := tk) kept (Nat.le_refl _) (setO_new R), rfl, q _ c (I.hok.fresh (Nat.le_refl _)) small⟩
theorem setLW {X : Cx} {K : PySem.W.Frag} {w : World} (hK : X.K = K) (hw : X.w = w) (hc : X.calm = true) : CallR X (.type "set") (rSetL K w) := by
  subst hK hw
  exact cr_setL hc
theorem sortedW {X : Cx} {w : World} (hw : X.w = w) (hc : X.calm = true) : CallR X (.builtin "sorted") (rSortedSet w) := by
  subst hw
  exact cr_sortedSet hc
/-! formulas -/
inductive Fm where
  | inp (i : Nat)
  | less (f : Fm)
  | both (f g : Fm)
  | either (f g : Fm)
  | oneof (f g : Fm)
  | pick (f g h : Fm)
namespace Fm
def word : Fm → Str
  | inp _ => "in"
  | less _ => "less"
  | both _ _ => "both"
  | either _ _ => "either"
  | oneof _ _ => "oneof"
  | pick _ _ _ => "pick"
def sds : Fm → List Fm
  | inp _ => []
  | less f => [f]
  | both f g => [f, g]
  | either f g => [f, g]
  | oneof f g => [f, g]
  | pick f g h => [f, g, h]
def dep : Fm → Nat
  | inp _ => 1
  | less f => f.dep + 1
  | both f g => max f.dep g.dep + 1
  | either f g => max f.dep g.dep + 1
  | oneof f g => max f.dep g.dep + 1
  | pick f g h => max f.dep (max g.dep h.dep) + 1
def sz : Fm → Nat
  | inp _ => 1
  | less f => f.sz + 1
  | both f g => f.sz + g.sz + 1
  | either f g => f.sz + g.sz + 1
  | oneof f g => f.sz + g.sz + 1
  | pick f g h => f.sz + g.sz + h.sz + 1
def ins : Fm → List Nat
  | inp i => [i]
  | less f => f.ins
  | both f g => f.ins ++ g.ins
  | either f g => f.ins ++ g.ins
  | oneof f g => f.ins ++ g.ins
  | pick f g h => f.ins ++ (g.ins ++ h.ins)
theorem sz_pos (f : Fm) : 1 ≤ f.sz := by
  cases f <;> simp [sz]
theorem dep_pos (f : Fm) : 1 ≤ f.dep := by
  cases f <;> simp [dep]
theorem ins_len : ∀ f : Fm, 1 ≤ f.ins.length ∧ f.ins.length ≤ f.sz
  | inp i => ⟨Nat.le_refl 1, Nat.le_refl 1⟩
  | less f => by
    have := ins_len f
    simp only [ins, sz]
    omega
  | both f g => by
    have := ins_len f
    have := ins_len g
    simp only [ins, sz, List.length_append]
    omega
  | either f g => by
    have := ins_len f
    have := ins_len g
    simp only [ins, sz, List.length_append]
    omega
  | oneof f g => by
    have := ins_len f
    have := ins_len g
    simp only [ins, sz, List.length_append]
    omega
  | pick f g h => by
    have := ins_len f
    have := ins_len g
    have := ins_len h
    simp only [ins, sz, List.length_append]
    omega
theorem sds_dep {f g : Fm} (h : g ∈ f.sds) : g.dep < f.dep ∧ g.sz < f.sz := by
  cases f <;> simp only [sds, List.mem_cons, List.not_mem_nil, or_false] at h
  · subst h
    simp only [dep, sz]
    omega
  all_goals
    simp only [dep, sz]
    rcases h with rfl | h
    · omega
  · subst h; omega
  · subst h; omega
  · subst h; omega
  · rcases h with rfl | rfl <;> omega
theorem sds_ins {f : Fm} (h : f.word ≠ "in") : (f.sds.map ins).flatten = f.ins := by
  cases f with
  | inp i => exact absurd rfl h
  | _ => simp [sds, ins]
theorem sds_mem {f g : Fm} {i : Nat} (h : g ∈ f.sds) (hi : i ∈ g.ins) : i ∈ f.ins := by
  cases f <;> simp only [sds, List.mem_cons, List.not_mem_nil, or_false] at h
  · subst h
    exact hi
  all_goals
    simp only [ins, List.mem_append]
  · rcases h with rfl | rfl
    · exact .inl hi
    · exact .inr hi
  · rcases h with rfl | rfl
    · exact .inl hi
    · exact .inr hi
  · rcases h with rfl | rfl
    · exact .inl hi
    · exact .inr hi
  · rcases h with rfl | rfl | rfl
    · exact .inl hi
    · exact .inr (.inl hi)
    · exact .inr (.inr hi)
end Fm
def FmAt (H : Hp) : Fm → V → Prop
  | .inp i, v => ∃ a, v = .ref a ∧ H a = some (.tup [.str "in", .int (i : Nat)])
  | .less f, v => ∃ a u, v = .ref a ∧ H a = some (.tup [.str "less", u]) ∧ FmAt H f u
  | .both f g, v => ∃ a u x, v = .ref a ∧ H a = some (.tup [.str "both", u, x]) ∧ FmAt H f u ∧ FmAt H g x
  | .either f g, v => ∃ a u x, v = .ref a ∧ H a = some (.tup [.str "either", u, x]) ∧ FmAt H f u ∧ FmAt H g x
  | .oneof f g, v => ∃ a u x, v = .ref a ∧ H a = some (.tup [.str "oneof", u, x]) ∧ FmAt H f u ∧ FmAt H g x
  | .pick f g h, v => ∃ a u x y, v = .ref a ∧ H a = some (.tup [.str "pick", u, x, y]) ∧ FmAt H f u ∧ FmAt H g x ∧ FmAt H h y
theorem FmAt.keep {H H' : Hp} (k : ∀ a xs, H a = some (.tup xs) → H' a = some (.tup xs)) : ∀ {f : Fm} {v : V}, FmAt H f v → FmAt H' f v
  | .inp i, v, ⟨a, e, h⟩ => ⟨a, e, k _ _ h⟩
  | .less f, v, ⟨a, u, e, h, h1⟩ => ⟨a, u, e, k _ _ h, FmAt.keep k h1⟩
  | .both f g, v, ⟨a, u, x, e, h, h1, h2⟩ => ⟨a, u, x, e, k _ _ h, FmAt.keep k h1, FmAt.keep k h2⟩
  | .either f g, v, ⟨a, u, x, e, h, h1, h2⟩ => ⟨a, u, x, e, k _ _ h, FmAt.keep k h1, FmAt.keep k h2⟩
  | .oneof f g, v, ⟨a, u, x, e, h, h1, h2⟩ => ⟨a, u, x, e, k _ _ h, FmAt.keep k h1, FmAt.keep k h2⟩
  | .pick f g h, v, ⟨a, u, x, y, e, h0, h1, h2, h3⟩ => ⟨a, u, x, y, e, k _ _ h0, FmAt.keep k h1, FmAt.keep k h2, FmAt.keep k h3⟩
theorem FmAt.same {H H' : Hp} {f : Fm} {v : V} (h : FmAt H f v) (s : Same H H') : FmAt H' f v := h.keep fun _ _ e => s _ _ e
theorem FmAt.but {H H' : Hp} {f : Fm} {v : V} {p : Addr} {n : Nat} (h : FmAt H f v) (B : Bx H p n) (s : But p H H') : FmAt H' f v := h.keep fun _ _ e => s _ _ (B.ne_tup e) e
/-- the sides of a part, as they stand -/
def FsAt (H : Hp) (fs : List Fm) (us : List V) : Prop := us.length = fs.length ∧ ∀ (i : Nat) (f : Fm) (u : V), fs[i]? = some f → us[i]? = some u → FmAt H f u
theorem FsAt.keep {H H' : Hp} {fs : List Fm} {us : List V} (h : FsAt H fs us) (k : ∀ a xs, H a = some (.tup xs) → H' a = some (.tup xs)) : FsAt H' fs us := ⟨h.1, fun i f u e1 e2 => (h.2 i f u e1 e2).keep k⟩
theorem FsAt.same {H H' : Hp} {fs : List Fm} {us : List V} (h : FsAt H fs us) (s : Same H H') : FsAt H' fs us := h.keep fun _ _ e => s _ _ e
theorem FmAt.shape {H : Hp} {f : Fm} {v : V} (h : FmAt H f v) : (∃ i a, f = .inp i ∧ v = .ref a ∧ H a = some (.tup [.str "in", .int (i : Nat)])) ∨ ∃ a us, v = .ref a ∧ H a = some (.tup (.str f.word :: us)) ∧ f.word ≠ "in" ∧ FsAt H f.sds us := by
  cases f with
  | inp i =>
    obtain ⟨a, e, h⟩ := h
    exact .inl ⟨i, a, rfl, e, h⟩
  | less f =>
    obtain ⟨a, u, e, h, h1⟩ := h
    refine .inr ⟨a, [u], e, h, by simp only [Fm.word]; decide +kernel, rfl, fun i g x e1 e2 => ?_⟩
    match i with
    | 0 => cases e1; cases e2; exact h1
    | i + 1 => cases e1
  | both f g =>
    obtain ⟨a, u, x, e, h, h1, h2⟩ := h
    refine .inr ⟨a, [u, x], e, h, by simp only [Fm.word]; decide +kernel, rfl, fun i g x e1 e2 => ?_⟩
    match i with
    | 0 => cases e1; cases e2; exact h1
    | 1 => cases e1; cases e2; exact h2
    | i + 2 => cases e1
  | either f g =>
    obtain ⟨a, u, x, e, h, h1, h2⟩ := h
    refine .inr ⟨a, [u, x], e, h, by simp only [Fm.word]; decide +kernel, rfl, fun i g x e1 e2 => ?_⟩
    match i with
    | 0 => cases e1; cases e2; exact h1
    | 1 => cases e1; cases e2; exact h2
    | i + 2 => cases e1
  | oneof f g =>
    obtain ⟨a, u, x, e, h, h1, h2⟩ := h
    refine .inr ⟨a, [u, x], e, h, by simp only [Fm.word]; decide +kernel, rfl, fun i g x e1 e2 => ?_⟩
    match i with
    | 0 => cases e1; cases e2; exact h1
    | 1 => cases e1; cases e2; exact h2
    | i + 2 => cases e1
  | pick f g h' =>
    obtain ⟨a, u, x, y, e, h, h1, h2, h3⟩ := h
    refine .inr ⟨a, [u, x, y], e, h, by simp only [Fm.word]; decide +kernel, rfl, fun i g x e1 e2 => ?_⟩
    match i with
    | 0 => cases e1; cases e2; exact h1
    | 1 => cases e1; cases e2; exact h2
    | 2 => cases e1; cases e2; exact h3
    | i + 3 => cases e1
theorem FsAt.get {H : Hp} {fs : List Fm} {us : List V} (h : FsAt H fs us) {i : Nat} {u : V} (hu : us[i]? = some u) : ∃ f, fs[i]? = some f ∧ f ∈ fs ∧ FmAt H f u := by
  have hi := (List.getElem?_eq_some_iff.mp hu).1
  have hi2 : i < fs.length := by rw [← h.1]; exact hi
  exact ⟨fs[i], List.getElem?_eq_getElem hi2, List.getElem_mem hi2, h.2 i _ u (List.getElem?_eq_getElem hi2) hu⟩
theorem cut_tail (v : V) (us : List V) : cutV (v :: us) (some 1) none = us := by
  unfold cutV
  rw [show (1 : Int) = ((1 : Nat) : Int) from rfl, HT.sIx_nat, HT.sIx_none]
  have e : min 1 (v :: us).length = 1 := by simp
  rw [e, List.drop_succ_cons, List.drop_zero, List.length_cons]
  exact List.take_of_length_le (by omega)
/-! formulas drawn -/
structure Fm.Ok (f : Fm) (d m w : Nat) : Prop where
  dp : f.dep ≤ max d 1
  sz : f.sz ≤ m
  ins : ∀ i, i ∈ f.ins → i < w
def spr__law_formula (d : Nat) (_ : PySem.W.Frag) : Sp := fun vs H Q _ => ∃ (p : Addr) (n de ma wi : Nat), vs = [.ref p, .int (de : Nat), .int (ma : Nat), .int (wi : Nat)] ∧ Bx H p n ∧ n + 4 * ma < 100000000 ∧ de < d ∧ 1 ≤ ma ∧ ma ≤ 100 ∧ 1 ≤ wi ∧ wi ≤ 100 ∧
  ∀ H' v f, But p H H' → Bx H' p (n + 4 * ma) → FmAt H' f v → f.Ok de ma wi → Q v H'
theorem no__law_formula {K : PySem.W.Frag} {vs : List V} {H : Hp} {Q : VK} {E : XK} (h : spr__law_formula 0 K vs H Q E) : False := by
  obtain ⟨p, n, de, ma, wi, _, _, _, z, _⟩ := h
  exact Nat.not_lt_zero _ z
/-- three formulas drawn so far -/
def F3 (p D : Addr) (X : Hp) (n l de wi : Nat) (i : Nat) (G : Hp) : Prop := ∃ fs : List (V × Fm), fs.length = i ∧ G D = some (.lst (fs.map Prod.fst)) ∧ (∀ q, q ∈ fs → FmAt G q.2 q.1 ∧ q.2.Ok de l wi) ∧ But p X G ∧ Bx G p (n + 4 * l * i)
theorem okr__law_formula (T : Defs K mg) (TT : Tabs T base) : ∀ d : Nat, FnOk P w K mg base CX0 (2 + d) T.f__law_formula T.fd__law_formula ["_law_box_here", "_law_deep", "_law_many", "_law_wide"] (spr__law_formula d K)
  | 0 => ⟨fun _ _ _ _ z => (no__law_formula z).elim, fun _ _ _ _ _ _ _ _ _ _ _ _ _ z => (no__law_formula z).elim⟩
  | d + 1 => by
    have G__law_take : FnOk P w K mg base CX0 1 T.f__law_take T.fd__law_take ["_law_box_here", "_law_many"] (sp__law_take K) := ok__law_take T TT
    have G__law_formula : FnOk P w K mg base CX0 (2 + d) T.f__law_formula T.fd__law_formula ["_law_box_here", "_law_deep", "_law_many", "_law_wide"] (spr__law_formula d K) := okr__law_formula T TT d
    show FnOk P w K mg base CX0 ((2 + d) + 1) T.f__law_formula T.fd__law_formula ["_law_box_here", "_law_deep", "_law_many", "_law_wide"] (spr__law_formula (d + 1) K)
    refine T.F__law_formula.ok sc__law_formula (fun vs H Q E h => ?_) (fun cdv A outer s H vs Q E hr h => ?_)
    · obtain ⟨p, n, de, ma, wi, rfl, hB, hn, hd, m1, m2, w1, w2, q⟩ := h
      rfl
    · obtain ⟨p, n, de, ma, wi, rfl, hB, hn, hd, m1, m2, w1, w2, q⟩ := h
      refine ⟨_, PSs.nox (pss_cons (ps_set (i := 4) sc__law_formula.nd rfl (.inl rfl) (pe_call G__law_take (hr.mono (by omega)) (by rfl) T.g__law_take T.F__law_take.kp T.b__law_take .nil pass0 (pa_cons (pv 0) (pa_cons pe_int pa_nil))))
    (pss_cons (ps_if (PW.pt (pw_or (pt_cmpR op_lt (pv 1) pe_int (nomark _)) (pw_or (pt_cmpR op_lt (pv 2) pe_int (nomark _)) (pw_or1 (pt_cmpR op_eq (pv 4) pe_int (nomark _)))))) (pss_one (ps_ret (pe_tup (pa_cons pe_str (pa_cons (pe_call G__law_take (hr.mono (by omega)) (by rfl) T.g__law_take T.F__law_take.kp T.b__law_take .nil pass0 (pa_cons (pv 0) (pa_cons (pv 3) pa_nil))) pa_nil))))) pss_nil)
    (pss_cons (ps_if (PW.pt (pw_or (pt_cmpR op_eq (pv 4) pe_int (nomark _)) (pw_or1 (pt_cmpR op_lt (pv 2) pe_int (nomark _))))) (pss_one (ps_ret (pe_tup (pa_cons pe_str (pa_cons (pe_call G__law_formula (hr.mono (by omega)) (by rfl) T.g__law_formula T.F__law_formula.kp T.b__law_formula .nil pass0 (pa_cons (pv 0) (pa_cons (pe_op op_sub (pv 1) pe_int) (pa_cons (pe_op op_sub (pv 2) pe_int) (pa_cons (pv 3) pa_nil))))) pa_nil))))) pss_nil)
    (pss_cons (ps_if (PW.pt (pw_and (pt_cmpR op_eq (pv 4) pe_int (nomark _)) (pw_and1 (pt_cmpR op_gt (pv 2) pe_int (nomark _))))) (pss_cons (ps_set (i := 5) sc__law_formula.nd rfl (.inr rfl) (pe_op op_fdiv (pe_op op_sub (pv 2) pe_int) pe_int))
    (pss_one (ps_ret (pe_op op_catA (pe_tup (pa_cons pe_str pa_nil)) (pe_callTy call_tuple_of (by rfl) T.m_tuple bt_tuple (pa_cons (pe_lc (own := [("_law_turn", 7)]) (g := gName 7) (tt := tYes) rfl sc__law_formula.nd (pi_range1 (by rfl) T.m_range (pa_cons pe_int pa_nil)) (blkOk_by (N := N__law_formula) (sc := defScope s__law_formula) (by decide +kernel)) (fun _ _ _ _ _ => (pg_name (i := 7) sc__law_formula.nd rfl (.inl rfl))) (fun _ _ _ _ _ => pts_nil) (fun _ _ _ _ _ => (pe_call G__law_formula (hr.mono (by omega)) (by rfl) T.g__law_formula T.F__law_formula.kp T.b__law_formula .nil pass0 (pa_cons (pv 0) (pa_cons (pe_op op_sub (pv 1) pe_int) (pa_cons (pv 5) (pa_cons (pv 3) pa_nil))))))) pa_nil)))))) pss_nil)
    (pss_cons (ps_asg (pe_tup (pa_cons (pe_ix ix_list (pe_lst (pa_cons pe_str (pa_cons pe_str (pa_cons pe_str pa_nil)))) (pe_call G__law_take (hr.mono (by omega)) (by rfl) T.g__law_take T.F__law_take.kp T.b__law_take .nil pass0 (pa_cons (pv 0) (pa_cons pe_int pa_nil))) (fun _ _ => rfl)) (pa_cons (pe_op op_add pe_int (pe_call G__law_take (hr.mono (by omega)) (by rfl) T.g__law_take T.F__law_take.kp T.b__law_take .nil pass0 (pa_cons (pv 0) (pa_cons (pe_op op_sub (pv 2) pe_int) pa_nil)))) pa_nil))) (pg_tup rfl (pgs_cons (pg_name (i := 6) sc__law_formula.nd rfl (.inl rfl)) (pgs_cons (pg_name (i := 5) sc__law_formula.nd rfl (.inr rfl)) pgs_nil))))
    (pss_one (ps_ret (pe_tup (pa_cons (pv 6) (pa_cons (pe_call G__law_formula (hr.mono (by omega)) (by rfl) T.g__law_formula T.F__law_formula.kp T.b__law_formula .nil pass0 (pa_cons (pv 0) (pa_cons (pe_op op_sub (pv 1) pe_int) (pa_cons (pv 5) (pa_cons (pv 3) pa_nil))))) (pa_cons (pe_call G__law_formula (hr.mono (by omega)) (by rfl) T.g__law_formula T.F__law_formula.kp T.b__law_formula .nil pass0 (pa_cons (pv 0) (pa_cons (pe_op op_sub (pv 1) pe_int) (pa_cons (pe_op op_sub (pe_op op_sub (pv 2) pe_int) (pv 5)) (pa_cons (pv 3) pa_nil))))) pa_nil))))))))))), ?_⟩
      have hsl : sizeLine = 16777216 := by decide
      refine ⟨.ref p, rfl, p, 7, n, rfl, hB, by decide, by decide, by omega, fun H1 way c1 B1 l1 u1 => ?_⟩
      have fin : ∀ H' v f, But p H1 H' → Bx H' p (n + 4 * ma) → FmAt H' f v → f.Ok de ma wi → Q v H' := fun H' v f b B hf ok => q H' v f (c1.trans b) B hf ok
      refine ⟨_, rfl, _, _, rfl, rfl, _, rfl, ite2 (fun _ => ?_) (fun e1 => ?_)⟩
      · refine iteT ?_
        refine ⟨.ref p, rfl, _, rfl, p, (wi : Int), _, rfl, B1, by omega, by omega, by omega, fun H2 r c2 B2 l2 u2 => ⟨(show 2 ≤ sizeLine by decide), fun t nt => ?_⟩⟩
        obtain ⟨r, rfl⟩ := nat_of l2
        exact fin _ _ (.inp r) (c2.new nt) ((B2.new nt).mono (by omega)) ⟨t, rfl, upd_same⟩ ⟨by simp only [Fm.dep]; omega, by simp only [Fm.sz]; omega, fun i hi => by
          rw [List.mem_singleton.mp hi]
          omega⟩
      have de2 : 2 ≤ de := by
        have : ¬ (de : Int) < 2 := fun z => e1 (decide_eq_true z)
        omega
      refine ⟨_, rfl, _, _, rfl, rfl, _, rfl, ite2 (fun _ => ?_) (fun e2 => ?_)⟩
      · refine iteT ?_
        refine ⟨.ref p, rfl, _, rfl, p, (wi : Int), _, rfl, B1, by omega, by omega, by omega, fun H2 r c2 B2 l2 u2 => ⟨(show 2 ≤ sizeLine by decide), fun t nt => ?_⟩⟩
        obtain ⟨r, rfl⟩ := nat_of l2
        exact fin _ _ (.inp r) (c2.new nt) ((B2.new nt).mono (by omega)) ⟨t, rfl, upd_same⟩ ⟨by simp only [Fm.dep]; omega, by simp only [Fm.sz]; omega, fun i hi => by
          rw [List.mem_singleton.mp hi]
          omega⟩
      have ma2 : 2 ≤ ma := by
        have : ¬ (ma : Int) < 2 := fun z => e2 (decide_eq_true z)
        omega
      refine ⟨_, rfl, rfl, _, rfl, ite2 (fun _ => ?_) (fun _ => ?_)⟩
      · refine ⟨.ref p, rfl, _, rfl, p, (wi : Int), _, rfl, B1, by omega, by omega, by omega, fun H2 r c2 B2 l2 u2 => ⟨(show 2 ≤ sizeLine by decide), fun t nt => ?_⟩⟩
        obtain ⟨r, rfl⟩ := nat_of l2
        exact fin _ _ (.inp r) (c2.new nt) ((B2.new nt).mono (by omega)) ⟨t, rfl, upd_same⟩ ⟨by simp only [Fm.dep]; omega, by simp only [Fm.sz]; omega, fun i hi => by
          rw [List.mem_singleton.mp hi]
          omega⟩
      have ed : (de : Int) - 1 = ((de - 1 : Nat) : Int) := by omega
      have em : (ma : Int) - 1 = ((ma - 1 : Nat) : Int) := by omega
      clear e1 e2
      refine ⟨_, rfl, rfl, _, rfl, ite2 (fun _ => iteT ?_) (fun _ => ⟨_, rfl, _, _, rfl, rfl, _, rfl, ite2 (fun _ => ?_) (fun e3 => ?_)⟩)⟩
      · refine ⟨.ref p, rfl, _, rfl, _, _, rfl, rfl, _, rfl, _, _, rfl, rfl, _, rfl, p, _, de - 1, ma - 1, wi, by rw [← ed, ← em]; rfl, B1, by omega, by omega, by omega, by omega, w1, w2, fun H2 v f c2 B2 hf ok => ⟨(show 2 ≤ sizeLine by decide), fun t nt => ?_⟩⟩
        have o1 := ok.dp
        have o2 := ok.sz
        exact fin _ _ (.less f) (c2.new nt) ((B2.new nt).mono (by omega)) ⟨t, v, rfl, upd_same, hf.same (same_upd nt)⟩ ⟨by simp only [Fm.dep]; omega, by simp only [Fm.sz]; omega, ok.ins⟩
      · refine ⟨.ref p, rfl, _, rfl, _, _, rfl, rfl, _, rfl, _, _, rfl, rfl, _, rfl, p, _, de - 1, ma - 1, wi, by rw [← ed, ← em]; rfl, B1, by omega, by omega, by omega, by omega, w1, w2, fun H2 v f c2 B2 hf ok => ⟨(show 2 ≤ sizeLine by decide), fun t nt => ?_⟩⟩
        have o1 := ok.dp
        have o2 := ok.sz
        exact fin _ _ (.less f) (c2.new nt) ((B2.new nt).mono (by omega)) ⟨t, v, rfl, upd_same, hf.same (same_upd nt)⟩ ⟨by simp only [Fm.dep]; omega, by simp only [Fm.sz]; omega, ok.ins⟩
      have ma3 : 3 ≤ ma := by
        have : ¬ (ma : Int) < 3 := fun z => e3 (decide_eq_true z)
        omega
      clear e3
      refine nx_via (fun σ F => (∃ y5 y6 y7, σ = [some (.ref p), some (.int (de : Nat)), some (.int (ma : Nat)), some (.int (wi : Nat)), some (.int way), y5, y6, y7]) ∧ F = H1) (fun N key => ?_) ?_
      · refine ⟨_, rfl, rfl, _, rfl, ite2 (fun _ => ?_) (fun _ => iteF (key _ _ ⟨⟨_, _, _, rfl⟩, rfl⟩))⟩
        refine ⟨_, rfl, _, _, rfl, rfl, _, rfl, ite2 (fun e4 => ?_) (fun _ => key _ _ ⟨⟨_, _, _, rfl⟩, rfl⟩)⟩
        have ma4 : 4 ≤ ma := by
          have : (3 : Int) < (ma : Int) := of_decide_eq_true e4
          omega
        obtain ⟨l, hl⟩ : ∃ l : Nat, ((ma : Int) - 1) / 3 = (l : Int) := ⟨(ma - 1) / 3, by omega⟩
        have l1 : 1 ≤ l := by omega
        have l3 : 3 * l + 1 ≤ ma := by omega
        refine ⟨_, rfl, _, _, rfl, rfl, _, _, rfl, rfl, ⟨by decide, by decide⟩, ?_⟩
        try dsimp only
        rw [hl]
        refine ⟨(show 1 ≤ sizeLine by decide), fun t0 nt0 => ?_⟩
        have u0 := same_upd nt0 (o := .tup [.str "pick"])
        refine ⟨3, rfl, by decide, by decide, fun D nD => ?_⟩
        have nDp : D ≠ p := ne_new (B1.new (o := .tup [.str "pick"]) nt0) nD
        have ht0 := upd_same (H := H1) (a := t0) (o := .tup [.str "pick"])
        generalize upd H1 t0 (.tup [.str "pick"]) = X at u0 nD ht0 ⊢
        have BX := B1.same u0
        refine lc_range (F3 p D X (n + 1) l (de - 1) wi) ⟨[], rfl, upd_same, fun _ z => (by cases z), (But.refl p X).new nD, BX.new nD⟩ (fun j G hj h => ?_) (fun G h => ?_)
        · obtain ⟨fs, lf, hD, hfs, cG, BG⟩ := h
          have hj3 : j < 3 := by
            have : (3 : Int).toNat = 3 := rfl
            omega
          have ll : 4 * l * j ≤ 4 * l * 2 := Nat.mul_le_mul_left _ (by omega)
          refine ⟨rfl, yes_ite ?_⟩
          refine ⟨.ref p, rfl, _, rfl, _, _, rfl, rfl, _, rfl, _, rfl, p, _, de - 1, l, wi, by rw [← ed]; rfl, BG, by omega, by omega, l1, by omega, w1, w2, fun G2 v f c2 B2 hf ok => ?_⟩
          refine ⟨_, c2 _ _ nDp hD, by rw [List.length_map]; omega, fs ++ [(v, f)], by rw [List.length_append, lf]; rfl, by rw [upd_same, List.map_append]; rfl, fun q' hq => ?_, but_newer (cG.trans c2) nD, ?_⟩
          · have keep : ∀ t xs, G2 t = some (.tup xs) → (upd G2 D (.lst (fs.map Prod.fst ++ [v]))) t = some (.tup xs) := fun t xs e => by
              rw [upd_ne (ne_of e (c2 _ _ nDp hD) (fun z => by cases z))]
              exact e
            rcases List.mem_append.mp hq with hq | hq
            · exact ⟨((hfs q' hq).1.but BG c2).keep keep, (hfs q' hq).2⟩
            · rw [List.mem_singleton.mp hq]
              exact ⟨hf.keep keep, ok⟩
          · have e : n + 1 + 4 * l * j + 4 * l = n + 1 + 4 * l * (j + 1) := by rw [Nat.mul_add, Nat.mul_one]; omega
            rw [← e]
            exact B2.other nDp
        obtain ⟨fs, lf, hD, hfs, cG, BG⟩ := h
        have lf : fs.length = 3 := lf
        have BG : Bx G p (n + 1 + 4 * l * 3) := BG
        obtain ⟨q1, q2, q3, rfl⟩ : ∃ q1 q2 q3, fs = [q1, q2, q3] := by
          match fs, lf with
          | [a, b, c], _ => exact ⟨a, b, c, rfl⟩
        obtain ⟨f1, o1⟩ := hfs q1 (by simp)
        obtain ⟨f2, o2⟩ := hfs q2 (by simp)
        obtain ⟨f3, o3⟩ := hfs q3 (by simp)
        refine ⟨D, _, rfl, .inl ⟨SqL.mk hD, fun t1 nt1 => ?_⟩⟩
        have u1 := same_upd nt1 (o := .tup ([q1, q2, q3].map Prod.fst))
        refine ⟨t0, t1, _, _, rfl, rfl, SqT.mk (u1 _ _ (cG _ _ (BX.ne_tup ht0) ht0)), SqT.mk upd_same, (show 4 ≤ sizeLine by decide), fun z => (by cases z), fun _ z => (by cases z), fun _ _ t2 nt2 => ?_⟩
        have u2 := u1.trans (same_upd nt2 (o := .tup [.str "pick", q1.1, q2.1, q3.1]))
        have cA : But p H1 (upd (upd G t1 (.tup ([q1, q2, q3].map Prod.fst))) t2 (.tup ([V.str "pick"] ++ [q1, q2, q3].map Prod.fst))) := (same_but u0).trans (cG.trans (same_but u2))
        have d1 := o1.dp
        have d2 := o2.dp
        have d3 := o3.dp
        have z1 := o1.sz
        have z2 := o2.sz
        have z3 := o3.sz
        refine fin _ _ (.pick q1.2 q2.2 q3.2) cA ((BG.same u2).mono (by omega)) ⟨t2, q1.1, q2.1, q3.1, rfl, upd_same, f1.same u2, f2.same u2, f3.same u2⟩ ⟨by simp only [Fm.dep]; omega, by simp only [Fm.sz]; omega, fun i hi => ?_⟩
        simp only [Fm.ins, List.mem_append] at hi
        rcases hi with hi | hi | hi
        · exact o1.ins i hi
        · exact o2.ins i hi
        · exact o3.ins i hi
      rintro σ F ⟨⟨y5, y6, y7, rfl⟩, rfl⟩
      refine ⟨(show 3 ≤ sizeLine by decide), fun L nL => ?_⟩
      have uL := same_upd nL (o := .lst [.str "both", .str "either", .str "oneof"])
      have hL := upd_same (H := F) (a := L) (o := .lst [.str "both", .str "either", .str "oneof"])
      generalize upd F L (.lst [.str "both", .str "either", .str "oneof"]) = X at uL hL ⊢
      have BX := B1.same uL
      have nLp : L ≠ p := fun e => by
        obtain ⟨_, _, _, z, _⟩ := BX
        rw [← e, hL] at z
        cases z
      refine ⟨.ref p, rfl, p, 3, _, rfl, BX, by decide, by decide, by omega, fun G1 r1 d1 B2 l2 u2 => ?_⟩
      obtain ⟨wd, ewd, hwd⟩ : ∃ wd : Str, atI [V.str "both", .str "either", .str "oneof"] r1 = some (.str wd) ∧ (wd = "both" ∨ wd = "either" ∨ wd = "oneof") := by
        obtain ⟨r1, rfl⟩ := nat_of l2
        match r1, u2 with
        | 0, _ => exact ⟨"both", atI_nat (j := 0) rfl, .inl rfl⟩
        | 1, _ => exact ⟨"either", atI_nat (j := 1) rfl, .inr (.inl rfl)⟩
        | 2, _ => exact ⟨"oneof", atI_nat (j := 2) rfl, .inr (.inr rfl)⟩
        | r + 3, h => exact absurd h (by omega)
      refine ⟨L, _, _, _, rfl, rfl, SqL.mk (d1 _ _ nLp hL), ewd, ?_⟩
      have em2 : (ma : Int) - 2 = ((ma - 2 : Nat) : Int) := by omega
      refine ⟨.ref p, rfl, _, rfl, _, _, rfl, rfl, p, (ma : Int) - 2, _, rfl, B2, by omega, by omega, by omega, fun G2 r2 d2 B3 l3 u3 => ⟨_, _, rfl, rfl, ?_⟩⟩
      obtain ⟨l, hl⟩ := nat_of (show 0 ≤ 1 + r2 by omega)
      try dsimp only
      rw [hl]
      refine ⟨(show 2 ≤ sizeLine by decide), fun tp ntp => ⟨tp, _, rfl, SqT.mk upd_same, rfl, _, _, rfl, _, _, rfl, rfl, ?_⟩⟩
      have uT := same_upd ntp (o := .tup [.str wd, .int (l : Nat)])
      have BT := B3.same uT
      have cT : But p F (upd G2 tp (.tup [.str wd, .int (l : Nat)])) := (same_but uL).trans (d1.trans (d2.trans (same_but uT)))
      generalize upd G2 tp (.tup [.str wd, .int (l : Nat)]) = Y at BT cT ⊢
      have el : (ma : Int) - 1 - (l : Int) = ((ma - 1 - l : Nat) : Int) := by omega
      refine ⟨_, rfl, .ref p, rfl, _, rfl, _, _, rfl, rfl, _, rfl, _, rfl, p, _, de - 1, l, wi, by rw [← ed]; rfl, BT, by omega, by omega, by omega, by omega, w1, w2, fun Y1 v1 f1 y1 C1 h1 o1 => ?_⟩
      refine ⟨.ref p, rfl, _, rfl, _, _, rfl, rfl, _, rfl, _, _, rfl, rfl, _, rfl, _, _, rfl, rfl, _, rfl, p, _, de - 1, ma - 1 - l, wi, by rw [← ed, ← el]; rfl, C1, by omega, by omega, by omega, by omega, w1, w2, fun Y2 v2 f2 y2 C2 h2 o2 => ⟨(show 3 ≤ sizeLine by decide), fun t nt => ?_⟩⟩
      have cZ : But p F (upd Y2 t (.tup [.str wd, v1, v2])) := (cT.trans (y1.trans y2)).new nt
      have sT := same_upd nt (o := .tup [.str wd, v1, v2])
      have BZ : Bx (upd Y2 t (.tup [.str wd, v1, v2])) p (n + 4 * ma) := (C2.new nt).mono (by omega)
      have a1 := (h1.but C1 y2).same sT
      have a2 := h2.same sT
      have p1 := o1.dp
      have p2 := o2.dp
      have z1 := o1.sz
      have z2 := o2.sz
      have oi : ∀ i, i ∈ f1.ins ++ f2.ins → i < wi := fun i hi => by
        rcases List.mem_append.mp hi with hi | hi
        · exact o1.ins i hi
        · exact o2.ins i hi
      rcases hwd with rfl | rfl | rfl
      · exact fin _ _ (.both f1 f2) cZ BZ ⟨t, v1, v2, rfl, upd_same, a1, a2⟩ ⟨by simp only [Fm.dep]; omega, by simp only [Fm.sz]; omega, oi⟩
      · exact fin _ _ (.either f1 f2) cZ BZ ⟨t, v1, v2, rfl, upd_same, a1, a2⟩ ⟨by simp only [Fm.dep]; omega, by simp only [Fm.sz]; omega, oi⟩
      · exact fin _ _ (.oneof f1 f2) cZ BZ ⟨t, v1, v2, rfl, upd_same, a1, a2⟩ ⟨by simp only [Fm.dep]; omega, by simp only [Fm.sz]; omega, oi⟩
def sp__law_formula (K : PySem.W.Frag) : Sp := spr__law_formula 9 K
theorem ok__law_formula (T : Defs K mg) (TT : Tabs T base) : FnOk P w K mg base CX0 11 T.f__law_formula T.fd__law_formula ["_law_box_here", "_law_deep", "_law_many", "_law_wide"] (sp__law_formula K) := okr__law_formula T TT 9
def sp__law_any (_ : PySem.W.Frag) : Sp := fun vs H Q _ => ∃ (p : Addr) (n : Nat), vs = [.ref p] ∧ Bx H p n ∧ n < 1000000 ∧
  ∀ H' v f, But p H H' → Bx H' p (n + 200) → FmAt H' f v → f.dep ≤ 8 → f.sz ≤ 24 → (∀ i, i ∈ f.ins → i < 6) → Q v H'
theorem bl01 {c : Bool} : 0 ≤ (if c = true then (1 : Int) else 0) ∧ (if c = true then (1 : Int) else 0) < ((2 : Nat) : Int) := by
  cases c <;> decide
theorem ok__law_any (T : Defs K mg) (TT : Tabs T base) : FnOk P w K mg base CX0 12 T.f__law_any T.fd__law_any ["_law_box_here"] (sp__law_any K) := by
  have G__law_formula : FnOk P w K mg base CX0 11 T.f__law_formula T.fd__law_formula ["_law_box_here", "_law_deep", "_law_many", "_law_wide"] (sp__law_formula K) := ok__law_formula T TT
  have G__law_take : FnOk P w K mg base CX0 1 T.f__law_take T.fd__law_take ["_law_box_here", "_law_many"] (sp__law_take K) := ok__law_take T TT
  refine T.F__law_any.ok sc__law_any (fun vs H Q E h => ?_) (fun cdv A outer s H vs Q E hr h => ?_)
  · obtain ⟨p, n, rfl, hB, hn, q⟩ := h
    rfl
  · obtain ⟨p, n, rfl, hB, hn, q⟩ := h
    refine ⟨_, PSs.nox (pss_cons (ps_par (i := 1) (j := 2) (by rfl) sc__law_any.nd rfl rfl (by decide) rfl rfl (pa_cons (pe_cmpR op_eq (pe_call G__law_take (hr.mono (by decide)) (by rfl) T.g__law_take T.F__law_take.kp T.b__law_take .nil pass0 (pa_cons (pv 0) (pa_cons pe_int pa_nil))) pe_int (nomark _)) (pa_cons (pe_op op_add pe_int (pe_call G__law_take (hr.mono (by decide)) (by rfl) T.g__law_take T.F__law_take.kp T.b__law_take .nil pass0 (pa_cons (pv 0) (pa_cons pe_int pa_nil)))) pa_nil)) (by rfl))
    (pss_one (ps_ret (pe_call G__law_formula (hr.mono (by decide)) (by rfl) T.g__law_formula T.F__law_formula.kp T.b__law_formula .nil pass0 (pa_cons (pv 0) (pa_cons (pe_ix ix_list (pe_lst (pa_cons pe_int (pa_cons pe_int pa_nil))) (pe_callTy call_int1 (by rfl) T.m_int bt_int (pa_cons (pv 1) pa_nil)) (fun _ _ => rfl)) (pa_cons (pe_ix ix_list (pe_lst (pa_cons (pe_op op_add pe_int (pe_call G__law_take (hr.mono (by decide)) (by rfl) T.g__law_take T.F__law_take.kp T.b__law_take .nil pass0 (pa_cons (pv 0) (pa_cons pe_int pa_nil)))) (pa_cons pe_int pa_nil))) (pe_callTy call_int1 (by rfl) T.m_int bt_int (pa_cons (pv 1) pa_nil)) (fun _ _ => rfl)) (pa_cons (pv 2) pa_nil)))))))), ?_⟩
    have hsl : sizeLine = 16777216 := by decide
    refine ⟨.ref p, rfl, p, 4, n, rfl, hB, by decide, by decide, by omega, fun H1 r1 c1 B1 l1 u1 => ⟨rfl, ?_⟩⟩
    obtain ⟨gr, egr⟩ : ∃ gr, decide (V.int r1 = V.int 0) = gr := ⟨_, rfl⟩
    rw [egr]
    refine ⟨.ref p, rfl, p, 6, _, rfl, B1, by decide, by decide, by omega, fun H2 r2 c2 B2 l2 u2 => ⟨_, _, rfl, rfl, ?_⟩⟩
    obtain ⟨wi, hwi⟩ := nat_of (show 0 ≤ 1 + r2 by omega)
    try dsimp only
    rw [hwi]
    refine ⟨_, _, rfl, ?_⟩
    refine ⟨.ref p, rfl, (show 2 ≤ sizeLine by decide), fun la na => ?_⟩
    have s3 := same_upd na (o := .lst [.int 5, .int 8])
    obtain ⟨de, ev1, hde⟩ := at_menu (Pr := fun v => v = 5 ∨ v = 8) (xs := [5, 8]) (r := if gr = true then (1 : Int) else 0) bl01.1 bl01.2 (fun x hx => by
      simp only [List.mem_cons, List.not_mem_nil, or_false] at hx
      exact hx)
    refine ⟨.bl gr, rfl, .inr ⟨_, rfl, la, _, _, _, rfl, rfl, SqL.mk upd_same, ev1, ?_⟩⟩
    have B3 := B2.same s3
    have c3 := (c1.trans c2).trans (same_but s3)
    generalize upd H2 la (.lst [.int 5, .int 8]) = H3 at B3 c3 ⊢
    refine ⟨.ref p, rfl, p, 9, _, rfl, B3, by decide, by decide, by omega, fun H4 r4 c4 B4 l4 u4 => ⟨_, _, rfl, rfl, (show 2 ≤ sizeLine by decide), fun lb nb => ?_⟩⟩
    obtain ⟨ma, ev2, hma⟩ := at_menu (Pr := fun v => 1 ≤ v ∧ v ≤ 24) (xs := [1 + r4, 24]) (r := if gr = true then (1 : Int) else 0) bl01.1 bl01.2 (fun x hx => by
      simp only [List.mem_cons, List.not_mem_nil, or_false] at hx
      omega)
    have s5 := same_upd nb (o := .lst [.int (1 + r4), .int 24])
    refine ⟨.bl gr, rfl, .inr ⟨_, rfl, lb, _, _, _, rfl, rfl, SqL.mk upd_same, ev2, ?_⟩⟩
    have B5 := B4.same s5
    obtain ⟨de, rfl⟩ := nat_of (show 0 ≤ de by omega)
    obtain ⟨ma, rfl⟩ := nat_of (show 0 ≤ ma by omega)
    refine ⟨_, rfl, p, _, de, ma, wi, rfl, B5, by omega, by omega, by omega, by omega, by omega, by omega, fun H6 v f c6 B6 hf ok => ?_⟩
    have o1 := ok.dp
    have o2 := ok.sz
    exact q H6 v f ((c3.trans c4).trans ((same_but s5).trans c6)) (B6.mono (by omega)) hf (by omega) (by omega) fun i hi => by
      have := ok.ins i hi
      omega
theorem wd_in {w : Str} (h : w ≠ "in") : decide (V.str w = V.str "in") = false := decide_eq_false fun e => h (V.str.inj e)
theorem not_whole {v : V} {us : List V} : ¬ (HT.sIx (v :: us).length 0 (some 1) = 0 ∧ HT.sIx (v :: us).length (v :: us).length none = (v :: us).length) := by
  rintro ⟨e, _⟩
  rw [show (1 : Int) = ((1 : Nat) : Int) from rfl, HT.sIx_nat] at e
  simp at e
def spr__law_inputs (d : Nat) (_ : PySem.W.Frag) : Sp := fun vs H Q _ => ∃ f v, vs = [v] ∧ FmAt H f v ∧ f.dep ≤ d ∧ f.sz ≤ 100 ∧
  ∀ H' p, Same H H' → H p = none → H' p = some (.lst ((f.ins.map fun (i : Nat) => (i : Int)).map V.int)) → Q (.ref p) H'
theorem no__law_inputs {K : PySem.W.Frag} {vs : List V} {H : Hp} {Q : VK} {E : XK} (h : spr__law_inputs 0 K vs H Q E) : False := by
  obtain ⟨f, v, _, _, z, _⟩ := h
  have := f.dep_pos
  omega
def insN (fs : List Fm) : List Int := ((fs.map Fm.ins).flatten).map fun (i : Nat) => (i : Int)
theorem insN_snoc (fs : List Fm) (f : Fm) : insN (fs ++ [f]) = insN fs ++ f.ins.map fun (i : Nat) => (i : Int) := by
  unfold insN
  rw [List.map_append, List.flatten_append, List.map_append]
  simp
theorem insN_le {f : Fm} (i : Nat) : (insN (f.sds.take i)).length ≤ f.sz := by
  unfold insN
  rw [List.length_map]
  have a : ((f.sds.take i).map Fm.ins).flatten.length ≤ (f.sds.map Fm.ins).flatten.length := by
    conv => rhs; rw [← List.take_append_drop i f.sds, List.map_append, List.flatten_append, List.length_append]
    exact Nat.le_add_right _ _
  have b := f.ins_len
  by_cases h : f.word = "in"
  · cases f with
    | inp j =>
      rw [show (Fm.inp j).sds.take i = [] by simp [Fm.sds]]
      exact Nat.zero_le _
    | _ => exact absurd h (by simp only [Fm.word]; decide +kernel)
  · rw [Fm.sds_ins h] at a
    omega
/-! two lists of the same numbers -/
theorem dp_ints {K : PySem.W.Frag} {H : Hp} : ∀ ns : List Int, DpAll K H (ns.map V.int) (ns.map PyData.int)
  | [] => .nil
  | x :: r => .cons (.int x) (dp_ints r)
theorem sh_ints (ns : List Int) : SeqAt.shaped (.list (ns.map PyData.int)) = true := by
  have h1 : PyData.canLayAll0 (ns.map PyData.int) = true := by
    induction ns with
    | nil => rfl
    | cons x r ih =>
      show (PyData.canLay0 (.int x) && PyData.canLayAll0 (r.map PyData.int)) = true
      rw [ih]
      rfl
  have h2 : PyData.depthAll (ns.map PyData.int) = 0 := by
    induction ns with
    | nil => rfl
    | cons x r ih =>
      show max (PyData.depth (.int x)) (PyData.depthAll (r.map PyData.int)) = 0
      rw [ih (by
        have : (PyData.canLay0 (.int x) && PyData.canLayAll0 (r.map PyData.int)) = true := h1
        exact (Bool.and_eq_true_iff.mp this).2)]
      rfl
  show (PyData.canLayAll0 (ns.map PyData.int) && decide (PyData.depthAll (ns.map PyData.int) + 1 ≤ 64)) = true
  rw [h1, h2]
  rfl
theorem eqv_ints (ns : List Int) : PyData.eqv (.list (ns.map PyData.int)) (.list (ns.map PyData.int)) = true := by
  have : PyData.eqvAll (ns.map PyData.int) (ns.map PyData.int) = true := by
    induction ns with
    | nil => rfl
    | cons x r ih =>
      show (PyData.eqv (.int x) (.int x) && PyData.eqvAll (r.map PyData.int) (r.map PyData.int)) = true
      rw [ih]
      show ((x == x) && true) = true
      simp
  exact this
theorem neL {K : PySem.W.Frag} {H : Hp} {a b : Addr} {ns ms : List Int} (ha : H a = some (.lst (ns.map V.int))) (hb : H b = some (.lst (ms.map V.int))) (e : ns = ms) {Q : VK} (q : Q (.bl false) H) : rNeD K (.ref a) (.ref b) H Q := by
  subst e
  refine ⟨_, _, .lst (SqL.mk ha) (dp_ints ns), .lst (SqL.mk hb) (dp_ints ns), sh_ints ns, sh_ints ns, ?_⟩
  rw [eqv_ints]
  exact q
/-! things whose text is short -/
mutual
def lvs (k : Nat) : PyData → Bool
  | .none | .bool _ => true
  | .int i => decide (i.natAbs < 10 ^ k)
  | .str x => x.cps.toList.all fun c => decide (c < 16 ^ 8)
  | .list xs | .tuple xs => lvsA k xs
  | .dict _ => false
def lvsA (k : Nat) : List PyData → Bool
  | [] => true
  | x :: xs => lvs k x && lvsA k xs
end
theorem log_sm {n k : Nat} (hk : k ≤ 400) (h : n < 10 ^ k) : n.log2 < 1920 := by
  by_cases z : n = 0
  · rw [z]
    decide
  · rw [Nat.log2_lt z]
    refine Nat.lt_of_lt_of_le h (Nat.le_trans (Nat.pow_le_pow_left (show 10 ≤ 2 ^ 4 by decide) k) ?_)
    rw [← Nat.pow_mul]
    exact Nat.pow_le_pow_right (by decide) (by omega)
theorem shown_k {i : Int} {k : Nat} (k0 : 0 < k) (h : i.natAbs < 10 ^ k) : (PyData.shown (.int i)).length ≤ k + 1 := by
  have e := int_text_length_le10 (k := k) k0 h
  show (Str.ofString (toString i)).length ≤ k + 1
  rw [PySem.ofString_length]
  exact e
mutual
theorem lvs_show {k : Nat} (k0 : 0 < k) (hk : k ≤ 400) : ∀ d : PyData, lvs k d = true → d.showable = true ∧ d.hasDict = false ∧ d.leavesShort (k + 1) = true
  | .none, _ => ⟨rfl, rfl, rfl⟩
  | .bool _, _ => ⟨rfl, rfl, rfl⟩
  | .int i, h => by
    have h1 : i.natAbs < 10 ^ k := by simpa only [lvs, decide_eq_true_eq] using h
    refine ⟨?_, rfl, ?_⟩
    · simp only [PyData.showable]
      exact decide_eq_true (log_sm hk h1)
    · simp only [PyData.leavesShort]
      exact decide_eq_true (shown_k k0 h1)
  | .str x, h => ⟨rfl, rfl, by simpa only [PyData.leavesShort, lvs] using h⟩
  | .list xs, h => by
    have := lvsA_show k0 hk xs (by simpa only [lvs] using h)
    simpa only [PyData.showable, PyData.hasDict, PyData.leavesShort] using this
  | .tuple xs, h => by
    have := lvsA_show k0 hk xs (by simpa only [lvs] using h)
    simpa only [PyData.showable, PyData.hasDict, PyData.leavesShort] using this
  | .dict _, h => by simp only [lvs] at h; exact nomatch h
theorem lvsA_show {k : Nat} (k0 : 0 < k) (hk : k ≤ 400) : ∀ xs : List PyData, lvsA k xs = true → PyData.showableAll xs = true ∧ PyData.hasDictAll xs = false ∧ PyData.leavesShortAll (k + 1) xs = true
  | [], _ => ⟨rfl, rfl, rfl⟩
  | x :: xs, h => by
    have h' : lvs k x = true ∧ lvsA k xs = true := by simpa only [lvsA, Bool.and_eq_true] using h
    obtain ⟨a1, a2, a3⟩ := lvs_show k0 hk x h'.1
    obtain ⟨b1, b2, b3⟩ := lvsA_show k0 hk xs h'.2
    simp only [PyData.showableAll, PyData.hasDictAll, PyData.leavesShortAll, a1, a2, a3, b1, b2, b3]
    exact ⟨rfl, rfl, rfl⟩
end
structure Sho (d : PyData) : Prop where
  s : d.showable = true
  n : d.hasDict = false
  dp : d.depth ≤ 60
  len : d.shown.length ≤ sizeLine
theorem sho_of {k : Nat} {d : PyData} (k0 : 7 ≤ k) (hk : k ≤ 400) (h : lvs k d = true) (dp : d.depth ≤ 60) (w : (k + 3) * d.weight ≤ 16000000) : Sho d := by
  obtain ⟨a, b, c⟩ := lvs_show (by omega) hk d h
  refine ⟨a, b, dp, ?_⟩
  have e : d.shown.length ≤ (k + 3) * d.weight + (k + 1) := PyData.shown_le (k + 1) (by omega) d c
  rw [sizeLine_eq]
  omega
theorem lvsA_of {k : Nat} : ∀ ds : List PyData, (∀ d, d ∈ ds → lvs k d = true) → lvsA k ds = true
  | [], _ => rfl
  | d :: ds, h => by
    simp only [lvsA, Bool.and_eq_true]
    exact ⟨h d List.mem_cons_self, lvsA_of ds fun x hx => h x (List.mem_cons_of_mem _ hx)⟩
theorem depA_of {n : Nat} : ∀ ds : List PyData, (∀ d, d ∈ ds → d.depth ≤ n) → PyData.depthAll ds ≤ n
  | [], _ => Nat.zero_le _
  | d :: ds, h => by
    have := h d List.mem_cons_self
    have := depA_of ds fun x hx => h x (List.mem_cons_of_mem _ hx)
    simp only [PyData.depthAll]
    omega
theorem weiA_of {n : Nat} : ∀ ds : List PyData, (∀ d, d ∈ ds → d.weight ≤ n) → PyData.weightAll ds ≤ ds.length * (n + 1)
  | [], _ => Nat.zero_le _
  | d :: ds, h => by
    have := h d List.mem_cons_self
    have := weiA_of ds fun x hx => h x (List.mem_cons_of_mem _ hx)
    simp only [PyData.weightAll, List.length_cons, Nat.add_mul, Nat.one_mul]
    omega
/-- short things: their leaves, depth and weight -/
structure Shs (k n w : Nat) (d : PyData) : Prop where
  l : lvs k d = true
  dp : d.depth ≤ n
  wt : d.weight ≤ w
theorem shs_all {k n w : Nat} {ds : List PyData} (h : ∀ d, d ∈ ds → Shs k n w d) : Shs k (n + 1) (ds.length * (w + 1)) (.list ds) ∧ Shs k (n + 1) (ds.length * (w + 1)) (.tuple ds) := by
  have a := lvsA_of ds fun d hd => (h d hd).l
  have b := depA_of ds fun d hd => (h d hd).dp
  have c := weiA_of ds fun d hd => (h d hd).wt
  refine ⟨⟨by simpa only [lvs] using a, ?_, by simpa only [PyData.weight] using c⟩, ⟨by simpa only [lvs] using a, ?_, by simpa only [PyData.weight] using c⟩⟩
  · simp only [PyData.depth]
    omega
  · simp only [PyData.depth]
    omega
theorem Shs.mono {k n m w v : Nat} {d : PyData} (h : Shs k n w d) (a : n ≤ m) (b : w ≤ v) : Shs k m v d := ⟨h.l, Nat.le_trans h.dp a, Nat.le_trans h.wt b⟩
theorem Shs.sho {k n w : Nat} {d : PyData} (h : Shs k n w d) (k0 : 7 ≤ k) (hk : k ≤ 400) (hn : n ≤ 60) (hw : (k + 3) * w ≤ 16000000) : Sho d := sho_of k0 hk h.l (Nat.le_trans h.dp hn) (Nat.le_trans (Nat.mul_le_mul_left _ h.wt) hw)
theorem shs_int {k : Nat} {i : Int} (h : i.natAbs < 10 ^ k) : Shs k 0 (4 * k + 1) (.int i) := by
  refine ⟨?_, ?_, ?_⟩
  · simp only [lvs]
    exact decide_eq_true h
  · simp only [PyData.depth]
    decide
  · simp only [PyData.weight]
    split
    · exact Nat.zero_le _
    · rename_i z
      have z1 : i.natAbs ≠ 0 := fun e => z (by rw [Int.natAbs_eq_zero.mp e]; rfl)
      have := (Nat.log2_lt (k := 4 * k) z1).mpr (Nat.lt_of_lt_of_le h (by
        rw [Nat.pow_mul]
        exact Nat.pow_le_pow_left (by decide) k))
      omega
theorem sho_ints {ns : List Int} (h : ∀ n, n ∈ ns → n.natAbs < 10 ^ 12) (l : ns.length ≤ 20000) : Sho (.list (ns.map .int)) ∧ Sho (.tuple (ns.map .int)) := by
  obtain ⟨a, b⟩ := shs_all (k := 12) (n := 0) (w := 49) (ds := ns.map .int) (fun d hd => by
    obtain ⟨n, hn, rfl⟩ := List.mem_map.mp hd
    exact shs_int (h n hn))
  rw [List.length_map] at a b
  exact ⟨a.sho (by decide) (by decide) (by decide) (by omega), b.sho (by decide) (by decide) (by decide) (by omega)⟩
theorem shs_str {k : Nat} {x : Str} (h : (x.cps.toList.all fun c => decide (c < 16 ^ 8)) = true) (w : x.cps.size ≤ 12) : Shs k 0 12 (.str x) := ⟨by simpa only [lvs] using h, by simp only [PyData.depth]; decide, by simpa only [PyData.weight] using w⟩
theorem shs_non {k : Nat} : Shs k 0 0 .none := ⟨rfl, by simp only [PyData.depth]; decide, by simp only [PyData.weight]; decide⟩
/-! a promise where no text of a thing is being made -/
structure GOk (P : Program) (w : World) (K : PySem.W.Frag) (mg : Str → Option Value) (base : Heap) (CX : CXT) (k : Nat) (f : Addr) (fd : FuncData) (ps : List Str) (sp : Sp) : Prop where
  len : ∀ vs H Q E, sp vs H Q E → vs.length = ps.length
  run : ∀ (A : Around) (outer : List Env) (s : Shared) (H : Hp) (args : Args) (us : List Value) (vs : List V) (Q : VK) (E : XK), A.guards = some [] → Room k A → Env0 P w K mg base A outer s H → BindsTo s fd args (ps.zip us) → Vals vs us → sp vs H Q E →
    codeAny (model P w) A (.call (.ref f) args) (CR CX outer P w H s Q E) s
theorem gok_of {CX : CXT} {P : Program} {w : World} {K : PySem.W.Frag} {mg : Str → Option Value} {base : Heap} {k : Nat} {x : Str} {st : Stmt} {f : Addr} {fd : FuncData} {N ps : List Str} {sp : Sp} (F : FnP K x st f fd) (S : FnScope N ps (defScope st)) (len : ∀ vs H Q E, sp vs H Q E → vs.length = ps.length)
    (hb : ∀ (cdv : Value) (A : Around) (outer : List Env) (s : Shared) (H : Hp) (vs : List V) (Q : VK) (E : XK), A.guards = some [] → Room k (A.deeper (envOfC x (defScope st) s.heap.objs.size f cdv)) → sp vs H Q E →
      ∃ t, PSs (cxOf CX P w K mg base N x (defScope st) f cdv A outer s H E) (defBody st) t ∧ t { nx := fun _ H' => Q .non H', rt := Q } (L2.start N vs) H) : GOk P w K mg base CX (k + 1) f fd ps sp := by
  obtain ⟨oc, od, dV, kV, doc, pm, an, cdv, ct, osl, rfl, lk, hcd, _, _⟩ := F.ex
  refine ⟨len, fun A outer s H args us vs Q E hg hr e0 bd rv hsp => ?_⟩
  have kept : ∀ b o, base.get? b = some o → s.heap.get? b = some o := fun b o e => (e0.bs b o e).1
  have KX : K.In s.heap := e0.mod.kin.keeps kept
  have kinds : ∀ y ∈ ps.zip us, (defScope st).names.lookup y.1 = some .local ∨ ((defScope st).names.lookup y.1 = some .cell ∧ ((cellsFrom (s.heap.objs.size + 1) (defScope st).names []).lookup y.1).isSome = true) := fun y hy =>
    (S.par y.1 (List.of_mem_zip (show (y.1, y.2) ∈ ps.zip us from hy)).1).imp id fun q => ⟨q, PySem.W.cellsFrom_some _ _ _ (.inl q)⟩
  refine codeAny_call_function hr.depth (KX _ _ lk) rfl S.co S.gen rfl (PySem.W.codeRec_of KX hcd) (bd _ _ _ _ (wpAny_newFunctionEnv_cells S.kind kinds fun env he s1 x1 => ?_))
  subst he
  refine ⟨(e0.mod.nolimit.keeps kept).keeps x1.toInCall.keep, codeAny_func ?_⟩
  obtain ⟨t, ht, hq⟩ := hb cdv A outer s H vs Q E hg (hr.deeper _) hsp
  have I := inv_start (CX := CX) (E := E) S hr.hd e0 (len _ _ _ _ hsp) rv x1
  refine wpAny_mono (ht.run [] s1 (L2.start N vs) H _ I hq) (fun fl s' hs => ?_) fun e s' hs => hs
  cases fl with
  | ret u =>
    obtain ⟨v, σ', H', J, r', q⟩ := hs
    exact ⟨v, H', J.os, J.bare, J.base, J.hok, r', q⟩
  | next =>
    obtain ⟨σ', H', J, q⟩ := hs
    exact ⟨V.non, H', J.os, J.bare, J.base, J.hok, rfl, q⟩
  | brk =>
    obtain ⟨_, _, _, q⟩ := hs
    exact q.elim
  | cont =>
    obtain ⟨_, _, _, q⟩ := hs
    exact q.elim
/-- the state ahead of the law's call: the script is tracked, or one of the module's own things -/
theorem env_ahead {P : Program} {w : World} {K : PySem.W.Frag} {mg mb : Str → Option Value} {a : Addr} {s : Shared} {vs : List Value} {ns : List Int} (KX : K.In s.heap) (hns : s.heap.Ns mainGlobals mg) (hb : s.heap.Ns builtinsNs mb)
    (hbb : ∀ x : Str, x ≠ "__name__" → mb x = bootBuiltins x) (hlim : s.heap.NoLimit) (hg : s.gens = #[]) (ha : s.heap.get? a = some { cls := .type "list", data := .seq vs.toArray }) (hi : IntsAre vs ns) (hl : ns.length ≤ sizeLine) :
    ∃ H : Hp, Only H ∧ SqL K H a (ns.map V.int) ∧ HOk P w H s.heap ∧ K.In (hidT s.heap H) ∧ (hidT s.heap H).Ns mainGlobals mg ∧ Env0 P w K mg (hidT s.heap H) callerA [] s H := by
  have rv := vals_ints hi
  have go : ∀ H : Hp, Only H → SqL K H a (ns.map V.int) → HOk P w H s.heap → (∀ b, H b ≠ none → b = a ∧ K.lookup a = none) → ∃ H : Hp, Only H ∧ SqL K H a (ns.map V.int) ∧ HOk P w H s.heap ∧ K.In (hidT s.heap H) ∧ (hidT s.heap H).Ns mainGlobals mg ∧ Env0 P w K mg (hidT s.heap H) callerA [] s H := fun H hO hS hok hA => by
    have free : ∀ {b : Addr}, (b = a → False) → H b = none := fun {b} nb => Classical.byContradiction fun z => nb (hA b z).1
    have Kb : K.In (hidT s.heap H) := fun b o e => hidT_get (KX b o e) (Classical.byContradiction fun z => by
      obtain ⟨rfl, n⟩ := hA b z
      rw [n] at e
      cases e)
    have nsb : ∀ {b : Addr} {m : Str → Option Value}, s.heap.Ns b m → (hidT s.heap H).Ns b m := fun {b m} h => by
      obtain ⟨o, es, ep, e, d, r⟩ := h
      refine ⟨o, es, ep, hidT_get e (free fun z => ?_), d, r⟩
      rw [z, ha] at e
      cases e
      cases d
    refine ⟨H, hO, hS, hok, Kb, nsb hns, rfl, ⟨Kb, nsb hns, ⟨mb, nsb hb, hbb⟩, ?_⟩, fun b o e => of_hidT e, Nat.le_of_eq (hidT_size _ _), trivial, fun b z => (by cases z), hok, .of_eq hg⟩
    obtain ⟨mc, h1, h2⟩ := hlim
    exact ⟨mc, nsb h1, h2⟩
  cases hk : K.lookup a with
  | some o =>
    have e := KX a o hk
    rw [ha] at e
    cases e
    exact go (fun _ => none) (fun _ => .inl rfl) (.inr ⟨_, vs.toArray, _, hk, rfl, rfl, rfl, by rw [List.size_toArray, hi.length]; exact hl, by simpa using rv⟩) (fun b u z => by cases z) (fun b z => absurd rfl z)
  | none =>
    refine go (fun b => if b = a then some (.frz { cls := .type "list", data := .seq vs.toArray } (.lst (ns.map V.int))) else none) (fun b => ?_) (.inl (.inr ⟨_, if_pos rfl⟩)) (fun b u z => ?_) (fun b z => ?_)
    · by_cases e : b = a
      · exact .inr ⟨_, _, if_pos e⟩
      · exact .inl (if_neg e)
    · by_cases e : b = a
      · cases (if_pos e).symm.trans z
        subst e
        exact ⟨ha, by rw [List.length_map]; exact hl, vs, _, rv, ha⟩
      · cases (if_neg e).symm.trans z
    · by_cases e : b = a
      · exact ⟨e, hk⟩
      · exact absurd (if_neg e) z
theorem walk_ofG {l : PySem.W.OpenLaw} {n k : Nat} {q : Program} {loose : List Str} {XP : (Str → Option Value) → Heap → Prop} {YP : World → Heap → Prop} {d : DefRec} {x : Str}
    (hn : l.most = some n) (hn2 : n ≤ sizeLine) (hdf : d.params.defaults = []) (hr : Room k callerA)
    (F : ∀ (w : World) (mg : Str → Option Value) (fa : Addr) (h : Heap), YP w h → h.Ns mainGlobals mg → mg d.name = some (.ref fa) →
      ∃ (K : PySem.W.Frag) (fd : FuncData) (sp : Sp), K.In h ∧ (∀ (s : Shared) (u : Value), BindsTo s fd ⟨[u], []⟩ [(x, u)]) ∧
        (∀ (H : Hp) (a : Addr) (ns : List Int), ns.length ≤ n → Only H → SqL K H a (ns.map V.int) → sp [.ref a] H (fun v _ => v = .bl true) fun _ _ _ => False) ∧
        ∀ base : Heap, K.In base → base.Ns mainGlobals mg → GOk l.prog w K mg base CX0 k fa fd [x] sp) :
    PySem.W.WalkO q loose XP YP l.row.toRowW d [] (fun f vs => PySem.call f vs) := by
  refine Att.attach_call hn hdf fun w s₀ s₁ mg mb fa o pm cd doc a vs ns G Y ho hd hcd hmg hobj hints hlen hg => ?_
  obtain ⟨K, fd, sp, KX, hbd, hsp, hF⟩ := F w mg fa _ Y G.T.g hmg
  obtain ⟨H, hO, hS, hok, Kb, nb, e0⟩ := env_ahead (P := l.prog) (w := w) KX G.T.g G.T.b G.T.builtins G.T.nolimit hg hobj hints (Nat.le_trans hlen hn2)
  refine codeAny_mono ((hF _ Kb nb).run callerA [] s₁ H ⟨[.ref a], []⟩ [.ref a] [.ref a] _ _ rfl hr e0 (hbd s₁ (.ref a)) (.cons rfl .nil) (hsp H a ns hlen hO hS)) fun r s' h => ?_
  match r, h with
  | .ok (.ret u), h =>
    obtain ⟨v, H', os, bare, un, hok', r', q⟩ := h
    have q : v = .bl true := q
    subst q
    obtain rfl : u = Value.bool true := r'
    refine ⟨rfl, OldK.of_keep fun b o e => ?_, os, bare⟩
    rcases hO b with z | ⟨ob, xs, z⟩
    · exact un.keep b o e z (by intro y; cases y) (by simp)
    · obtain ⟨e1, _⟩ := hok b _ z
      obtain ⟨e2, _⟩ := hok' b _ (un.frzs b ob _ z)
      rw [e] at e1
      cases e1
      exact e2
  | .ok .next, h => exact False.elim h
  | .ok .brk, h => exact False.elim h
  | .ok .cont, h => exact False.elim h
  | .error e, h => exact False.elim h
/-- repr(x) of a list or tuple -/
def rRepr (K : PySem.W.Frag) : List V → Hp → VK → Prop := fun xs H Q => ∃ a d, xs = [.ref a] ∧ Dp K H (.ref a) d ∧ Sho d ∧ Q (.str d.shown) H
theorem cr_repr {X : Cx} (hg : X.A.guards = some []) (hu : X.A.units + 65 < cLine) : CallR X (.builtin "repr") (rRepr X.K) := by
  intro pins s σ H vs us Q I r h
  obtain ⟨a, d, rfl, hd, ⟨sh, nd, dd, sz⟩, q⟩ := h
  rw [Vals.ref1 r]
  obtain ⟨as, rd⟩ := Dp.reads I d (.ref a) (.ref a) hd rfl
  refine repr_of_reads' rd sh (fun z => by rw [nd] at z; cases z) hg (by omega) (fun _ _ e => e) (fun h' u tk hk => ?_) sz
  exact ⟨.str d.shown, H, I.kept (t' := tk) hk, ⟨_, rfl⟩, q⟩
theorem u65g {k : Nat} {A : Around} (r : Room k A) : A.units + 65 < cLine := by
  have := r.un
  omega
/-! texts of formulas and of what is told of them -/
def Fm.data : Fm → PyData
  | .inp i => .tuple [.str "in", .int (i : Nat)]
  | .less f => .tuple [.str "less", f.data]
  | .both f g => .tuple [.str "both", f.data, g.data]
  | .either f g => .tuple [.str "either", f.data, g.data]
  | .oneof f g => .tuple [.str "oneof", f.data, g.data]
  | .pick f g h => .tuple [.str "pick", f.data, g.data, h.data]
theorem fm_dp {K : PySem.W.Frag} {H : Hp} : ∀ {f : Fm} {v : V}, FmAt H f v → Dp K H v f.data
  | .inp i, _, ⟨_, rfl, h⟩ => .tup (SqT.mk h) (.cons (.str _) (.cons (.int _) .nil))
  | .less f, _, ⟨_, _, rfl, h, h1⟩ => .tup (SqT.mk h) (.cons (.str _) (.cons (fm_dp h1) .nil))
  | .both f g, _, ⟨_, _, _, rfl, h, h1, h2⟩ => .tup (SqT.mk h) (.cons (.str _) (.cons (fm_dp h1) (.cons (fm_dp h2) .nil)))
  | .either f g, _, ⟨_, _, _, rfl, h, h1, h2⟩ => .tup (SqT.mk h) (.cons (.str _) (.cons (fm_dp h1) (.cons (fm_dp h2) .nil)))
  | .oneof f g, _, ⟨_, _, _, rfl, h, h1, h2⟩ => .tup (SqT.mk h) (.cons (.str _) (.cons (fm_dp h1) (.cons (fm_dp h2) .nil)))
  | .pick f g k, _, ⟨_, _, _, _, rfl, h, h1, h2, h3⟩ => .tup (SqT.mk h) (.cons (.str _) (.cons (fm_dp h1) (.cons (fm_dp h2) (.cons (fm_dp h3) .nil))))
theorem shs_t {k n w : Nat} {ds : List PyData} (a : lvsA k ds = true) (b : PyData.depthAll ds ≤ n) (c : PyData.weightAll ds ≤ w) : Shs k (n + 1) w (.tuple ds) := ⟨by simpa only [lvs] using a, by simp only [PyData.depth]; omega, by simpa only [PyData.weight] using c⟩
theorem wd_ok (s : Str) (h : (s.cps.toList.all fun c => decide (c < 16 ^ 8)) = true) (w : s.cps.size ≤ 12) : Shs 12 0 12 (.str s) := shs_str h w
theorem s_in : Shs 12 0 12 (.str "in") := wd_ok _ (by decide +kernel) (by decide +kernel)
theorem s_less : Shs 12 0 12 (.str "less") := wd_ok _ (by decide +kernel) (by decide +kernel)
theorem s_both : Shs 12 0 12 (.str "both") := wd_ok _ (by decide +kernel) (by decide +kernel)
theorem s_either : Shs 12 0 12 (.str "either") := wd_ok _ (by decide +kernel) (by decide +kernel)
theorem s_oneof : Shs 12 0 12 (.str "oneof") := wd_ok _ (by decide +kernel) (by decide +kernel)
theorem s_pick : Shs 12 0 12 (.str "pick") := wd_ok _ (by decide +kernel) (by decide +kernel)
theorem shs_2 {k n w v m : Nat} {a b : PyData} (h : Shs k 0 w a) (g : Shs k n v b) (e : w + v + 2 ≤ m) : Shs k (n + 1) m (.tuple [a, b]) := shs_t (by simp only [lvsA, h.l, g.l]; rfl) (by have := h.dp; have := g.dp; simp only [PyData.depthAll]; omega) (by have := h.wt; have := g.wt; simp only [PyData.weightAll]; omega)
theorem shs_3 {k n w v u m : Nat} {a b c : PyData} (h : Shs k 0 w a) (g : Shs k n v b) (j : Shs k n u c) (e : w + v + u + 3 ≤ m) : Shs k (n + 1) m (.tuple [a, b, c]) := shs_t (by simp only [lvsA, h.l, g.l, j.l]; rfl) (by have := h.dp; have := g.dp; have := j.dp; simp only [PyData.depthAll]; omega) (by have := h.wt; have := g.wt; have := j.wt; simp only [PyData.weightAll]; omega)
theorem shs_4 {k n w v u x m : Nat} {a b c d : PyData} (h : Shs k 0 w a) (g : Shs k n v b) (j : Shs k n u c) (i : Shs k n x d) (e : w + v + u + x + 4 ≤ m) : Shs k (n + 1) m (.tuple [a, b, c, d]) := shs_t (by simp only [lvsA, h.l, g.l, j.l, i.l]; rfl) (by have := h.dp; have := g.dp; have := j.dp; have := i.dp; simp only [PyData.depthAll]; omega) (by have := h.wt; have := g.wt; have := j.wt; have := i.wt; simp only [PyData.weightAll]; omega)
theorem fm_shs : ∀ {f : Fm}, (∀ i, i ∈ f.ins → i < 6) → Shs 12 f.dep (80 * f.sz) f.data
  | .inp i, h => shs_2 s_in (shs_int (i := (i : Int)) (by have := h i List.mem_cons_self; omega)) (by simp only [Fm.sz]; decide)
  | .less f, h => shs_2 s_less (fm_shs (f := f) h) (by simp only [Fm.sz]; omega)
  | .both f g, h => by
    have a := fm_shs (f := f) fun i hi => h i (List.mem_append_left _ hi)
    have b := fm_shs (f := g) fun i hi => h i (List.mem_append_right _ hi)
    exact shs_3 s_both (a.mono (Nat.le_max_left _ _) (Nat.le_refl _)) (b.mono (Nat.le_max_right _ _) (Nat.le_refl _)) (by simp only [Fm.sz]; omega)
  | .either f g, h => by
    have a := fm_shs (f := f) fun i hi => h i (List.mem_append_left _ hi)
    have b := fm_shs (f := g) fun i hi => h i (List.mem_append_right _ hi)
    exact shs_3 s_either (a.mono (Nat.le_max_left _ _) (Nat.le_refl _)) (b.mono (Nat.le_max_right _ _) (Nat.le_refl _)) (by simp only [Fm.sz]; omega)
  | .oneof f g, h => by
    have a := fm_shs (f := f) fun i hi => h i (List.mem_append_left _ hi)
    have b := fm_shs (f := g) fun i hi => h i (List.mem_append_right _ hi)
    exact shs_3 s_oneof (a.mono (Nat.le_max_left _ _) (Nat.le_refl _)) (b.mono (Nat.le_max_right _ _) (Nat.le_refl _)) (by simp only [Fm.sz]; omega)
  | .pick f g k, h => by
    have a := fm_shs (f := f) fun i hi => h i (List.mem_append_left _ hi)
    have b := fm_shs (f := g) fun i hi => h i (List.mem_append_right _ (List.mem_append_left _ hi))
    have c := fm_shs (f := k) fun i hi => h i (List.mem_append_right _ (List.mem_append_right _ hi))
    exact shs_4 s_pick (a.mono (Nat.le_max_left _ _) (Nat.le_refl _)) (b.mono (Nat.le_trans (Nat.le_max_left _ _) (Nat.le_max_right _ _)) (Nat.le_refl _)) (c.mono (Nat.le_trans (Nat.le_max_right _ _) (Nat.le_max_right _ _)) (Nat.le_refl _)) (by simp only [Fm.sz]; omega)
/-! which things are formulas: their parts, how many and how deep -/
def sideN (z : Str) : Option Int := dl_SIDES.lookup z
def okArg : List PyData → Bool
  | [.int i] => decide (0 ≤ i ∧ i ≤ 5)
  | _ => false
def wordOf : PyData → Option Str
  | .str z => some z
  | _ => none
mutual
def well : PyData → Bool
  | .tuple xs => wellT xs
  | _ => false
def wellT : List PyData → Bool
  | [] => false
  | x :: xs => match wordOf x with
    | some z => if z = "in" then okArg xs else (decide (sideN z = some (xs.length : Int)) && wellA xs)
    | none => false
def wellA : List PyData → Bool
  | [] => true
  | x :: xs => well x && wellA xs
end
mutual
def siz : PyData → Nat
  | .tuple xs => sizT xs
  | _ => 1
def sizT : List PyData → Nat
  | [] => 1
  | x :: xs => match wordOf x with
    | some z => if z = "in" then 1 else 1 + sizA xs
    | none => 1
def sizA : List PyData → Nat
  | [] => 0
  | x :: xs => siz x + sizA xs
end
mutual
def dpt : PyData → Nat
  | .tuple xs => dptT xs
  | _ => 1
def dptT : List PyData → Nat
  | [] => 1
  | x :: xs => match wordOf x with
    | some z => if z = "in" then 1 else 1 + dptA xs
    | none => 1
def dptA : List PyData → Nat
  | [] => 0
  | x :: xs => max (dpt x) (dptA xs)
end
def partD : PyData → Bool
  | .tuple (.str z :: xs) => if z = "in" then okArg xs else decide (sideN z = some (xs.length : Int))
  | _ => false
def sdsD : PyData → List PyData
  | .tuple (.str z :: xs) => if z = "in" then [] else xs
  | _ => []
theorem siz_pos (d : PyData) : 1 ≤ siz d := by
  cases d with
  | tuple xs =>
    cases xs with
    | nil => exact Nat.le_refl _
    | cons x xs =>
      simp only [siz, sizT]
      split
      · split <;> omega
      · exact Nat.le_refl _
  | _ => exact Nat.le_refl _
theorem dpt_pos (d : PyData) : 1 ≤ dpt d := by
  cases d with
  | tuple xs =>
    cases xs with
    | nil => exact Nat.le_refl _
    | cons x xs =>
      simp only [dpt, dptT]
      split
      · split <;> omega
      · exact Nat.le_refl _
  | _ => exact Nat.le_refl _
theorem wellA_all : ∀ {xs : List PyData}, wellA xs = true ↔ ∀ x, x ∈ xs → well x = true
  | [] => ⟨fun _ x hx => (by cases hx), fun _ => rfl⟩
  | x :: xs => by
    simp only [wellA, Bool.and_eq_true, wellA_all (xs := xs)]
    exact ⟨fun h y hy => by
      rcases List.mem_cons.mp hy with rfl | hy
      · exact h.1
      · exact h.2 y hy, fun h => ⟨h x List.mem_cons_self, fun y hy => h y (List.mem_cons_of_mem _ hy)⟩⟩
theorem sizA_sum : ∀ {xs : List PyData}, sizA xs = (xs.map siz).sum
  | [] => rfl
  | x :: xs => by
    simp only [sizA, List.map_cons, List.sum_cons, sizA_sum (xs := xs)]
theorem dptA_le {n : Nat} : ∀ {xs : List PyData}, dptA xs ≤ n ↔ ∀ x, x ∈ xs → dpt x ≤ n
  | [] => ⟨fun _ x hx => (by cases hx), fun _ => Nat.zero_le _⟩
  | x :: xs => by
    have ih := dptA_le (n := n) (xs := xs)
    simp only [dptA]
    exact ⟨fun h y hy => by
      rcases List.mem_cons.mp hy with rfl | hy
      · omega
      · exact ih.mp (by omega) y hy, fun h => by
      have := h x List.mem_cons_self
      have := ih.mpr fun y hy => h y (List.mem_cons_of_mem _ hy)
      omega⟩
theorem part_form {d : PyData} (h : partD d = true) : ∃ z xs, d = .tuple (.str z :: xs) := by
  unfold partD at h
  split at h
  · exact ⟨_, _, rfl⟩
  · cases h
theorem well_eq (d : PyData) : well d = true ↔ partD d = true ∧ ∀ x, x ∈ sdsD d → well x = true := by
  cases d with
  | tuple xs =>
    cases xs with
    | nil => exact ⟨fun h => (by simp only [well, wellT] at h; exact nomatch h), fun h => nomatch h.1⟩
    | cons x xs =>
      cases x with
      | str z =>
        simp only [well, wellT, wordOf, partD, sdsD]
        by_cases e : z = "in"
        · simp only [if_pos e]
          exact ⟨fun h => ⟨h, fun x hx => (by cases hx)⟩, fun h => h.1⟩
        · simp only [if_neg e, Bool.and_eq_true, wellA_all]
      | _ => exact ⟨fun h => (by simp only [well, wellT, wordOf] at h; exact nomatch h), fun h => nomatch h.1⟩
  | _ => exact ⟨fun h => (by simp only [well] at h; exact nomatch h), fun h => nomatch h.1⟩
theorem siz_eq {d : PyData} (h : partD d = true) : siz d = 1 + ((sdsD d).map siz).sum := by
  obtain ⟨z, xs, rfl⟩ := part_form h
  simp only [siz, sizT, wordOf, sdsD]
  by_cases e : z = "in"
  · simp only [if_pos e]
    rfl
  · simp only [if_neg e, sizA_sum]
theorem dpt_le {d : PyData} {n : Nat} (h : partD d = true) : dpt d ≤ n + 1 ↔ ∀ x, x ∈ sdsD d → dpt x ≤ n := by
  obtain ⟨z, xs, rfl⟩ := part_form h
  simp only [dpt, dptT, wordOf, sdsD]
  by_cases e : z = "in"
  · simp only [if_pos e]
    exact ⟨fun _ x hx => (by cases hx), fun _ => by omega⟩
  · simp only [if_neg e]
    rw [← dptA_le]
    omega
theorem sides3 {d : PyData} (h : partD d = true) : (sdsD d).length ≤ 3 := by
  obtain ⟨z, xs, rfl⟩ := part_form h
  simp only [partD] at h
  simp only [sdsD]
  by_cases e : z = "in"
  · simp only [if_pos e]
    exact Nat.zero_le _
  · simp only [if_neg e, decide_eq_true_eq] at h ⊢
    unfold sideN dl_SIDES at h
    simp only [List.lookup] at h
    split at h
    · have := Option.some.inj h; omega
    · split at h
      · have := Option.some.inj h; omega
      · split at h
        · have := Option.some.inj h; omega
        · split at h
          · have := Option.some.inj h; omega
          · split at h
            · have := Option.some.inj h; omega
            · cases h
/-- what waits: things, and how deep they stand -/
def OkW (W : List (PyData × Nat)) (c : Nat) : Prop := (∀ e, e ∈ W → well e.1 = true ∧ e.2 + dpt e.1 ≤ 9) ∧ c + (W.map fun e => siz e.1).sum ≤ 24
theorem ok_step {W : List (PyData × Nat)} {d : PyData} {k c : Nat} (hp : partD d = true) (hk : k ≤ 8) : OkW (W ++ [(d, k)]) c ↔ OkW (W ++ (sdsD d).map fun s => (s, k + 1)) (c + 1) := by
  have e1 : ((W ++ [(d, k)]).map fun e => siz e.1).sum = (W.map fun e => siz e.1).sum + siz d := by
    rw [List.map_append, List.sum_append, List.map_cons, List.map_nil, List.sum_cons, List.sum_nil, Nat.add_zero]
  have e2 : ((W ++ (sdsD d).map fun s => (s, k + 1)).map fun e => siz e.1).sum = (W.map fun e => siz e.1).sum + ((sdsD d).map siz).sum := by
    rw [List.map_append, List.sum_append, List.map_map]
    rfl
  unfold OkW
  rw [e1, e2, siz_eq hp]
  refine ⟨fun ⟨a, b⟩ => ⟨fun e he => ?_, by omega⟩, fun ⟨a, b⟩ => ⟨fun e he => ?_, by omega⟩⟩
  · rcases List.mem_append.mp he with he | he
    · exact a e (List.mem_append_left _ he)
    · obtain ⟨s, hs, rfl⟩ := List.mem_map.mp he
      obtain ⟨w, l⟩ := a (d, k) (List.mem_append_right _ List.mem_cons_self)
      have l : k + dpt d ≤ 9 := l
      have := (dpt_le (n := 8 - k) hp).mp (by omega) s hs
      exact ⟨((well_eq d).mp w).2 s hs, by show k + 1 + dpt s ≤ 9; omega⟩
  · rcases List.mem_append.mp he with he | he
    · exact a e (List.mem_append_left _ he)
    · obtain rfl := List.mem_singleton.mp he
      have q : ∀ s, s ∈ sdsD d → well s = true ∧ k + 1 + dpt s ≤ 9 := fun s hs => a (s, k + 1) (List.mem_append_right _ (List.mem_map.mpr ⟨s, hs, rfl⟩))
      refine ⟨(well_eq d).mpr ⟨hp, fun s hs => (q s hs).1⟩, ?_⟩
      have := (dpt_le (n := 8 - k) hp).mpr fun s hs => by
        have := (q s hs).2
        omega
      show k + dpt d ≤ 9
      omega
theorem ok_no {W : List (PyData × Nat)} {d : PyData} {k c : Nat} (h : c + 1 > 24 ∨ k > 8 ∨ partD d = false) : ¬ OkW (W ++ [(d, k)]) c := fun ⟨a, b⟩ => by
  obtain ⟨w, l⟩ := a (d, k) (List.mem_append_right _ List.mem_cons_self)
  have l : k + dpt d ≤ 9 := l
  have := siz_pos d
  have := dpt_pos d
  rw [List.map_append, List.sum_append, List.map_cons, List.map_nil, List.sum_cons, List.sum_nil] at b
  rcases h with h | h | h
  · have b : c + ((W.map fun e => siz e.1).sum + (siz d + 0)) ≤ 24 := b
    omega
  · omega
  · have := ((well_eq d).mp w).1
    rw [h] at this
    cases this
def isF (d : PyData) : Bool := well d && (decide (siz d < 25) && decide (dpt d < 9))
theorem ok_isF {d : PyData} : OkW [(d, 1)] 0 ↔ isF d = true := by
  unfold OkW isF
  simp only [Bool.and_eq_true, decide_eq_true_eq, List.mem_singleton, List.map_cons, List.map_nil, List.sum_cons, List.sum_nil]
  exact ⟨fun ⟨a, b⟩ => by
    obtain ⟨w, l⟩ := a _ rfl
    have l : 1 + dpt d ≤ 9 := l
    exact ⟨w, by omega, by omega⟩, fun ⟨w, l, m⟩ => ⟨fun e he => by subst he; exact ⟨w, by show 1 + dpt d ≤ 9; omega⟩, by omega⟩⟩
/-! things that are small enough -/
mutual
def gd (k : Nat) : PyData → Bool
  | .none | .bool _ => true
  | .int i => decide (i.natAbs < 10 ^ k)
  | .str x => PyData.strOk x
  | .list xs | .tuple xs => gdA k xs
  | .dict _ => false
def gdA (k : Nat) : List PyData → Bool
  | [] => true
  | x :: xs => gd k x && gdA k xs
end
mutual
theorem gd_lvs {k : Nat} : ∀ d : PyData, gd k d = true → lvs k d = true ∧ d.canLay0 = true
  | .none, _ => ⟨rfl, rfl⟩
  | .bool b, _ => ⟨rfl, rfl⟩
  | .int i, h => ⟨by simpa only [lvs, gd] using h, rfl⟩
  | .str x, h => by
    have h1 : PyData.strOk x = true := by simpa only [gd] using h
    refine ⟨?_, by simpa only [PyData.canLay0] using h1⟩
    simp only [lvs, List.all_eq_true, decide_eq_true_eq]
    intro c hc
    unfold PyData.strOk at h1
    have := Array.all_eq_true_iff_forall_mem.mp h1 c (Array.mem_toList_iff.mp hc)
    have : c < 0x110000 := by simpa using this
    exact Nat.lt_trans this (by decide)
  | .list xs, h => by
    have := gdA_lvs xs (by simpa only [gd] using h)
    simpa only [lvs, PyData.canLay0] using this
  | .tuple xs, h => by
    have := gdA_lvs xs (by simpa only [gd] using h)
    simpa only [lvs, PyData.canLay0] using this
  | .dict _, h => by simp only [gd] at h; exact nomatch h
theorem gdA_lvs {k : Nat} : ∀ xs : List PyData, gdA k xs = true → lvsA k xs = true ∧ PyData.canLayAll0 xs = true
  | [], _ => ⟨rfl, rfl⟩
  | x :: xs, h => by
    have h' : gd k x = true ∧ gdA k xs = true := by simpa only [gdA, Bool.and_eq_true] using h
    have a := gd_lvs x h'.1
    have b := gdA_lvs xs h'.2
    simp only [lvsA, PyData.canLayAll0, a.1, a.2, b.1, b.2]
    exact ⟨rfl, rfl⟩
end
theorem gdA_all {k : Nat} : ∀ {xs : List PyData}, gdA k xs = true ↔ ∀ x, x ∈ xs → gd k x = true
  | [] => ⟨fun _ x hx => (by cases hx), fun _ => rfl⟩
  | x :: xs => by
    simp only [gdA, Bool.and_eq_true, gdA_all (xs := xs)]
    exact ⟨fun h y hy => by
      rcases List.mem_cons.mp hy with rfl | hy
      · exact h.1
      · exact h.2 y hy, fun h => ⟨h x List.mem_cons_self, fun y hy => h y (List.mem_cons_of_mem _ hy)⟩⟩
mutual
theorem gd_mono {k m : Nat} (h : k ≤ m) : ∀ d : PyData, gd k d = true → gd m d = true
  | .none, _ => rfl
  | .bool b, _ => rfl
  | .int i, g => by
    simp only [gd, decide_eq_true_eq] at g ⊢
    exact Nat.lt_of_lt_of_le g (Nat.pow_le_pow_right (by decide) h)
  | .str x, g => by simpa only [gd] using g
  | .list xs, g => by
    have := gdA_mono h xs (by simpa only [gd] using g)
    simpa only [gd] using this
  | .tuple xs, g => by
    have := gdA_mono h xs (by simpa only [gd] using g)
    simpa only [gd] using this
  | .dict _, g => by simp only [gd] at g; exact nomatch g
theorem gdA_mono {k m : Nat} (h : k ≤ m) : ∀ xs : List PyData, gdA k xs = true → gdA m xs = true
  | [], _ => rfl
  | x :: xs, g => by
    have h' : gd k x = true ∧ gdA k xs = true := by simpa only [gdA, Bool.and_eq_true] using g
    simp only [gdA, gd_mono h x h'.1, gdA_mono h xs h'.2]
    rfl
end
structure Bd (k n w : Nat) (d : PyData) : Prop where
  g : gd k d = true
  dp : d.depth ≤ n
  wt : d.weight ≤ w
theorem Bd.mono {k n w m v j : Nat} {d : PyData} (h : Bd k n w d) (c : k ≤ j) (a : n ≤ m) (b : w ≤ v) : Bd j m v d := ⟨gd_mono c d h.g, Nat.le_trans h.dp a, Nat.le_trans h.wt b⟩
theorem Bd.shs {k n w : Nat} {d : PyData} (h : Bd k n w d) : Shs k n w d := ⟨(gd_lvs d h.g).1, h.dp, h.wt⟩
theorem Bd.shaped {k n w : Nat} {d : PyData} (h : Bd k n w d) (hn : n ≤ 64) : SeqAt.shaped d = true := by
  unfold SeqAt.shaped
  rw [(gd_lvs d h.g).2, decide_eq_true (Nat.le_trans h.dp hn)]
  rfl
theorem depA_mem {n : Nat} : ∀ {ds : List PyData} {d : PyData}, d ∈ ds → PyData.depthAll ds ≤ n → d.depth ≤ n
  | x :: xs, d, hd, h => by
    simp only [PyData.depthAll] at h
    rcases List.mem_cons.mp hd with rfl | hd
    · omega
    · exact depA_mem hd (by omega)
theorem weiA_mem : ∀ {ds : List PyData} {d : PyData}, d ∈ ds → d.weight + 1 ≤ PyData.weightAll ds
  | x :: xs, d, hd => by
    simp only [PyData.weightAll]
    rcases List.mem_cons.mp hd with rfl | hd
    · omega
    · have := weiA_mem hd
      omega
/-- the items of a list or tuple that is small enough -/
structure BdA (k n w : Nat) (ds : List PyData) : Prop where
  g : gdA k ds = true
  dp : PyData.depthAll ds ≤ n
  wt : PyData.weightAll ds ≤ w
theorem BdA.get {k n w : Nat} {ds : List PyData} (h : BdA k n w ds) {d : PyData} (hd : d ∈ ds) : Bd k n w d := ⟨gdA_all.mp h.g d hd, depA_mem hd h.dp, by have := weiA_mem hd; have := h.wt; omega⟩
theorem BdA.tup {k n w : Nat} {ds : List PyData} (h : BdA k n w ds) : Bd k (n + 1) w (.tuple ds) := ⟨by simpa only [gd] using h.g, by have := h.dp; simp only [PyData.depth]; omega, by simpa only [PyData.weight] using h.wt⟩
theorem BdA.lst {k n w : Nat} {ds : List PyData} (h : BdA k n w ds) : Bd k (n + 1) w (.list ds) := ⟨by simpa only [gd] using h.g, by have := h.dp; simp only [PyData.depth]; omega, by simpa only [PyData.weight] using h.wt⟩
theorem Bd.itemsT {k n w : Nat} {ds : List PyData} (h : Bd k n w (.tuple ds)) : 1 ≤ n ∧ BdA k (n - 1) w ds := by
  have := h.dp
  simp only [PyData.depth] at this
  exact ⟨by omega, ⟨by simpa only [gd] using h.g, by omega, by simpa only [PyData.weight] using h.wt⟩⟩
theorem Bd.itemsL {k n w : Nat} {ds : List PyData} (h : Bd k n w (.list ds)) : 1 ≤ n ∧ BdA k (n - 1) w ds := by
  have := h.dp
  simp only [PyData.depth] at this
  exact ⟨by omega, ⟨by simpa only [gd] using h.g, by omega, by simpa only [PyData.weight] using h.wt⟩⟩
theorem weiA_app : ∀ (xs ys : List PyData), PyData.weightAll (xs ++ ys) = PyData.weightAll xs + PyData.weightAll ys
  | [], ys => by simp [PyData.weightAll]
  | x :: xs, ys => by
    simp only [List.cons_append, PyData.weightAll, weiA_app xs ys]
    omega
theorem depA_app : ∀ (xs ys : List PyData), PyData.depthAll (xs ++ ys) = max (PyData.depthAll xs) (PyData.depthAll ys)
  | [], ys => by simp [PyData.depthAll]
  | x :: xs, ys => by
    simp only [List.cons_append, PyData.depthAll, depA_app xs ys]
    omega
theorem BdA.app {k n w m v : Nat} {xs ys : List PyData} (h : BdA k n w xs) (g : BdA k m v ys) : BdA k (max n m) (w + v) (xs ++ ys) := by
  refine ⟨gdA_all.mpr fun x hx => ?_, ?_, ?_⟩
  · rcases List.mem_append.mp hx with hx | hx
    · exact gdA_all.mp h.g x hx
    · exact gdA_all.mp g.g x hx
  · have := h.dp
    have := g.dp
    rw [depA_app]
    omega
  · have := h.wt
    have := g.wt
    rw [weiA_app]
    omega
theorem BdA.one {k n w : Nat} {x : PyData} (h : Bd k n w x) : BdA k n (w + 1) [x] := ⟨by simp only [gdA, h.g]; rfl, by have := h.dp; simp only [PyData.depthAll]; omega, by have := h.wt; simp only [PyData.weightAll]; omega⟩
/-- part of the items -/
theorem BdA.part {k n w : Nat} {xs ys zs : List PyData} (h : BdA k n w (xs ++ ys ++ zs)) : BdA k n (PyData.weightAll xs) xs ∧ BdA k n (PyData.weightAll ys) ys ∧ BdA k n (PyData.weightAll zs) zs ∧ PyData.weightAll xs + PyData.weightAll ys + PyData.weightAll zs ≤ w := by
  have a := h.dp
  have b := h.wt
  rw [depA_app, depA_app] at a
  rw [weiA_app, weiA_app] at b
  have c := gdA_all.mp h.g
  exact ⟨⟨gdA_all.mpr fun x hx => c x (List.mem_append_left _ (List.mem_append_left _ hx)), by omega, Nat.le_refl _⟩,
    ⟨gdA_all.mpr fun x hx => c x (List.mem_append_left _ (List.mem_append_right _ hx)), by omega, Nat.le_refl _⟩,
    ⟨gdA_all.mpr fun x hx => c x (List.mem_append_right _ hx), by omega, Nat.le_refl _⟩, b⟩
theorem BdA.mono {k n w m v j : Nat} {d : List PyData} (h : BdA k n w d) (c : k ≤ j) (a : n ≤ m) (b : w ≤ v) : BdA j m v d := ⟨gdA_mono c d h.g, Nat.le_trans h.dp a, Nat.le_trans h.wt b⟩
/-! the program's dict of sides -/
theorem ent_key {e : DictEntry} {z : Str} {i : Int} (h : entI e = some (z, i)) : ∃ t u, e.key = .str z t ∧ e.val = .int i u := by
  unfold entI at h
  split at h
  · rename_i x t j u h1 h2
    cases h
    exact ⟨t, u, h1, h2⟩
  · cases h
theorem ents_find (z : Str) : ∀ (l : List DictEntry) (kvs : List (Str × Int)), l.map entI = kvs.map some →
    l.any (·.refKey) = false ∧ ((kvs.lookup z = none ∧ l.find? (·.key.isStr z) = none) ∨ ∃ i e t, kvs.lookup z = some i ∧ l.find? (·.key.isStr z) = some e ∧ e.val = .int i t)
  | [], [], _ => ⟨rfl, .inl ⟨rfl, rfl⟩⟩
  | [], _ :: _, h => by cases h
  | _ :: _, [], h => by cases h
  | e :: l, (k, i) :: kvs, h => by
    simp only [List.map_cons, List.cons.injEq] at h
    obtain ⟨t, u, h1, h2⟩ := ent_key h.1
    obtain ⟨r, ih⟩ := ents_find z l kvs h.2
    have rk : e.refKey = false := by
      unfold DictEntry.refKey
      rw [h1]
    refine ⟨by rw [List.any_cons, rk, r]; rfl, ?_⟩
    have ek : e.key.isStr z = (k == z) := by rw [h1]; rfl
    rw [List.find?_cons, ek, List.lookup_cons]
    by_cases c : k = z
    · subst c
      refine .inr ⟨i, e, u, ?_, ?_, h2⟩
      · simp
      · simp
    · have c1 : (k == z) = false := beq_false_of_ne c
      have c2 : (z == k) = false := beq_false_of_ne fun e => c e.symm
      rw [c1, c2]
      exact ih
theorem dic_ns {K : PySem.W.Frag} {a : Addr} {kvs : List (Str × Int)} (h : dicB K a kvs = true) (z : Str) : (kvs.lookup z = none ∧ PySem.W.nsIn K a z = some none) ∨ ∃ i t, kvs.lookup z = some i ∧ PySem.W.nsIn K a z = some (some (.int i t)) := by
  unfold dicB at h
  split at h
  · rename_i c d es n sl e
    obtain ⟨r, q⟩ := ents_find z _ _ (of_decide_eq_true h)
    unfold PySem.W.nsIn
    rw [e]
    dsimp only
    rcases q with ⟨h1, h2⟩ | ⟨i, e', t, h1, h2, h3⟩
    · rw [h2, r]
      exact .inl ⟨h1, rfl⟩
    · rw [h2]
      exact .inr ⟨i, t, h1, by rw [← h3]⟩
  · cases h
theorem op_inS {X : Cx} {K' : PySem.W.Frag} {w' : World} [D : DW K' w'] {C : Addr} (hK : X.K = K') (hw : X.w = w') (hC : C = He.ga K' "SIDES") : OpR X (compareOp .In) (fun x y H Q => ∃ z, x = .str z ∧ y = .ref C ∧ Q (.bl (sideN z).isSome) H) := by
  subst hK hw hC
  obtain ⟨es, n, kd⟩ := D.k_SIDES
  intro pins s σ H x y v u Q I rx ry h
  obtain ⟨z, rfl, rfl, q⟩ := h
  rcases dic_ns D.v_SIDES z with ⟨h1, h2⟩ | ⟨i, t, h1, h2⟩
  · refine op_in_kd kd pins s σ H _ _ v u Q I rx ry ⟨z, _, rfl, rfl, h2, ?_⟩
    have e : sideN z = none := h1
    rw [e] at q
    exact q
  · refine op_in_kd kd pins s σ H _ _ v u Q I rx ry ⟨z, _, rfl, rfl, h2, ?_⟩
    have e : sideN z = some i := h1
    rw [e] at q
    exact q
theorem ix_S {X : Cx} {K' : PySem.W.Frag} {w' : World} [D : DW K' w'] {C : Addr} (hK : X.K = K') (hw : X.w = w') (hC : C = He.ga K' "SIDES") : IxR X (fun x y H Q => ∃ z i, x = .ref C ∧ y = .str z ∧ sideN z = some i ∧ Q (.int i) H) := by
  subst hK hw hC
  obtain ⟨es, n, kd⟩ := D.k_SIDES
  intro value slice pins s σ H x y v u Q I rx ry h hs
  obtain ⟨z, i, rfl, rfl, e, q⟩ := h
  have ru := rx
  cases rx
  refine tail_any (kd_type kd I) PySem.slot_dict_getitem.lookup ?_ hs
  rcases dic_ns D.v_SIDES z with ⟨h1, h2⟩ | ⟨j, t, h1, h2⟩
  · have h1 : sideN z = none := h1
    rw [e] at h1
    cases h1
  · have h1 : sideN z = some j := h1
    rw [e] at h1
    cases h1
    exact op_item_kd kd pins s σ H (V.ref (He.ga X.K "SIDES")) (V.str z) _ u Q I ru ry ⟨z, _, .int i, rfl, rfl, h2, ⟨_, rfl⟩, q⟩
/-! texts and numbers -/
theorem op_addS {X : Cx} : OpR X (binaryOp .Add) (fun x y H Q => ∃ a b, x = .str a ∧ y = .str b ∧ a.length + b.length ≤ sizeLine ∧ Q (.str (a ++ b)) H) := by
  intro pins s σ H x y v u Q I rx ry h
  obtain ⟨a, b, rfl, rfl, hz, q⟩ := h
  obtain ⟨t, rfl⟩ := rx
  obtain ⟨t', rfl⟩ := ry
  exact add_str (fun t' tk => ⟨.str _, H, I.tok _, ⟨_, rfl⟩, q⟩) hz
theorem op_mulS {X : Cx} : OpR X (binaryOp .Mult) (fun x y H Q => ∃ a i, x = .str a ∧ y = .int i ∧ (i = 0 ∨ i = 1) ∧ ∀ b, (b = Str.empty ∨ b = a) → Q (.str b) H) := by
  intro pins s σ H x y v u Q I rx ry h
  obtain ⟨a, i, rfl, rfl, h, q⟩ := h
  obtain ⟨t, rfl⟩ := rx
  obtain ⟨t', rfl⟩ := ry
  rcases h with rfl | rfl
  · exact PySem.P.mul_str_none (by decide) (by decide) ⟨.str _, H, I.tok _, ⟨_, rfl⟩, q _ (.inl rfl)⟩
  · refine PySem.P.mul_str (by decide) (fun _ h => ?_) (fun _ h => ?_) ?_
    · simp at h
    · simp at h
    · rw [if_neg (by decide), if_pos (by rfl)]
      exact ⟨.str _, H, I, ⟨_, rfl⟩, q _ (.inr rfl)⟩
def numV (v : V) (i : Int) : Prop := v = .int i ∨ ∃ b, v = .bl b ∧ i = if b = true then 1 else 0
theorem op_addN1 {X : Cx} : OpR X (binaryOp .Add) (fun x y H Q => ∃ i j, numV x i ∧ y = .int j ∧ Q (.int (i + j)) H) := by
  intro pins s σ H x y v u Q I rx ry h
  obtain ⟨i, j, hx, rfl, q⟩ := h
  obtain ⟨t', rfl⟩ := ry
  rcases hx with rfl | ⟨b, rfl, rfl⟩
  · obtain ⟨t, rfl⟩ := rx
    exact add_int ⟨.int _, H, I.tok _, ⟨_, rfl⟩, q⟩
  · cases rx
    exact PySem.IntBool.add_bool_int ⟨.int _, H, I.tok _, ⟨_, rfl⟩, q⟩
theorem op_subN1 {X : Cx} : OpR X (binaryOp .Sub) (fun x y H Q => ∃ i j, numV x i ∧ y = .int j ∧ Q (.int (i - j)) H) := by
  intro pins s σ H x y v u Q I rx ry h
  obtain ⟨i, j, hx, rfl, q⟩ := h
  obtain ⟨t', rfl⟩ := ry
  rcases hx with rfl | ⟨b, rfl, rfl⟩
  · obtain ⟨t, rfl⟩ := rx
    exact sub_int ⟨.int _, H, I.tok _, ⟨_, rfl⟩, q⟩
  · cases rx
    exact PySem.IntBool.sub_bool_int ⟨.int _, H, I.tok _, ⟨_, rfl⟩, q⟩
theorem op_subN2 {X : Cx} : OpR X (binaryOp .Sub) (fun x y H Q => ∃ i j, x = .int i ∧ numV y j ∧ Q (.int (i - j)) H) := by
  intro pins s σ H x y v u Q I rx ry h
  obtain ⟨i, j, rfl, hy, q⟩ := h
  obtain ⟨t, rfl⟩ := rx
  rcases hy with rfl | ⟨b, rfl, rfl⟩
  · obtain ⟨t', rfl⟩ := ry
    exact sub_int ⟨.int _, H, I.tok _, ⟨_, rfl⟩, q⟩
  · cases ry
    exact PySem.IntBool.sub_int_bool ⟨.int _, H, I.tok _, ⟨_, rfl⟩, q⟩
theorem call_strN {X : Cx} : CallR X (.type "str") (fun xs H Q => ∃ x i, xs = [x] ∧ numV x i ∧ i.natAbs.log2 < 1920 ∧ ∀ z : Str, (z = Str.ofString (toString i) ∨ z = "True" ∨ z = "False") → Q (.str z) H) := by
  intro pins s σ H xs us Q I r h
  obtain ⟨x, i, rfl, hx, hz, q⟩ := h
  rcases hx with rfl | ⟨b, rfl, _⟩
  · obtain ⟨u, rfl, t, rfl⟩ := vals1 r
    exact PySem.P.str_of_int hz ⟨.str _, H, I.tok _, ⟨_, rfl⟩, q _ (.inl rfl)⟩
  · obtain ⟨u, rfl, r1⟩ := vals1 r
    cases r1
    exact PySem.P.str_of_bool ⟨.str _, H, I.tok _, ⟨_, rfl⟩, q _ (by cases b <;> simp)⟩
theorem call_lenX {X : Cx} : CallR X (.builtin "len") (fun xs H Q => (∃ z, xs = [.str z] ∧ z.length ≤ sizeLine ∧ Q (.int z.length) H) ∨ ∃ p ys, xs = [.ref p] ∧ (SqL X.K H p ys ∨ SqT X.K H p ys) ∧ Q (.int ys.length) H) := by
  intro pins s σ H xs us Q I r h
  rcases h with h | h
  · exact call_len_str pins s σ H xs us Q I r h
  · exact call_len_seq pins s σ H xs us Q I r h
/-- repr(x) of any thing -/
def rReprX (K : PySem.W.Frag) : List V → Hp → VK → Prop := fun xs H Q => ∃ v d, xs = [v] ∧ Dp K H v d ∧ Sho d ∧ Q (.str d.shown) H
theorem cr_reprX {X : Cx} (hg : X.A.guards = some []) (hu : X.A.units + 65 < cLine) : CallR X (.builtin "repr") (rReprX X.K) := by
  intro pins s σ H vs us Q I r h
  obtain ⟨v, d, rfl, hd, sh, q⟩ := h
  cases hd with
  | non =>
    obtain ⟨u, rfl, r1⟩ := vals1 r
    cases r1
    exact PySem.P.repr_of_none ⟨.str _, H, I.tok _, ⟨_, rfl⟩, q⟩
  | bl b =>
    obtain ⟨u, rfl, r1⟩ := vals1 r
    cases r1
    exact PySem.P.repr_of_bool ⟨.str _, H, I.tok _, ⟨_, rfl⟩, by cases b <;> exact q⟩
  | int i =>
    obtain ⟨u, rfl, t, rfl⟩ := vals1 r
    have hs := sh.s
    simp only [PyData.showable] at hs
    exact PySem.P.repr_of_int (of_decide_eq_true hs) ⟨.str _, H, I.tok _, ⟨_, rfl⟩, q⟩
  | str z =>
    obtain ⟨u, rfl, t, rfl⟩ := vals1 r
    exact PySem.P.repr_of_str ⟨.str _, H, I.tok _, ⟨_, rfl⟩, q⟩ sh.len
  | lst h1 h2 => exact cr_repr hg hu pins s σ H _ us Q I r ⟨_, _, rfl, .lst h1 h2, sh, q⟩
  | tup h1 h2 => exact cr_repr hg hu pins s σ H _ us Q I r ⟨_, _, rfl, .tup h1 h2, sh, q⟩
/-! things, standing away from some lists -/
mutual
inductive Tg (p : Addr → Prop) (H : Hp) : V → PyData → Prop
  | non : Tg p H .non .none
  | bl (b : Bool) : Tg p H (.bl b) (.bool b)
  | int (i : Int) : Tg p H (.int i) (.int i)
  | str (x : Str) : Tg p H (.str x) (.str x)
  | lst {a : Addr} {xs : List V} {ds : List PyData} : ¬ p a → H a = some (.lst xs) → TgA p H xs ds → Tg p H (.ref a) (.list ds)
  | tup {a : Addr} {xs : List V} {ds : List PyData} : ¬ p a → H a = some (.tup xs) → TgA p H xs ds → Tg p H (.ref a) (.tuple ds)
inductive TgA (p : Addr → Prop) (H : Hp) : List V → List PyData → Prop
  | nil : TgA p H [] []
  | cons {v : V} {vs : List V} {d : PyData} {ds : List PyData} : Tg p H v d → TgA p H vs ds → TgA p H (v :: vs) (d :: ds)
end
mutual
theorem Tg.to {p q : Addr → Prop} {H H' : Hp} (s : ∀ a o, ¬ p a → H a = some o → H' a = some o ∧ ¬ q a) : ∀ (d : PyData) (v : V), Tg p H v d → Tg q H' v d
  | .none, _, h => by cases h; exact .non
  | .bool b, _, h => by cases h; exact .bl b
  | .int i, _, h => by cases h; exact .int i
  | .str x, _, h => by cases h; exact .str x
  | .list ds, _, h => by
    cases h with
    | lst n e t => exact .lst (s _ _ n e).2 (s _ _ n e).1 (TgA.to s ds _ t)
  | .tuple ds, _, h => by
    cases h with
    | tup n e t => exact .tup (s _ _ n e).2 (s _ _ n e).1 (TgA.to s ds _ t)
  | .dict _, _, h => by cases h
theorem TgA.to {p q : Addr → Prop} {H H' : Hp} (s : ∀ a o, ¬ p a → H a = some o → H' a = some o ∧ ¬ q a) : ∀ (ds : List PyData) (vs : List V), TgA p H vs ds → TgA q H' vs ds
  | [], _, h => by cases h; exact .nil
  | d :: ds, _, h => by
    cases h with
    | cons a b => exact .cons (Tg.to s d _ a) (TgA.to s ds _ b)
end
theorem Tg.keep {p : Addr → Prop} {H H' : Hp} {v : V} {d : PyData} (h : Tg p H v d) (s : ∀ a o, ¬ p a → H a = some o → H' a = some o) : Tg p H' v d := h.to fun a o n e => ⟨s a o n e, n⟩
theorem TgA.keep {p : Addr → Prop} {H H' : Hp} {v : List V} {d : List PyData} (h : TgA p H v d) (s : ∀ a o, ¬ p a → H a = some o → H' a = some o) : TgA p H' v d := h.to fun a o n e => ⟨s a o n e, n⟩
theorem Tg.but {l : Addr} {H H' : Hp} {v : V} {d : PyData} (h : Tg (· = l) H v d) (s : But l H H') : Tg (· = l) H' v d := h.keep s
theorem Tg.same {p : Addr → Prop} {H H' : Hp} {v : V} {d : PyData} (h : Tg p H v d) (s : Same H H') : Tg p H' v d := h.keep fun a o _ e => s a o e
theorem TgA.same {p : Addr → Prop} {H H' : Hp} {v : List V} {d : List PyData} (h : TgA p H v d) (s : Same H H') : TgA p H' v d := h.keep fun a o _ e => s a o e
theorem TgA.but {l : Addr} {H H' : Hp} {v : List V} {d : List PyData} (h : TgA (· = l) H v d) (s : But l H H') : TgA (· = l) H' v d := h.keep s
/-- away from a list that is new -/
theorem Tg.new {p : Addr → Prop} {l : Addr} {H : Hp} {v : V} {d : PyData} {o : HO} (h : Tg p H v d) (n : H l = none) : Tg (· = l) (upd H l o) v d := h.to fun a x _ e => ⟨same_upd n a x e, ne_of_none e n⟩
mutual
theorem Tg.dp {K : PySem.W.Frag} {p : Addr → Prop} {H : Hp} : ∀ (d : PyData) (v : V), Tg p H v d → Dp K H v d
  | .none, _, h => by cases h; exact .non
  | .bool b, _, h => by cases h; exact .bl b
  | .int i, _, h => by cases h; exact .int i
  | .str x, _, h => by cases h; exact .str x
  | .list ds, _, h => by
    cases h with
    | lst n e t => exact .lst (SqL.mk e) (TgA.dp ds _ t)
  | .tuple ds, _, h => by
    cases h with
    | tup n e t => exact .tup (SqT.mk e) (TgA.dp ds _ t)
  | .dict _, _, h => by cases h
theorem TgA.dp {K : PySem.W.Frag} {p : Addr → Prop} {H : Hp} : ∀ (ds : List PyData) (vs : List V), TgA p H vs ds → DpAll K H vs ds
  | [], _, h => by cases h; exact .nil
  | d :: ds, _, h => by
    cases h with
    | cons a b => exact .cons (Tg.dp d _ a) (TgA.dp ds _ b)
end
theorem TgA.len {p : Addr → Prop} {H : Hp} : ∀ {ds : List PyData} {vs : List V}, TgA p H vs ds → vs.length = ds.length
  | [], _, h => by cases h; rfl
  | d :: ds, _, h => by
    cases h with
    | cons a b => rw [List.length_cons, List.length_cons, TgA.len b]
theorem TgA.get {p : Addr → Prop} {H : Hp} : ∀ {ds : List PyData} {vs : List V}, TgA p H vs ds → ∀ {i : Nat} {v : V}, vs[i]? = some v → ∃ d, ds[i]? = some d ∧ Tg p H v d
  | [], _, h, i, v, e => by cases h; cases e
  | d :: ds, _, h, i, v, e => by
    cases h with
    | cons a b =>
      cases i with
      | zero => cases e; exact ⟨d, rfl, a⟩
      | succ i => exact TgA.get b (by simpa using e)
theorem TgA.app {p : Addr → Prop} {H : Hp} {ds es : List PyData} {vs us : List V} (h : TgA p H vs ds) (g : TgA p H us es) : TgA p H (vs ++ us) (ds ++ es) := by
  induction ds generalizing vs with
  | nil => cases h; exact g
  | cons d ds ih =>
    cases h with
    | cons a b => exact .cons a (ih b)
theorem TgA.split {p : Addr → Prop} {H : Hp} : ∀ {ds : List PyData} {vs : List V}, TgA p H vs ds → ∀ i : Nat, TgA p H (vs.take i) (ds.take i) ∧ TgA p H (vs.drop i) (ds.drop i)
  | [], _, h, i => by cases h; simp only [List.take_nil, List.drop_nil]; exact ⟨.nil, .nil⟩
  | d :: ds, _, h, i => by
    cases h with
    | cons a b =>
      cases i with
      | zero => exact ⟨.nil, .cons a b⟩
      | succ i => exact ⟨.cons a (TgA.split b i).1, (TgA.split b i).2⟩
theorem tg_fm {p : Addr → Prop} {H : Hp} (np : ∀ a xs, H a = some (.tup xs) → ¬ p a) : ∀ {f : Fm} {v : V}, FmAt H f v → Tg p H v f.data
  | .inp i, _, ⟨_, rfl, h⟩ => .tup (np _ _ h) h (.cons (.str _) (.cons (.int _) .nil))
  | .less f, _, ⟨_, _, rfl, h, h1⟩ => .tup (np _ _ h) h (.cons (.str _) (.cons (tg_fm np h1) .nil))
  | .both f g, _, ⟨_, _, _, rfl, h, h1, h2⟩ => .tup (np _ _ h) h (.cons (.str _) (.cons (tg_fm np h1) (.cons (tg_fm np h2) .nil)))
  | .either f g, _, ⟨_, _, _, rfl, h, h1, h2⟩ => .tup (np _ _ h) h (.cons (.str _) (.cons (tg_fm np h1) (.cons (tg_fm np h2) .nil)))
  | .oneof f g, _, ⟨_, _, _, rfl, h, h1, h2⟩ => .tup (np _ _ h) h (.cons (.str _) (.cons (tg_fm np h1) (.cons (tg_fm np h2) .nil)))
  | .pick f g k, _, ⟨_, _, _, _, rfl, h, h1, h2, h3⟩ => .tup (np _ _ h) h (.cons (.str _) (.cons (tg_fm np h1) (.cons (tg_fm np h2) (.cons (tg_fm np h3) .nil))))
def isIntD : PyData → Bool
  | .int _ => true
  | _ => false
def isBlD : PyData → Bool
  | .bool _ => true
  | _ => false
def isStrD : PyData → Bool
  | .str _ => true
  | _ => false
def isTupD : PyData → Bool
  | .tuple _ => true
  | _ => false
def isLstD : PyData → Bool
  | .list _ => true
  | _ => false
theorem kit2 {K : PySem.W.Frag} {t : String} {a b : Bool} (h1 : kitB t "tuple" = some a) (h2 : kitB t "list" = some b) : PySem.W.kitAny K (.type t) [.type "tuple", .type "list"] = some (a || b) :=
  kitAny_cons (kit_ty h1) (fun e => by subst e; exact kitAny_cons (r := b) (kit_ty h2) (fun e => by subst e; exact kitAny_nil) (fun e => e)) (fun e => by rw [e]; rfl)
theorem Tg.ty {K : PySem.W.Frag} {p : Addr → Prop} {H : Hp} {v : V} {d : PyData} (h : Tg p H v d) : ∃ t, TyX K H v t ∧ PySem.W.kitOne K t (.type "int") = some (isIntD d || isBlD d) ∧ PySem.W.kitOne K t (.type "bool") = some (isBlD d) ∧ PySem.W.kitOne K t (.type "tuple") = some (isTupD d) ∧
    PySem.W.kitOne K t (.type "str") = some (isStrD d) ∧ PySem.W.kitAny K t [.type "tuple", .type "list"] = some (isTupD d || isLstD d) := by
  cases h with
  | non => exact ⟨_, .base .non, kit_ty (by show _ = some false; decide +kernel), kit_ty (by show _ = some false; decide +kernel), kit_ty (by show _ = some false; decide +kernel), kit_ty (by show _ = some false; decide +kernel), kit2 (a := false) (b := false) (by decide +kernel) (by decide +kernel)⟩
  | bl b => exact ⟨_, .base (.bl b), kit_ty (by show _ = some true; decide +kernel), kit_ty (by show _ = some true; decide +kernel), kit_ty (by show _ = some false; decide +kernel), kit_ty (by show _ = some false; decide +kernel), kit2 (a := false) (b := false) (by decide +kernel) (by decide +kernel)⟩
  | int b => exact ⟨_, .base (.int b), kit_ty (by show _ = some true; decide +kernel), kit_ty (by show _ = some false; decide +kernel), kit_ty (by show _ = some false; decide +kernel), kit_ty (by show _ = some false; decide +kernel), kit2 (a := false) (b := false) (by decide +kernel) (by decide +kernel)⟩
  | str b => exact ⟨_, .base (.str b), kit_ty (by show _ = some false; decide +kernel), kit_ty (by show _ = some false; decide +kernel), kit_ty (by show _ = some false; decide +kernel), kit_ty (by show _ = some true; decide +kernel), kit2 (a := false) (b := false) (by decide +kernel) (by decide +kernel)⟩
  | lst ne h => exact ⟨_, .base (.lst h), kit_ty (by show _ = some false; decide +kernel), kit_ty (by show _ = some false; decide +kernel), kit_ty (by show _ = some false; decide +kernel), kit_ty (by show _ = some false; decide +kernel), kit2 (a := false) (b := true) (by decide +kernel) (by decide +kernel)⟩
  | tup ne h => exact ⟨_, .base (.tup h), kit_ty (by show _ = some false; decide +kernel), kit_ty (by show _ = some false; decide +kernel), kit_ty (by show _ = some true; decide +kernel), kit_ty (by show _ = some false; decide +kernel), kit2 (a := true) (b := false) (by decide +kernel) (by decide +kernel)⟩
def sp_is_number (K : PySem.W.Frag) : Sp := fun vs H Q _ => ∃ (p : Addr → Prop) (x : V) (d : PyData), vs = [x] ∧ Tg p H x d ∧ Q (.bl (isIntD d)) H
theorem ok_is_number (T : Defs K mg) (TT : Tabs T base) : FnOk P w K mg base CX0 1 T.f_is_number T.fd_is_number ["thing"] (sp_is_number K) := by
  refine T.F_is_number.ok sc_is_number (fun vs H Q E h => ?_) (fun cdv A outer s H vs Q E hr h => ?_)
  · obtain ⟨p, x, d, rfl, hx, q⟩ := h
    rfl
  · obtain ⟨p, x, d, rfl, hx, q⟩ := h
    refine ⟨_, PSs.nox (pss_one (ps_ret (pe_and (pe_callB call_isi (by rfl) T.m_isinstance bt_isinstance (pa_cons (pv 0) (pa_cons (pe_bltn (v := .ty "int") (by rfl) T.m_int bt_int rfl) pa_nil))) (pe_one (pe_not (pe_callB call_isi (by rfl) T.m_isinstance bt_isinstance (pa_cons (pv 0) (pa_cons (pe_bltn (v := .ty "bool") (by rfl) T.m_bool bt_bool rfl) pa_nil)))))))), ?_⟩
    obtain ⟨t, ty, ki, kb, _⟩ := hx.ty (K := K)
    refine ⟨x, rfl, _, _, _, _, _, rfl, .ty "int", ty, ki, _, rfl, ?_⟩
    refine ite2 (fun e => ?_) (fun e => ?_)
    · refine ⟨x, rfl, _, _, _, _, _, rfl, .ty "bool", ty, kb, _, rfl, ?_⟩
      have ee : (!isBlD d) = isIntD d := by
        cases d <;> first | rfl | cases e
      rw [ee]
      exact q
    · have ee : isIntD d = false := by
        cases d <;> first | rfl | exact absurd rfl e
      rw [ee] at q
      exact q
def withinD (d : PyData) (lo hi : Int) : Bool := match d with
  | .int i => decide (lo ≤ i ∧ i ≤ hi)
  | _ => false
def sp_is_within (K : PySem.W.Frag) : Sp := fun vs H Q _ => ∃ (p : Addr → Prop) (x : V) (d : PyData) (lo hi : Int), vs = [x, .int lo, .int hi] ∧ Tg p H x d ∧ Q (.bl (withinD d lo hi)) H
theorem ok_is_within (T : Defs K mg) (TT : Tabs T base) : FnOk P w K mg base CX0 2 T.f_is_within T.fd_is_within ["thing", "least", "greatest"] (sp_is_within K) := by
  have G_is_number : FnOk P w K mg base CX0 1 T.f_is_number T.fd_is_number ["thing"] (sp_is_number K) := ok_is_number T TT
  refine T.F_is_within.ok sc_is_within (fun vs H Q E h => ?_) (fun cdv A outer s H vs Q E hr h => ?_)
  · obtain ⟨p, x, d, lo, hi, rfl, hx, q⟩ := h
    rfl
  · obtain ⟨p, x, d, lo, hi, rfl, hx, q⟩ := h
    refine ⟨_, PSs.nox (pss_one (ps_ret (pe_and (pe_call G_is_number (hr.mono (by decide)) (by rfl) T.g_is_number T.F_is_number.kp T.b_is_number .nil pass0 (pa_cons (pv 0) pa_nil)) (pe_one (pe_chain op_le op_le (pv 1) (pv 0) (pv 2)))))), ?_⟩
    refine ⟨x, rfl, p, x, d, rfl, hx, _, rfl, ?_⟩
    cases hx with
    | int i =>
      refine iteT ⟨_, rfl, _, rfl, _, _, rfl, rfl, _, rfl, ?_⟩
      by_cases z : lo ≤ i
      · rw [decide_eq_true z]
        refine iteT ⟨_, rfl, _, _, rfl, rfl, ?_⟩
        have e : decide (i ≤ hi) = withinD (.int i) lo hi := decide_eq_decide.mpr ⟨fun y => ⟨z, y⟩, fun y => y.2⟩
        show Q (.bl (decide (i ≤ hi))) H
        rw [e]
        exact q
      · rw [decide_eq_false z]
        refine iteF ?_
        have e : withinD (.int i) lo hi = false := decide_eq_false (fun y => z y.1)
        rw [e] at q
        exact q
    | _ => exact iteF q
def sp_is_part (K : PySem.W.Frag) : Sp := fun vs H Q _ => ∃ (p : Addr → Prop) (v : V) (d : PyData), vs = [v] ∧ Tg p H v d ∧ Q (.bl (partD d)) H
theorem okArg_len {xs : List PyData} (h : ¬ xs.length = 1) : okArg xs = false := by
  unfold okArg
  split
  · exact absurd rfl h
  · rfl
theorem ok_is_part (T : Defs K mg) (TT : Tabs T base) : FnOk P w K mg base CX0 3 T.f_is_part T.fd_is_part ["thing"] (sp_is_part K) := by
  have G_is_within : FnOk P w K mg base CX0 2 T.f_is_within T.fd_is_within ["thing", "least", "greatest"] (sp_is_within K) := ok_is_within T TT
  refine T.F_is_part.ok sc_is_part (fun vs H Q E h => ?_) (fun cdv A outer s H vs Q E hr h => ?_)
  · obtain ⟨p, v, d, rfl, hv, q⟩ := h
    rfl
  · obtain ⟨p, v, d, rfl, hv, q⟩ := h
    refine ⟨_, PSs.nox (pss_cons (ps_if (PW.pt (pw_or (pt_not (pt_val (pe_callB call_isi (by rfl) T.m_isinstance bt_isinstance (pa_cons (pv 0) (pa_cons (pe_bltn (v := .ty "tuple") (by rfl) T.m_tuple bt_tuple rfl) pa_nil))))) (pw_or (pt_not (pt_truth (pv 0) (by intro _; rfl))) (pw_or1 (pt_not (pt_val (pe_callB call_isi (by rfl) T.m_isinstance bt_isinstance (pa_cons (pe_ix ix_tup (pv 0) pe_int (fun _ _ => rfl)) (pa_cons (pe_bltn (v := .ty "str") (by rfl) T.m_str bt_str rfl) pa_nil))))))))) (pss_one (ps_ret pe_bl)) pss_nil)
    (pss_cons (ps_if (pt_cmpR op_eq (pe_ix ix_tup (pv 0) pe_int (fun _ _ => rfl)) pe_str (nomark _)) (pss_one (ps_ret (pe_and (pe_cmpR op_eq (pe_callB call_len_seq (by rfl) T.m_len bt_len (pa_cons (pv 0) pa_nil)) pe_int (nomark _)) (pe_one (pe_call G_is_within (hr.mono (by decide)) (by rfl) T.g_is_within T.F_is_within.kp T.b_is_within .nil pass0 (pa_cons (pe_ix ix_tup (pv 0) pe_int (fun _ _ => rfl)) (pa_cons pe_int (pa_cons (pe_globI (by rfl) T.i_GREATEST_INPUT) pa_nil)))))))) pss_nil)
    (pss_one (ps_ret (pe_and (pe_cmpR (op_inS (K' := K) (w' := w) rfl rfl T.e_SIDES) (pe_ix ix_tup (pv 0) pe_int (fun _ _ => rfl)) ((pe_glob (v := .ref T.C_SIDES) (by rfl) T.g_SIDES rfl)) rfl) (pe_one (pe_cmpR op_eq (pe_callB call_len_seq (by rfl) T.m_len bt_len (pa_cons (pv 0) pa_nil)) (pe_op op_add pe_int (pe_ix (ix_S (K' := K) (w' := w) rfl rfl T.e_SIDES) ((pe_glob (v := .ref T.C_SIDES) (by rfl) T.g_SIDES rfl)) (pe_ix ix_tup (pv 0) pe_int (fun _ _ => rfl)) (fun _ _ => rfl))) (nomark _)))))))), ?_⟩
    obtain ⟨t, ty, -, -, kt, -, -⟩ := hv.ty (K := K)
    refine ⟨v, rfl, _, _, _, _, _, rfl, .ty "tuple", ty, kt, _, rfl, ?_⟩
    cases hv with
    | tup ne ha ts =>
      rename_i a xs ds
      refine iteF ⟨.ref a, rfl, !xs.isEmpty, .inr (.inl ⟨xs, SqT.mk ha, rfl⟩), ?_⟩
      cases ts with
      | nil => exact iteT q
      | cons h1 ts =>
        rename_i x xs d ds
        refine iteF ⟨.ref a, rfl, a, _, 0, _, rfl, rfl, SqT.mk ha, atI_nat (j := 0) rfl, ?_⟩
        obtain ⟨t1, ty1, -, -, -, ks, -⟩ := h1.ty (K := K)
        refine ⟨_, _, _, _, _, rfl, .ty "str", ty1, ks, _, rfl, ?_⟩
        cases h1 with
        | str z =>
          refine iteF ⟨.ref a, rfl, a, _, 0, _, rfl, rfl, SqT.mk ha, atI_nat (j := 0) rfl, rfl, _, rfl, ?_⟩
          by_cases e : z = "in"
          · subst e
            rw [decide_eq_true rfl]
            refine iteT ⟨.ref a, rfl, a, _, rfl, .inr (SqT.mk ha), rfl, _, rfl, ?_⟩
            have e2 : partD (.tuple (.str "in" :: ds)) = okArg ds := by simp only [partD, if_true]
            rw [e2] at q
            have ln := ts.len
            by_cases l : ds.length = 1
            · rw [decide_eq_true (show V.int ((V.str "in" :: xs).length : Nat) = V.int 2 by rw [List.length_cons, ln, l]; rfl)]
              match ds, l, xs, ts with
              | [d1], _, [x1], .cons h2 .nil =>
                refine iteT ⟨.ref a, rfl, a, _, 1, _, rfl, rfl, SqT.mk ha, atI_nat (j := 1) rfl, p, x1, d1, 0, 5, rfl, h2, ?_⟩
                have e3 : withinD d1 0 5 = okArg [d1] := by cases d1 <;> rfl
                rw [e3]
                exact q
            · rw [decide_eq_false (show ¬ V.int ((V.str "in" :: xs).length : Nat) = V.int 2 from fun y => by
                have := V.int.inj y
                rw [List.length_cons, ln] at this
                omega)]
              refine iteF ?_
              rw [okArg_len l] at q
              exact q
          · rw [decide_eq_false (show ¬ V.str z = V.str "in" from fun y => e (V.str.inj y))]
            refine iteF ⟨.ref a, rfl, a, _, 0, _, rfl, rfl, SqT.mk ha, atI_nat (j := 0) rfl, z, rfl, rfl, _, rfl, ?_⟩
            have e2 : partD (.tuple (.str z :: ds)) = decide (sideN z = some (ds.length : Int)) := by simp only [partD, if_neg e]
            rw [e2] at q
            cases e3 : sideN z with
            | none =>
              rw [e3] at q
              exact iteF q
            | some n =>
              rw [e3] at q
              refine iteT ⟨.ref a, rfl, a, _, rfl, .inr (SqT.mk ha), .ref a, rfl, a, _, 0, _, rfl, rfl, SqT.mk ha, atI_nat (j := 0) rfl, z, n, rfl, rfl, e3, _, _, rfl, rfl, rfl, ?_⟩
              have e4 : decide (V.int ((V.str z :: xs).length : Nat) = V.int (1 + n)) = decide (some n = some (ds.length : Int)) := decide_eq_decide.mpr ⟨fun y => by
                have := V.int.inj y
                rw [List.length_cons, ts.len] at this
                exact congrArg some (by omega), fun y => by
                have := Option.some.inj y
                rw [List.length_cons, ts.len]
                exact congrArg V.int (by omega)⟩
              show Q (.bl (decide (V.int ((V.str z :: xs).length : Nat) = V.int (1 + n)))) H
              rw [e4]
              exact q
        | _ => exact iteT q
    | _ => exact iteT q
def sp_sides_of (K : PySem.W.Frag) : Sp := fun vs H Q _ => ∃ (p : Addr → Prop) (v : V) (d : PyData), vs = [v] ∧ Tg p H v d ∧ partD d = true ∧ ∀ H' t us, Same H H' → H' t = some (.tup us) → TgA p H' us (sdsD d) → Q (.ref t) H'
theorem ok_sides_of (T : Defs K mg) (TT : Tabs T base) : FnOk P w K mg base CX0 1 T.f_sides_of T.fd_sides_of ["part"] (sp_sides_of K) := by
  refine T.F_sides_of.ok sc_sides_of (fun vs H Q E h => ?_) (fun cdv A outer s H vs Q E hr h => ?_)
  · obtain ⟨p, v, d, rfl, hv, hp, q⟩ := h
    rfl
  · obtain ⟨p, v, d, rfl, hv, hp, q⟩ := h
    refine ⟨_, PSs.nox (pss_cons (ps_if (pt_cmpR op_eq (pe_ix ix_tup (pv 0) pe_int (fun _ _ => rfl)) pe_str (nomark _)) (pss_one (ps_ret (pe_tup pa_nil))) pss_nil)
    (pss_one (ps_ret (pe_slice sl_tup (pv 0) (po_some pe_int) po_none)))), ?_⟩
    obtain ⟨z, ds, rfl⟩ := part_form hp
    cases hv with
    | tup ne ha ts =>
      rename_i a xs
      cases ts with
      | cons h1 ts =>
        rename_i x xs
        cases h1
        refine ⟨.ref a, rfl, a, _, 0, _, rfl, rfl, SqT.mk ha, atI_nat (j := 0) rfl, rfl, _, rfl, ?_⟩
        by_cases e : z = "in"
        · subst e
          rw [decide_eq_true rfl]
          exact iteT ⟨Nat.zero_le _, fun t nt => q _ t [] (same_upd nt) upd_same .nil⟩
        · rw [decide_eq_false (show ¬ V.str z = V.str "in" from fun y => e (V.str.inj y))]
          refine iteF ⟨.ref a, rfl, 1, rfl, a, _, rfl, SqT.mk ha, not_whole, fun t nt => ?_⟩
          rw [cut_tail]
          have e2 : sdsD (.tuple (.str z :: ds)) = ds := by simp only [sdsD, if_neg e]
          rw [e2] at q
          exact q _ t xs (same_upd nt) upd_same (ts.same (same_upd nt))
/-- the things that wait -/
def Wt (l : Addr) (G : Hp) (us : List V) (W : List (PyData × Nat)) : Prop := us.length = W.length ∧ ∀ (i : Nat) (u : V) (e : PyData × Nat), us[i]? = some u → W[i]? = some e → ∃ t v, u = .ref t ∧ t ≠ l ∧ G t = some (.tup [v, .int (e.2 : Nat)]) ∧ Tg (· = l) G v e.1
theorem Wt.but {l : Addr} {G G' : Hp} {us : List V} {W : List (PyData × Nat)} (h : Wt l G us W) (s : But l G G') : Wt l G' us W := ⟨h.1, fun i u e h1 h2 => by
  obtain ⟨t, v, a, b, c, d⟩ := h.2 i u e h1 h2
  exact ⟨t, v, a, b, s _ _ b c, d.but s⟩⟩
theorem Wt.app {l : Addr} {G : Hp} {us vs : List V} {W V' : List (PyData × Nat)} (h : Wt l G us W) (g : Wt l G vs V') : Wt l G (us ++ vs) (W ++ V') := ⟨by rw [List.length_append, List.length_append, h.1, g.1], fun i u e h1 h2 => by
  by_cases z : i < us.length
  · rw [List.getElem?_append_left z] at h1
    rw [List.getElem?_append_left (by rw [← h.1]; exact z)] at h2
    exact h.2 i u e h1 h2
  · rw [List.getElem?_append_right (by omega)] at h1
    rw [List.getElem?_append_right (by rw [← h.1]; omega), ← h.1] at h2
    exact g.2 _ u e h1 h2⟩
theorem Wt.init {l : Addr} {G : Hp} {us : List V} {u : V} {W : List (PyData × Nat)} {e : PyData × Nat} (h : Wt l G (us ++ [u]) (W ++ [e])) : Wt l G us W ∧ us.length = W.length ∧ ∃ t v, u = .ref t ∧ t ≠ l ∧ G t = some (.tup [v, .int (e.2 : Nat)]) ∧ Tg (· = l) G v e.1 := by
  have ln : us.length = W.length := by
    have := h.1
    rw [List.length_append, List.length_append, List.length_singleton, List.length_singleton] at this
    omega
  refine ⟨⟨ln, fun i x y h1 h2 => ?_⟩, ln, h.2 us.length u e (by simp) (by rw [ln]; simp)⟩
  have i1 := (List.getElem?_eq_some_iff.mp h1).1
  exact h.2 i x y (by rw [List.getElem?_append_left i1]; exact h1) (by rw [List.getElem?_append_left (by omega)]; exact h2)
theorem snoc_of {α : Type} {xs : List α} (h : xs ≠ []) : ∃ ys y, xs = ys ++ [y] := ⟨xs.dropLast, xs.getLast h, (List.dropLast_concat_getLast h).symm⟩
theorem sz25 {c : Nat} : (25 - (((c + 1 : Nat) : Int)).toNat) < 25 - ((c : Int)).toNat ∨ 25 ≤ c := by omega
def sp_is_formula (K : PySem.W.Frag) : Sp := fun vs H Q _ => ∃ (p : Addr → Prop) (v : V) (d : PyData), vs = [v] ∧ Tg p H v d ∧ ∀ H', Same H H' → Q (.bl (isF d)) H'
theorem ok_is_formula (T : Defs K mg) (TT : Tabs T base) : FnOk P w K mg base CX0 4 T.f_is_formula T.fd_is_formula ["thing"] (sp_is_formula K) := by
  have G_is_part : FnOk P w K mg base CX0 3 T.f_is_part T.fd_is_part ["thing"] (sp_is_part K) := ok_is_part T TT
  have G_sides_of : FnOk P w K mg base CX0 1 T.f_sides_of T.fd_sides_of ["part"] (sp_sides_of K) := ok_sides_of T TT
  refine T.F_is_formula.ok sc_is_formula (fun vs H Q E h => ?_) (fun cdv A outer s H vs Q E hr h => ?_)
  · obtain ⟨p, v, d, rfl, hv, q⟩ := h
    rfl
  · obtain ⟨p, v, d, rfl, hv, q⟩ := h
    refine ⟨_, PSs.nox (pss_cons (ps_set (i := 1) sc_is_formula.nd rfl (.inl rfl) (pe_lst (pa_cons (pe_tup (pa_cons (pv 0) (pa_cons pe_int pa_nil))) pa_nil)))
    (pss_cons (ps_set (i := 2) sc_is_formula.nd rfl (.inl rfl) pe_int)
    (pss_cons (ps_while PassesOwn.never (pt_truth (pv 1) (by intro _; rfl)) (pss_cons (ps_asg (pe_bm0 PySem.F.plainAttrs_list PySem.F.slot_list_pop PySem.F.type_list_pop mt_pop (pv 1)) (pg_tup rfl (pgs_cons (pg_name (i := 3) sc_is_formula.nd rfl (.inl rfl)) (pgs_cons (pg_name (i := 4) sc_is_formula.nd rfl (.inr rfl)) pgs_nil))))
    (pss_cons (ps_aug (i := 2) sc_is_formula.nd rfl (.inl rfl) pe_int ip_add)
    (pss_cons (ps_if (PW.pt (pw_or (pt_cmpR op_gt (pv 2) (pe_globI (by rfl) T.i_MOST_PARTS) (nomark _)) (pw_or (pt_cmpR op_gt (pv 4) (pe_globI (by rfl) T.i_DEEPEST) (nomark _)) (pw_or1 (pt_not (pt_val (pe_call G_is_part (hr.mono (by decide)) (by rfl) T.g_is_part T.F_is_part.kp T.b_is_part .nil pass0 (pa_cons (pv 3) pa_nil)))))))) (pss_one (ps_ret pe_bl)) pss_nil)
    (pss_one (ps_expr (pe_bm PySem.F.plainAttrs_list PySem.F.slot_list_extend PySem.F.type_list_extend mt_extend (pv 1) (pa_cons (pe_lc (own := [("side", 5)]) (g := gName 5) (tt := tYes) rfl sc_is_formula.nd (pi_tup (pe_call G_sides_of (hr.mono (by decide)) (by rfl) T.g_sides_of T.F_sides_of.kp T.b_sides_of .nil pass0 (pa_cons (pv 3) pa_nil))) (blkOk_by (N := N_is_formula) (sc := defScope s_is_formula) (by decide +kernel)) (fun _ _ _ _ _ => (pg_name (i := 5) sc_is_formula.nd rfl (.inl rfl))) (fun _ _ _ _ _ => pts_nil) (fun _ _ _ _ _ => (pe_tup (pa_cons (pv 5) (pa_cons (pe_op op_add (pv 4) pe_int) pa_nil))))) pa_nil))))))))
    (pss_one (ps_ret pe_bl))))), ?_⟩
    have hsl : sizeLine = 16777216 := by decide
    refine ⟨v, rfl, (show 2 ≤ sizeLine by decide), fun t nt => ⟨(show 1 ≤ sizeLine by decide), fun l nl => ?_⟩⟩
    have s1 := same_upd nt (o := .tup [v, .int 1])
    have ht := upd_same (H := H) (a := t) (o := .tup [v, .int 1])
    have nlH : H l = none := s1.free nl
    generalize upd H t (.tup [v, .int 1]) = H1 at s1 ht nl ⊢
    have hv1 := (hv.same s1).new nl (o := .lst [.ref t])
    have tl : t ≠ l := ne_of_none ht nl
    have ht2 := same_upd nl (o := .lst [.ref t]) _ _ ht
    have s2 := s1.trans (same_upd nl (o := .lst [.ref t]))
    have hl := upd_same (H := H1) (a := l) (o := .lst [.ref t])
    generalize upd H1 l (.lst [.ref t]) = H2 at s2 hl ht2 hv1 ⊢
    dsimp only [gName, tSeq, tAsg, tC, L2.start]
    show tWhile _ _ _ [some v, some (.ref l), some (.int 0), none, none, none] H2
    refine while_by (fun σ G => ∃ (c : Nat) (y3 y4 y5 : Option V) (us : List V) (W : List (PyData × Nat)), σ = [some v, some (.ref l), some (.int (c : Nat)), y3, y4, y5] ∧ Same H G ∧ G l = some (.lst us) ∧ Wt l G us W ∧ c ≤ 24 ∧ W.length ≤ 1 + 3 * c ∧ (OkW W c ↔ isF d = true)) (fun σ _ => match σ with | [_, _, some (.int c), _, _, _] => 25 - c.toNat | _ => 0) ⟨0, none, none, none, [.ref t], [(d, 1)], rfl, s2, hl, ⟨rfl, fun i u e h1 h2 => ?_⟩, Nat.zero_le _, Nat.le_refl _, ok_isF⟩ ?_ ?_
    · cases i with
      | zero =>
        cases h1
        cases h2
        exact ⟨t, v, rfl, tl, ht2, hv1⟩
      | succ i => cases h1
    · rintro σ G ⟨c, y3, y4, y5, us, W, rfl, sG, hG, hW, hc, hl1, hok⟩
      refine ⟨.ref l, rfl, !us.isEmpty, .inl ⟨us, SqL.mk hG, rfl⟩, ?_⟩
      by_cases em : us = []
      · subst em
        have e1 : W = [] := List.eq_nil_of_length_eq_zero hW.1.symm
        subst e1
        have e2 : isF d = true := hok.mp ⟨fun e he => (by cases he), by simpa using hc⟩
        rw [e2] at q
        exact iteF (q _ sG)
      · have em2 : us.isEmpty = false := by
          cases us
          · exact absurd rfl em
          · rfl
        rw [em2]
        refine iteT ?_
        obtain ⟨us', u, rfl⟩ := snoc_of em
        obtain ⟨W', ⟨de, k⟩, rfl⟩ := snoc_of (xs := W) (fun e => by
          have := hW.1
          rw [e] at this
          simp at this)
        obtain ⟨hW', lnW, tt, vv, rfl, ntl, htt, hvv⟩ := hW.init
        refine ⟨.ref l, rfl, .inl ⟨rfl, _, SqL.mk hG⟩, l, _, .ref tt, rfl, rfl, hG, by simp, ?_⟩
        rw [List.dropLast_concat]
        have b1 := (But.refl l G).put (o := .lst us')
        have sG1 := same_newer sG nlH (o := .lst us')
        have hG1 := upd_same (H := G) (a := l) (o := .lst us')
        generalize upd G l (.lst us') = G1 at b1 sG1 hG1 ⊢
        refine ⟨tt, _, rfl, SqT.mk (b1 _ _ ntl htt), rfl, ?_⟩
        refine ⟨_, _, rfl, _, _, rfl, rfl, .int (c : Nat), rfl, _, _, rfl, rfl, ?_⟩
        have hW1 := hW'.but b1
        have hv1 := hvv.but b1
        have fls : (c + 1 > 24 ∨ k > 8 ∨ partD de = false) → isF d = false := fun h => by
          cases e : isF d
          · rfl
          · exact absurd (hok.mpr e) (ok_no h)
        refine ⟨_, rfl, _, _, rfl, rfl, _, rfl, ?_⟩
        by_cases c1 : (24 : Int) < (c : Int) + 1
        · rw [decide_eq_true c1]
          have e := fls (.inl (by omega))
          rw [e] at q
          exact iteT (iteT (q _ sG1))
        rw [decide_eq_false c1]
        refine iteF ⟨_, rfl, _, _, rfl, rfl, _, rfl, ?_⟩
        by_cases c2 : (8 : Int) < ((k : Nat) : Int)
        · have c2' : decide ((8 : Int) < (((de, k) : PyData × Nat).2 : Int)) = true := decide_eq_true c2
          rw [c2']
          have e := fls (.inr (.inl (by omega)))
          rw [e] at q
          exact iteT (iteT (q _ sG1))
        have c2' : decide ((8 : Int) < (((de, k) : PyData × Nat).2 : Int)) = false := decide_eq_false c2
        rw [c2']
        refine iteF ⟨vv, rfl, (· = l), vv, de, rfl, hv1, _, rfl, ?_⟩
        by_cases c3 : partD de = true
        · rw [c3]
          refine iteF ?_
          have s3 := sides3 c3
          have lW : W'.length + 1 ≤ 1 + 3 * c := by
            rw [List.length_append, List.length_singleton] at hl1
            exact hl1
          refine ⟨.ref l, rfl, .inl ⟨rfl, _, SqL.mk hG1⟩, vv, rfl, (· = l), vv, de, rfl, hv1, c3, fun G2 t2 us2 s2 ht2 hts2 => ⟨t2, rfl, ⟨_, SqT.mk ht2⟩, fun C nC => ?_⟩⟩
          have l2 := hts2.len
          have hl2 := s2 _ _ hG1
          refine lc_tup (xs := us2) (fun i G => Same G2 G ∧ ∃ ws, G C = some (.lst ws) ∧ ws.length = i ∧ ∀ j u, j < i → us2[j]? = some u → ∃ t, ws[j]? = some (.ref t) ∧ t ≠ l ∧ G t = some (.tup [u, .int ((k + 1 : Nat) : Int)])) ⟨same_upd nC, [], upd_same, rfl, fun j u hj => absurd hj (Nat.not_lt_zero j)⟩ (fun i G _ h => SqT.mk (h.1 _ _ ht2)) (fun i u G hu h => ?_) (fun G h => ?_)
          · obtain ⟨sG3, ws, hC, lw, hws⟩ := h
            have iu := (List.getElem?_eq_some_iff.mp hu).1
            refine ⟨rfl, yes_ite ?_⟩
            refine ⟨u, rfl, .int (k : Nat), rfl, _, _, rfl, rfl, (show 2 ≤ sizeLine by decide), fun t5 n5 => ?_⟩
            have s5 := same_upd n5 (o := .tup [u, .int ((k : Nat) + 1 : Int)])
            have ne5 : t5 ≠ C := fun e => by rw [e, hC] at n5; cases n5
            have nl5 : t5 ≠ l := fun e => by rw [e, sG3 _ _ hl2] at n5; cases n5
            refine ⟨ws, s5 _ _ hC, by omega, same_newer (sG3.trans s5) nC, _, upd_same, by rw [List.length_append, List.length_singleton, lw], fun j x hj hx => ?_⟩
            by_cases z : j < i
            · obtain ⟨t, h1, h2, h3⟩ := hws j x z hx
              refine ⟨t, by rw [List.getElem?_append_left (by omega)]; exact h1, h2, ?_⟩
              rw [upd_ne (ne_of h3 hC (fun e => by cases e))]
              exact s5 _ _ h3
            · obtain rfl : j = i := by omega
              rw [hu] at hx
              cases hx
              refine ⟨t5, by rw [← lw]; simp, nl5, ?_⟩
              rw [upd_ne ne5]
              exact upd_same
          · obtain ⟨sG3, ws, hC, lw, hws⟩ := h
            have hl3 := sG3 _ _ hl2
            have nlC : l ≠ C := fun e => by rw [← e, hl2] at nC; cases nC
            refine ⟨l, C, us', ws, rfl, rfl, hl3, hC, by omega, ?_⟩
            have bL : But l G1 (upd G l (.lst (us' ++ ws))) := (same_but (s2.trans sG3)).put
            have bL2 : But l G2 (upd G l (.lst (us' ++ ws))) := (same_but sG3).put
            have bL3 : But l G (upd G l (.lst (us' ++ ws))) := (But.refl l G).put
            have wts : Wt l (upd G l (.lst (us' ++ ws))) ws ((sdsD de).map fun s => (s, k + 1)) := by
              refine ⟨by rw [lw, List.length_map, l2], fun i u e h1 h2 => ?_⟩
              have iw := (List.getElem?_eq_some_iff.mp h1).1
              have iu : i < us2.length := by omega
              obtain ⟨t, g1, g2, g3⟩ := hws i us2[i] iu (List.getElem?_eq_getElem iu)
              obtain ⟨dd, g4, g5⟩ := hts2.get (List.getElem?_eq_getElem iu)
              rw [h1] at g1
              cases g1
              rw [List.getElem?_map, g4] at h2
              cases h2
              exact ⟨t, _, rfl, g2, bL3 _ _ g2 g3, g5.but bL2⟩
            refine ⟨⟨c + 1, _, _, _, us' ++ ws, W' ++ (sdsD de).map fun s => (s, k + 1), rfl, same_newer (sG1.trans (s2.trans sG3)) nlH, upd_same, (hW1.but bL).app wts, by omega, by rw [List.length_append, List.length_map]; omega, (ok_step c3 (by omega)).symm.trans hok⟩, ?_⟩
            show 25 - ((c : Int) + 1).toNat < 25 - ((c : Int)).toNat
            omega
        · have c3' : partD de = false := by
            cases e : partD de
            · rfl
            · exact absurd e c3
          rw [c3']
          have e := fls (.inr (.inr c3'))
          rw [e] at q
          exact iteT (q _ sG1)
    · rintro σ H1 Q1 Q2 hQ ⟨v, hv, k, tk, h3⟩
      exact ⟨v, hv, k, tk, hQ _ _ h3⟩
/-! generator expressions whose element is anything that PE serves: the generator's own frame as a context -/
abbrev Cx.gblk (X : Cx) (s : Shared) (H : Hp) (scope : Scope) (C : Addr) (code : Value) (fp : List Addr) : Cx :=
  { X with A := X.A.in1.in1.in1.in1.deeper (genEnv scope (cloFrom X.env.cells scope.names []) C code builtinsNs X.env), s_0 := s, H_0 := H, env := genEnv scope (cloFrom X.env.cells scope.names []) C code builtinsNs X.env, outer := X.stack, stack := (genEnv scope (cloFrom X.env.cells scope.names []) C code builtinsNs X.env) :: X.stack, ex := fp, fn := fun x => scope.names.lookup x == some .cell, pn := [], xe := fun _ _ => False }
theorem over_gen {A : Around} {elt : Expr} {gs : List Comprehension} {sc : Scope} {pos : Pos} {it acc : Value} {env : Env} : A.over (.compLoop (.GeneratorExp elt gs sc pos) 0 it acc env) [] = A.deeper env := by
  first
    | rfl
    | (obtain ⟨hd, d, fr, gd, u⟩ := A; simp [Around.over, Around.deeper, marksOver, frameCount, unitsOf, envsOf, guardsOf, pushEnvs, pushGuards, Code.envs, Code.env?, Code.isFrame, Code.guards, Code.isGuard, Code.weight, Code.frames, Code.isCreation, Code.isCaller, Code.cUnits])
theorem over_gen0 {A : Around} {elt : Expr} {gs : List Comprehension} {sc : Scope} {pos : Pos} {it acc : Value} {env : Env} : A.over (.compStart (.GeneratorExp elt gs sc pos) 0 it acc env) [] = A.deeper env := by
  first
    | rfl
    | (obtain ⟨hd, d, fr, gd, u⟩ := A; simp [Around.over, Around.deeper, marksOver, frameCount, unitsOf, envsOf, guardsOf, pushEnvs, pushGuards, Code.envs, Code.env?, Code.isFrame, Code.guards, Code.isGuard, Code.weight, Code.frames, Code.isCreation, Code.isCaller, Code.cUnits])
theorem Room.gen {k : Nat} {A : Around} (r : Room (k + 1) A) (env : Env) : Room k (A.in1.in1.in1.in1.deeper env) :=
  ⟨r.hd, by have := r.dp; show A.depth + 1 + 3 * k + 5 < _; omega, by have := r.un; show A.units + 1 + 1 + 1 + 1 + 3 + 16 * k + 200 < _; omega⟩
/-- the names of a generator expression: as a block's, none of them a cell of its own -/
structure GenOk (N : List Str) (sc scope : Scope) (own : List (Str × Nat)) : Prop where
  blk : BlkOk N sc scope own
  co : scope.isCoroutine = false
  cel : ∀ y ∈ scope.names, y.2 ≠ .cell
  dot : scope.names.lookup (".0" : Str) = some NameKind.local
theorem genOk_by {N : List Str} {sc scope : Scope} {own : List (Str × Nat)} (h : blkC N sc scope own = true) (co : scope.isCoroutine = false) (cel : (scope.names.all fun y => y.2 != .cell) = true) (dot : scope.names.lookup (".0" : Str) = some NameKind.local) : GenOk N sc scope own := by
  refine ⟨blkOk_by h, co, fun y hy e => ?_, dot⟩
  have := List.all_eq_true.mp cel y hy
  rw [e] at this
  cases this
section
variable {X : Cx} {pins : List (Addr × Obj)} {σ : L2.St} {H : Hp} {s : Shared}
theorem gen_start {scope : Scope} {own : List (Str × Nat)} {fp : List Addr} {code : Value} {h' : Heap} {go : Obj} {G : Array GenState} {tk : Nat} {it : Value} (I : Inv X pins σ H s) (ok : GenOk X.N X.env.scope scope own) (hN : X.N.Nodup) (hfp : ∀ b ∈ fp, FpOk X pins H b ∧ b < s.heap.objs.size)
    (hns : h'.Ns s.heap.objs.size (fun y => if y = ".0" then some it else none)) (sb : Heap.SameBut s.heap.objs.size (s.heap.push { cls := .type "frame", data := .dict #[] }) h') (hG : AllBare G) (hgo : (h'.push go).get? h'.objs.size = some go) (hgd : ∀ v, go.data ≠ .cell v) :
    Inv (Cx.gblk X s H scope s.heap.objs.size code fp) [(h'.objs.size, go)] (wipe σ (own.map (·.2))) H { s with gens := G, toks := tk, heap := h'.push go } := by
  have hfree : ∀ y ∈ scope.names, y.2 = .free → ∃ c, X.env.cells.lookup y.1 = some c := fun y hy e => by
    rcases ok.blk.free y hy e with k | k
    · exact I.ok.has _ (.inl k)
    · exact I.ok.has _ (.inr k)
  have szh : h'.objs.size = s.heap.objs.size + 1 := by rw [sb.1, Heap.size_push]
  have kp : ∀ b o, s.heap.get? b = some o → (h'.push go).get? b = some o := fun b o e => Heap.get?_push_of_some _ (sb.extBut b o (Nat.ne_of_lt (Heap.lt_size e)) (Heap.get?_push_of_some _ e))
  have cm : ∀ {y c}, (cloFrom X.env.cells scope.names []).lookup y = some c → X.env.cells.lookup y = some c ∧ c < s.heap.objs.size ∧ (y, NameKind.free) ∈ scope.names := fun {y c} e => by
    rcases cloFrom_mem (PySem.mem_of_lookup e) with hm | ⟨h1, rfl⟩
    · cases hm
    · obtain ⟨c, hc⟩ := hfree _ h1 rfl
      rw [hc]
      obtain ⟨w, z⟩ := I.cell _ _ hc
      exact ⟨rfl, z.lt, h1⟩
  have look : ∀ {y}, scope.names.lookup y = some .free → ∃ c, (cloFrom X.env.cells scope.names []).lookup y = some c ∧ X.env.cells.lookup y = some c := fun {y} hl => by
    have hy : (y, NameKind.free) ∈ scope.names := PySem.mem_of_lookup hl
    obtain ⟨c', e'⟩ := mem_lookup (cloFrom_has (cells := X.env.cells) (acc := []) hy)
    exact ⟨c', e', (cm e').1⟩
  have okB : (Cx.gblk X s H scope s.heap.objs.size code fp).Ok := by
    refine ⟨I.ok.mod, ok.blk.kind, I.ok.glob, rfl, Nat.le_refl _, fun y z c e1 e2 => I.ok.inj y z c (cm e1).1 (cm e2).1, fun y hy => ?_, fun y c z e => ?_, I.ok.hd, ?_, .inr ⟨rfl, rfl⟩, fun b hb => ⟨?_, fun y c e z => ?_⟩, I.bs, Nat.le_trans I.ok.bsz I.sz, fun b o e hb => ?_, fun b hb z => ?_, I.stack, I.stkFree⟩
    · rcases hy with hy | hy
      · have hy : scope.names.lookup y = some .cell := hy
        exact absurd rfl (ok.cel _ (PySem.mem_of_lookup hy))
      · obtain ⟨c, h1, _⟩ := look (y := y) hy
        exact ⟨c, h1⟩
    · have z : (scope.names.lookup y == some NameKind.cell) = true := z
      have z : scope.names.lookup y = some .cell := by simpa using z
      exact absurd rfl (ok.cel _ (PySem.mem_of_lookup z))
    · show (X.A.frames.map (_ :: ·)) = some (_ :: X.stack)
      rw [I.ok.frames]
      rfl
    · exact Nat.ne_of_lt (hfp b hb).2
    · exact (hfp b hb).1.2.2.2.2.1 y c (cm e).1 z
    · rcases (hfp b hb).1.2.2.2.1 with z | z
      · exact I.ok.noex b o e z
      · exact absurd (Nat.lt_of_lt_of_le (Heap.lt_size e) (Nat.le_trans I.ok.bsz z)) (Nat.lt_irrefl _)
    · rcases List.mem_cons.mp (I.stkSub b z) with z | z
      · exact (hfp b hb).1.2.1 z
      · exact (hfp b hb).1.2.2.1 z
  refine ⟨okB, rfl, hG, Un.kept kp, ⟨_, hns.push go, fun i y av e1 e2 e3 => ?_⟩, fun y c e => ?_, I.hok.fresh (Nat.le_refl _), fun y c e => I.freeC y c (cm e).1, fun p hp => ?_, I.hok.kept kp, by rw [wipe_length]; exact I.len⟩
  · obtain ⟨e2, hne⟩ := wipe_some e2
    have e3 : Vis scope y := e3
    have hfr : scope.names.lookup y = some .free := by
      have no : ∀ k, scope.names.lookup y = some k → (k = .local ∨ k = .cell) → False := fun k e hh => by
        rcases ok.blk.own _ (PySem.mem_of_lookup e) hh with e' | e'
        · obtain ⟨p, hp, hpy⟩ := List.mem_map.mp e'
          have e3 := ok.blk.ix p hp
          have : p.1 = y := hpy
          rw [this] at e3
          exact hne (List.mem_map.mpr ⟨p, hp, nodup_ix hN e3 e1⟩)
        · exact e' (List.mem_of_getElem? e1)
      rcases e3 with e3 | e3 | e3
      · exact (no _ e3 (.inl rfl)).elim
      · exact (no _ e3 (.inr rfl)).elim
      · exact e3
    obtain ⟨m, hn, hl⟩ := I.loc
    have hvis : Vis X.env.scope y := (ok.blk.free _ (PySem.mem_of_lookup hfr) rfl).elim (fun k => .inr (.inl k)) (fun k => .inr (.inr k))
    obtain ⟨w, r, q⟩ := hl i y av e1 e2 hvis
    refine ⟨w, r, .inr ⟨.inr hfr, ?_⟩⟩
    obtain ⟨c, h1, h2⟩ := look hfr
    rcases q with ⟨k, _⟩ | ⟨_, c', e', z⟩
    · have k : X.env.scope.names.lookup y = some .local := k
      rcases ok.blk.free _ (PySem.mem_of_lookup hfr) rfl with k' | k' <;> rw [show X.env.scope.names.lookup y = _ from k'] at k <;> cases k
    · rw [h2] at e'; cases e'
      exact ⟨c, h1, z.keeps kp⟩
  · obtain ⟨w, z⟩ := I.cell y c (cm e).1
    exact ⟨w, z.keeps kp⟩
  · have hp : p = (h'.objs.size, go) := by simpa using hp
    subst hp
    have ge : s.heap.objs.size ≤ h'.objs.size := by omega
    refine ⟨hgo, I.hok.fresh ge, by show h'.objs.size ≠ s.heap.objs.size; omega, fun z => ?_, hgd⟩
    rcases List.mem_cons.mp (I.stkSub _ z) with z | z
    · have z : h'.objs.size = X.env.locals := z
      exact Nat.ne_of_lt (Nat.lt_of_lt_of_le I.lt ge) z.symm
    · exact I.nofs ge z
end
section
/-- what the consumer holds beside, what it is told, where it goes on, the end -/
structure GPar where
  ext : List V → List (Addr × Obj) → Prop
  yld : List V → V → Hp → Prop
  go : List V → V → Hp → Prop
  fin : List V → Hp → Prop
def YG (Y : Cx) (ga : Addr) (go : Obj) (p : GPar) : Protocol := fun _ _ v s kap => ∃ (ys : List V) (y : V) (H' : Hp) (ps pf : List (Addr × Obj)) (σ' : L2.St), RelV y v ∧ p.ext ys ps ∧ (∀ q ∈ pf, q.1 < Y.env.locals) ∧ Inv Y (((ga, go) :: ps) ++ pf) σ' H' s ∧ p.yld ys y H' ∧
  ∀ s' ps', p.ext (ys ++ [y]) ps' → Inv Y (((ga, go) :: ps') ++ pf) σ' H' s' → p.go ys y H' → kap (.send .none) s'
def RG (Y : Cx) (ga : Addr) (go : Obj) (p : GPar) : Shared → Prop := fun s => ∃ (ys : List V) (H' : Hp) (ps : List (Addr × Obj)) (σ' : L2.St), p.ext ys ps ∧ Inv Y ((ga, go) :: ps) σ' H' s ∧ p.fin ys H'
theorem gen_loop {Y : Cx} {A : Around} {ga : Addr} {go : Obj} {p : GPar} {elt tg iter : Expr} {ifs : List Expr} {scope : Scope} {pos : Pos} {it : Addr} {fp : List Addr} {tn : Nat → Heap → Prop} {J : It} {g : TG} {tt : TT} {te : TE} {σ : L2.St} {vs : List Nat} {W : List V → Nat → Nat → Hp → Prop}
    (hcal : Y.calm = true) (hpn : Y.pn = []) (T : Turn Y.prog Y.w Y.K tg J fp it tn) (hpg : PG Y tg g) (hpt : PTs Y ifs tt) (hpe : PE Y elt te) (hxe : Y.xe = fun _ _ => False)
    (hA : A.over (.compLoop (.GeneratorExp elt [⟨tg, iter, ifs, 0⟩] scope pos) 0 (.ref it) .none Y.env) [] = Y.A) (hex : ∀ b ∈ fp, b ∈ Y.ex) (hga : ∀ b ∈ fp, ga ≠ b) (hext : ∀ ys ps, p.ext ys ps → ∀ q ∈ ps, ∀ b ∈ fp, q.1 ≠ b) (hco : Y.env.scope.isCoroutine = false) (hfl : ∀ b ∈ fp, b < Y.env.locals)
    (step : ∀ ys i m H, W ys i m H → (J.stop i H ∧ p.fin ys H) ∨ (J.go i H ∧ ∃ Nx : List V → Hp → Prop, (∀ ys' H', Nx ys' H' → ∃ m', m' < m ∧ W ys' (i + 1) m' H') ∧ ∀ x H', J.yld i H x H' → g x (wipe σ vs) H' fun σ2 H2 => wipe σ2 vs = wipe σ vs ∧ tt σ2 H2 fun b H3 =>
      if b = true then te σ2 H3 fun y H4 => p.yld ys y H4 ∧ (p.go ys y H4 → Nx (ys ++ [y]) H4) else Nx ys H3)) :
    ∀ (m n i : Nat) (ys : List V) (H : Hp) (ps : List (Addr × Obj)) (s₀ s : Shared), m < n → W ys i m H → p.ext ys ps → Inv Y ((ga, go) :: ps) (wipe σ vs) H s → tn i s.heap → (∀ b ∈ fp, H b = none) →
      Seg (model Y.prog Y.w) A (fun n s₀ r s₁ => r = .ok .next ∧ (fun _ _ s => RG Y ga go p s) n s₀ s₁) (YG Y ga go p) n s₀ (.compLoop (.GeneratorExp elt [⟨tg, iter, ifs, 0⟩] scope pos) 0 (.ref it) .none Y.env)
        ((model Y.prog Y.w).den (.compLoop (.GeneratorExp elt [⟨tg, iter, ifs, 0⟩] scope pos) 0 (.ref it) .none Y.env)) [] s := by
  intro m
  induction m using Nat.strongRecOn with
  | ind m ih =>
  intro n i ys H ps s₀ s hmn w0 ex0 I0 st0 n0
  have stat : ∀ {σ' : L2.St} {H' : Hp} {s' : Shared} {ys' ps'}, p.ext ys' ps' → Inv Y ((ga, go) :: ps') σ' H' s' → (∀ b ∈ fp, H' b = none) → ∀ b ∈ fp, FpOk Y ((ga, go) :: ps') H' b := fun {σ' H' s' ys' ps'} e' I' hn b hb =>
    ⟨hn b hb, (I'.ok.exf b (hex b hb)).1, I'.ok.exfs b (hex b hb), .inl (hex b hb), fun x c e => (I'.ok.exf b (hex b hb)).2 x c e, fun q hq => by
      rw [hpn, List.nil_append] at hq
      rcases List.mem_cons.mp hq with z | z
      · rw [z]; exact hga b hb
      · exact hext _ _ e' q z b hb⟩
  show Seg _ A _ _ _ s₀ _ ((compTurn (.GeneratorExp elt [⟨tg, iter, ifs, 0⟩] scope pos) 0 (.ref it) .none Y.env).onRaise (leaving Y.env)) [] s
  rw [compTurn_gen, Sem.onRaise_eq_wrap]
  refine seg_bind_wrap (wpAny_standAt ?_)
  rcases step ys i m H w0 with ⟨stop, qf⟩ | ⟨gon, Nx, hNx, turn⟩
  · refine seg_bind_wrap ?_
    rw [hA]
    refine thnF (T.done Y rfl rfl rfl hcal i _ s _ H (fun _ _ => False) I0 (stat ex0 I0 n0) st0 stop) fun r s6 ⟨hr, I6⟩ => ?_
    subst hr
    exact seg_end (.ok .next) ⟨rfl, ys, H, ps, _, ex0, I6, qf⟩
  · refine seg_bind_wrap ?_
    rw [hA]
    refine thnF (T.item Y rfl rfl rfl hcal i _ s _ H (fun _ _ => False) I0 (stat ex0 I0 n0) st0 gon) fun r s6 ⟨u, hr, h6⟩ => ?_
    subst hr
    refine seg_bind_wrap ?_
    rw [hA]
    refine thnF h6 fun _ s7 ⟨x, H7, I7, r7, y7, st7, n7⟩ => ?_
    have I7' := I7.pinned (stat ex0 I7 n7) (T.obj _ _ st7)
    refine seg_bind_wrap ?_
    rw [hA]
    have fx : ∀ {α : Type} {t : Sem α} {Q : α → Shared → Prop} {s : Shared}, wpAny (model Y.prog Y.w) Y.A t Q Y.xe s → wpAny (model Y.prog Y.w) Y.A t Q (fun _ _ => False) s := fun h => by rw [hxe] at h; exact h
    refine thnF (fx (hpg.run _ s7 _ H7 x u _ I7' r7 (turn x H7 y7))) fun _ s8 ⟨σ8, H8, I8, hw8, q8⟩ => ?_
    refine seg_bind_wrap ?_
    rw [hA]
    refine thnF (fx (hpt.run _ s8 σ8 H8 _ I8 q8)) fun b s9 ⟨H9, I9, q9⟩ => ?_
    have fin : ∀ {s' : Shared} {H' : Hp} {ys' ps' m'}, m' < m → ∀ {n' : Nat} {s₀' : Shared}, m' < n' → p.ext ys' ps' → Inv Y (((ga, go) :: ps') ++ pinsAt fp s7.heap) σ8 H' s' → W ys' (i + 1) m' H' → Seg (model Y.prog Y.w) A (fun n s₀ r s₁ => r = .ok .next ∧ (fun _ _ s => RG Y ga go p s) n s₀ s₁) (YG Y ga go p) n' s₀' (.compLoop (.GeneratorExp elt [⟨tg, iter, ifs, 0⟩] scope pos) 0 (.ref it) .none Y.env)
        ((model Y.prog Y.w).den (.compLoop (.GeneratorExp elt [⟨tg, iter, ifs, 0⟩] scope pos) 0 (.ref it) .none Y.env)) [] s' := fun {s' H' ys' ps' m'} hm {n' s₀'} hn e' I' w' => by
      have pin' : ∀ b ∈ fp, ∀ o, s7.heap.get? b = some o → s'.heap.get? b = some o ∧ H' b = none := fun b hb o e =>
        let z := I'.pin (b, o) (List.mem_append_right _ (List.mem_append_right _ (mem_pinsAt hb e)))
        ⟨z.1, z.2.1⟩
      have hl : (wipe σ vs).length = σ8.length := by rw [← hw8, wipe_length]
      have I2 : Inv Y ((ga, go) :: ps') σ8 H' s' := I'.pins_of fun q hq => I'.pin q (List.mem_append_right _ (List.mem_append_left _ hq))
      refine ih m' hm n' (i + 1) ys' H' ps' s₀' s' hn w' e' (I2.weak hl fun j v e => ?_) (T.keep _ _ _ st7 fun b hb o e => (pin' b hb o e).1) fun b hb => ?_
      · rw [← hw8] at e
        exact (wipe_some e).1
      · obtain ⟨o, e, _⟩ := T.obj _ _ st7 b hb
        exact (pin' b hb o e).2
    cases b with
    | false =>
      simp only [Bool.false_eq_true, if_false] at q9 ⊢
      obtain ⟨m', hm, w'⟩ := hNx _ _ q9
      exact seg_again rfl (fin hm (by omega) ex0 I9 w')
    | true =>
      simp only [if_true] at q9 ⊢
      have hy : ∀ v, yieldOut Y.env v = yieldValue v := fun v => by simp only [yieldOut, hco, Bool.false_eq_true, if_false]
      simp only [hy]
      rw [Sem.bind_eq_wrap', Sem.bind_eq_wrap', Sem.wrap_wrap, Sem.wrap_wrap]
      refine seg_wrap ?_
      rw [hA]
      refine thnF (fx (hpe.run _ s9 σ8 H9 _ I9 q9)) fun z s10 ⟨yv, H10, I10, r10, yl, cont⟩ => ?_
      obtain ⟨n, rfl⟩ : ∃ k, n = k + 1 := ⟨n - 1, by omega⟩
      refine seg_at (seg_yield rfl rfl rfl ⟨ys, yv, H10, ps, pinsAt fp s7.heap, σ8, r10, ex0, fun q hq => hfl _ (of_pinsAt hq).1, I10, yl, fun s' ps' e' I' go' => ?_⟩)
      obtain ⟨m', hm, w'⟩ := hNx _ _ (cont go')
      exact seg_again rfl (fin hm (by omega) e' I' w')
theorem gen_begin {Y : Cx} {A : Around} {elt tg iter : Expr} {ifs : List Expr} {scope : Scope} {pos : Pos} {it : Addr} {R : GenEnd} {Yp : Protocol} {n : Nat} {s₀ s : Shared} {cenv : Env}
    (self : ∀ (B : Around) (Q : Value → Shared → Prop) (E : Value → Shared → Prop), Q (.ref it) s → wpAny (model Y.prog Y.w) B (pyIter (.ref it)) Q E s)
    (loop : Seg (model Y.prog Y.w) A R Yp n s₀ (.compLoop (.GeneratorExp elt [⟨tg, iter, ifs, 0⟩] scope pos) 0 (.ref it) .none cenv) ((model Y.prog Y.w).den (.compLoop (.GeneratorExp elt [⟨tg, iter, ifs, 0⟩] scope pos) 0 (.ref it) .none cenv)) [] s) :
    Seg (model Y.prog Y.w) A R Yp n s₀ (.compStart (.GeneratorExp elt [⟨tg, iter, ifs, 0⟩] scope pos) 0 (.ref it) .none cenv) ((model Y.prog Y.w).den (.compStart (.GeneratorExp elt [⟨tg, iter, ifs, 0⟩] scope pos) 0 (.ref it) .none cenv)) [] s := by
  show Seg _ A _ _ _ s₀ _ ((compStart (.GeneratorExp elt [⟨tg, iter, ifs, 0⟩] scope pos) 0 (.ref it) .none cenv).onRaise (leaving cenv)) [] s
  unfold compStart
  rw [Sem.onRaise_eq_wrap]
  show Seg _ A _ _ _ s₀ _ ((ask >>= _).wrap _ _ _ _) [] s
  refine seg_bind_wrap (wpAny_askSetting ?_)
  split
  · exact seg_again rfl loop
  · first
      | exact seg_bind_wrap (wpAny_rule (seg_bind_wrap (wpAny_standAt (seg_bind_wrap (self _ _ _ (seg_again rfl loop))))))
      | (refine seg_bind_wrap (wpAny_rule ?_); show Seg _ A _ _ _ s₀ _ ((standAt iter.pos >>= _).wrap _ _ _ _) [] s; exact seg_bind_wrap (wpAny_standAt (seg_bind_wrap (self _ _ _ (seg_again rfl loop)))))
end
section
def GAt (X Y : Cx) (ga : Addr) (gi : Nat) (go : Obj) (p : GPar) (n : Nat) (s : Shared) : Prop := s.heap.IsGen ga gi ∧ s.heap.NoLimit ∧ ∃ gs, s.gens[gi]? = some gs ∧
  gs.Goes (model X.prog X.w) X.A.in1.in1.in1.in1 (fun n s₀ r s₁ => r = .ok .next ∧ (fun _ _ s => RG Y ga go p s) n s₀ s₁) (YG Y ga go p) n (.send .none) (s.setGen gi .running)
theorem inv_gens {Y : Cx} {pins : List (Addr × Obj)} {σ : L2.St} {H : Hp} {s : Shared} {G : Array GenState} (I : Inv Y pins σ H s) (hG : AllBare G) : Inv Y pins σ H { s with gens := G } :=
  I.call (g' := G) (t' := s.toks) (d' := s.drawn) (ch := []) Un.refl I.hok hG (fun b z => by simp at z)
theorem inv_setGen {Y : Cx} {pins : List (Addr × Obj)} {σ : L2.St} {H : Hp} {s : Shared} {gi : Nat} {x : GenState} (I : Inv Y pins σ H s) (hx : x.bare = true) : Inv Y pins σ H (s.setGen gi x) :=
  inv_gens I (allBare_setGen I.bare hx)
theorem gat_next {X Y : Cx} {ga : Addr} {gi : Nat} {go : Obj} {p : GPar} {n : Nat} {s : Shared} {E : Value → Shared → Prop} (hh : X.A.handled = none) (hroom : X.A.depth < recursionLimit) (hpr : Y.prog = X.prog) (hw : Y.w = X.w)
    (hgo : ∀ h : Heap, h.get? ga = some go → h.IsGen ga gi) (h : GAt X Y ga gi go p n s) :
    wpAny (model X.prog X.w) X.A.in1.in1.in1 (pyNext (.ref ga)) (fun r s' =>
      (∃ v, r = some v ∧ ∃ (ys : List V) (y : V) (H' : Hp) (ps pf : List (Addr × Obj)) (σ' : L2.St), RelV y v ∧ p.ext ys ps ∧ (∀ q ∈ pf, q.1 < Y.env.locals) ∧ Inv Y (((ga, go) :: ps) ++ pf) σ' H' s' ∧ p.yld ys y H' ∧
        ∀ s'' ps', p.ext (ys ++ [y]) ps' → Inv Y (((ga, go) :: ps') ++ pf) σ' H' s'' → s''.gens = s'.gens → p.go ys y H' → ∃ m, n = m + 1 ∧ GAt X Y ga gi go p m s'') ∨
      (r = none ∧ RG Y ga go p s')) E s := by
  obtain ⟨hg, hl, gs, hgs, hgoes⟩ := h
  have hgl : gi < s.gens.size := (Array.getElem?_eq_some_iff.mp hgs).1
  refine wpAny_mono (GenW.wpAny_gsz (n := gi + 1) hgl (wpAny_pyNext_genexpQ (A := X.A.in1.in1.in1) (P := fun _ _ s => RG Y ga go p s) (Q := fun r s' => gi + 1 ≤ s'.gens.size → _) hh hl hroom hg hgs hgoes (fun v s₁ gs' hb hv => ?_) (fun s₁ hp h' hk => ?_))) (fun r s' z => z) (fun _ _ z => z)
  · intro hsz
    obtain ⟨ys, y, H', ps, pf, σ', rv, ex, pl, I, yl, kap⟩ := hv
    refine .inl ⟨v, rfl, ys, y, H', ps, pf, σ', rv, ex, pl, inv_setGen I hb, yl, fun s'' ps' ex' I' eg go' => ?_⟩
    have hsz1 : gi < s₁.gens.size := by
      have q : (s₁.setGen gi gs').gens.size = s₁.gens.size := GenW.setGen_size _ _ _
      have hsz' : gi + 1 ≤ (s₁.setGen gi gs').gens.size := hsz
      omega
    have k := kap (s''.setGen gi .running) ps' ex' (inv_setGen I' rfl) go'
    cases n with
    | zero => exact k.elim
    | succ m =>
      refine ⟨m, rfl, hgo _ (I'.pin (ga, go) (List.mem_append_right _ (List.mem_append_left _ List.mem_cons_self))).1, I'.nolimit, gs', ?_, k⟩
      rw [eg]
      exact setGen_at hsz1
  · intro _
    obtain ⟨ys, H', ps, σ', ex, I, fi⟩ := hp
    refine .inr ⟨rfl, ys, H', ps, σ', ex, ?_, fi⟩
    exact I.call' (s' := { s₁.setGen gi .finished with heap := h' }) (ch := []) rfl (Un.kept hk) (I.hok.kept hk) (allBare_setGen I.bare rfl) (fun b z => by simp at z)
theorem entry_all2 : entryFor table "all" = some Builtin.«all» := PySem.F.entry_all
/-- all(g): the consumer's loop -/
theorem all_loop {X Y : Cx} {ga : Addr} {gi : Nat} {go : Obj} {p : GPar} {R : Result → Shared → Prop} (hh : X.A.handled = none) (hroom : X.A.depth < recursionLimit) (hpr : Y.prog = X.prog) (hw : Y.w = X.w) (hgo : ∀ h : Heap, h.get? ga = some go → h.IsGen ga gi)
    (hext : ∀ ys, p.ext ys []) (hext2 : ∀ ys ps, p.ext ys ps → ps = []) (hy : ∀ ys y H, p.yld ys y H → ∃ b, y = .bl b ∧ (b = true → p.go ys y H))
    (hno : ∀ ys H' pf σ' s', p.yld ys (.bl false) H' → Inv Y ((ga, go) :: pf) σ' H' s' → R (.ok (.ret (.bool false))) s') (hyes : ∀ ys H' σ' s', p.fin ys H' → Inv Y [(ga, go)] σ' H' s' → R (.ok (.ret (.bool true))) s') :
    ∀ (n : Nat) (s : Shared), GAt X Y ga gi go p n s → codeAny (model X.prog X.w) X.A (.builtin "all.loop" ⟨[.ref ga], []⟩) R s := by
  intro n
  induction n with
  | zero =>
    intro s h
    refine codeAny_builtin PySem.F.entry_all_loop ?_
    rw [Around.under_plainId PySem.F.plain_all_loop _]
    show wpAny _ X.A.in1 (pyNext (.ref ga) >>= _) _ _ s
    refine wpAny_bind (wpAny_of_in1 (wpAny_of_in1 (wpAny_mono (gat_next hh hroom hpr hw hgo h) (fun r s' z => ?_) fun _ _ e => e)))
    rcases z with ⟨v, rfl, ys, y, H', ps, pf, σ', rv, ex, _, I, yl, k⟩ | ⟨rfl, ys, H', ps, σ', ex, I, fi⟩
    · obtain ⟨b, rfl, gob⟩ := hy _ _ _ yl
      obtain rfl : v = Value.bool b := rv
      obtain rfl := hext2 _ _ ex
      refine wpAny_bind (wpAny_holding (wpAny_truthy_bool ?_))
      refine wpAny_bind (wpAny_letGo ?_)
      cases b with
      | true =>
        obtain ⟨m, hm, _⟩ := k s' [] (hext _) I rfl (gob rfl)
        exact absurd hm (by omega)
      | false =>
        simp only [Bool.false_eq_true, if_false]
        exact wpAny_bind (wpAny_rule (wpAny_pure (hno _ _ _ _ _ yl I)))
    · obtain rfl := hext2 _ _ ex
      exact wpAny_bind (wpAny_rule (wpAny_pure (hyes _ _ _ _ fi I)))
  | succ n ih =>
    intro s h
    refine codeAny_builtin PySem.F.entry_all_loop ?_
    rw [Around.under_plainId PySem.F.plain_all_loop _]
    show wpAny _ X.A.in1 (pyNext (.ref ga) >>= _) _ _ s
    refine wpAny_bind (wpAny_of_in1 (wpAny_of_in1 (wpAny_mono (gat_next hh hroom hpr hw hgo h) (fun r s' z => ?_) fun _ _ e => e)))
    rcases z with ⟨v, rfl, ys, y, H', ps, pf, σ', rv, ex, _, I, yl, k⟩ | ⟨rfl, ys, H', ps, σ', ex, I, fi⟩
    · obtain ⟨b, rfl, gob⟩ := hy _ _ _ yl
      obtain rfl : v = Value.bool b := rv
      obtain rfl := hext2 _ _ ex
      refine wpAny_bind (wpAny_holding (wpAny_truthy_bool ?_))
      refine wpAny_bind (wpAny_letGo ?_)
      cases b with
      | true =>
        obtain ⟨m, hm, g2⟩ := k s' [] (hext _) I rfl (gob rfl)
        obtain rfl : m = n := by omega
        simp only [if_true]
        exact wpAny_pure ⟨plainId_quiet PySem.F.plain_all_loop _, ih _ g2⟩
      | false =>
        simp only [Bool.false_eq_true, if_false]
        exact wpAny_bind (wpAny_rule (wpAny_pure (hno _ _ _ _ _ yl I)))
    · obtain rfl := hext2 _ _ ex
      exact wpAny_bind (wpAny_rule (wpAny_pure (hyes _ _ _ _ fi I)))
end
section
variable {X : Cx} {pins : List (Addr × Obj)} {σ : L2.St} {H : Hp} {s : Shared}
theorem gen_mk {c P : Addr} {elt tg iter : Expr} {ifs : List Expr} {scope : Scope} {own : List (Str × Nat)} {gpos : Pos} {wi : TI} {g : TG} {tt : TT} {te : TE} {k : Nat} {R : It → Hp → Prop} {Q' : Value → Shared → Prop}
    (hr : Room (k + 1) X.A) (hc : X.calm = true) (hN : X.N.Nodup) (TB : GxR.TabB X.base X.mg c P) (hcode : X.env.code = .ref c) (ok : GenOk X.N X.env.scope scope own) (hi : PI X tg iter wi)
    (hg : ∀ (s : Shared) (H : Hp) (C : Addr) (code : Value) (fp : List Addr), Room k (Cx.gblk X s H scope C code fp).A → PG (Cx.gblk X s H scope C code fp) tg g)
    (ht : ∀ (s : Shared) (H : Hp) (C : Addr) (code : Value) (fp : List Addr), Room k (Cx.gblk X s H scope C code fp).A → PTs (Cx.gblk X s H scope C code fp) ifs tt)
    (he : ∀ (s : Shared) (H : Hp) (C : Addr) (code : Value) (fp : List Addr), Room k (Cx.gblk X s H scope C code fp).A → PE (Cx.gblk X s H scope C code fp) elt te)
    (hs : ∀ x, genFold iter X.env x = pure x) (I : Inv X pins σ H s) (h : wi σ H fun J H1 => GxR.TabG H1 P ∧ R J H1)
    (fin : ∀ (J : It) (H1 H4 : Hp) (Y : Cx) (s5 : Shared) (pf : List (Addr × Obj)) (ga : Addr) (gi : Nat) (go : Obj), R J H1 → GxR.Tabbed P H1 H4 → Y.prog = X.prog → Y.w = X.w → (∀ h : Heap, h.get? ga = some go → h.IsGen ga gi) → s5.heap.objs.size = ga + 1 → Y.s_0.heap.objs.size ≤ Y.env.locals → Y.pn = [] →
      Inv Y ([(ga, go)] ++ pf) (wipe σ (own.map (·.2))) H4 s5 → (∀ {pins' σ' H' s'}, Inv Y pins' σ' H' s' → Inv X pins σ H' s') →
      (∀ (p : GPar) (W : List V → Nat → Nat → Hp → Prop) (m : Nat), (∀ ys ps, p.ext ys ps → ∀ q ∈ ps, s5.heap.objs.size ≤ q.1) →
        (∀ ys i m H, W ys i m H → (J.stop i H ∧ p.fin ys H) ∨ (J.go i H ∧ ∃ Nx : List V → Hp → Prop, (∀ ys' H', Nx ys' H' → ∃ m', m' < m ∧ W ys' (i + 1) m' H') ∧ ∀ x H', J.yld i H x H' → g x (wipe σ (own.map (·.2))) H' fun σ2 H2 => wipe σ2 (own.map (·.2)) = wipe σ (own.map (·.2)) ∧ tt σ2 H2 fun b H3 =>
          if b = true then te σ2 H3 fun y H4 => p.yld ys y H4 ∧ (p.go ys y H4 → Nx (ys ++ [y]) H4) else Nx ys H3)) →
        W [] 0 m H4 → ∀ s' ps, p.ext [] ps → Inv Y (((ga, go) :: ps) ++ pf) (wipe σ (own.map (·.2))) H4 s' → s'.gens = s5.gens → GAt X Y ga gi go p (m + 1) s') →
      Q' (.ref ga) s5) :
    wpAny (model X.prog X.w) X.A (eval (.GeneratorExp elt [⟨tg, iter, ifs, 0⟩] scope gpos) X.env) Q' X.xe s := by
  have hfree : ∀ y ∈ scope.names, y.2 = .free → ∃ c, X.env.cells.lookup y.1 = some c := fun y hy e => by
    rcases ok.blk.free y hy e with k | k
    · exact I.ok.has _ (.inl k)
    · exact I.ok.has _ (.inr k)
  refine wpAny_GeneratorExp_make ok.co (closure_ok hfree) ok.cel ok.dot ok.blk.kind (by have := hr.dp; omega) (thn (hi.run pins s σ H _ I h) fun xv s1 hx => thn hx fun itv s2 h2 => ?_) hs
  obtain ⟨it, fp, tn, J, H2, rfl, I2, T, st2, f2, ⟨ps, hP, trip⟩, r⟩ := h2
  refine ⟨I2.nolimit, ?_⟩
  have hPs : s2.heap.get? P = some { cls := .none, data := .fields ps } := I2.hok P _ hP
  have cd : PySem.W.CodeHd s2.heap c P := TB.code.keeps fun b u e => I2.bk b u e
  have nfP : ∀ b ∈ fp, b ≠ P := fun b hb z => by
    have := (f2 b hb).1
    rw [z, hP] at this
    cases this
  have go2 : ∀ (code : Value) (h3 : Heap) (tk : Nat) (more : Array Value), Heap.ExtBut P s2.heap h3 → h3.get? P = some { cls := .none, data := .fields (ps ++ more) } → TriplesOk (ps ++ more).toList →
      wpAny (model X.prog X.w) X.A (builtinsFor X.env.globals X.env.builtins) (fun bi s₄ => ∀ h', h'.Ns s₄.heap.objs.size (fun y => if y = ".0" then some (.ref it) else none) → Heap.SameBut s₄.heap.objs.size (s₄.heap.push { cls := .type "frame", data := .dict #[] }) h' →
          Q' (.ref h'.objs.size) { s₄ with
            gens := s₄.gens.push (.fresh (.compStart (.GeneratorExp elt [⟨tg, iter, ifs, 0⟩] scope gpos) 0 (.ref it) .none (genEnv scope (cloFrom X.env.cells scope.names []) s₄.heap.objs.size code bi X.env))),
            toks := s₄.toks + 1 + 1 + 1,
            heap := h'.push { cls := .type "generator", data := .fields #[.int s₄.gens.size 0, .str "<genexpr>" (s₄.toks + 1), .str (X.env.qual ++ "<genexpr>") (s₄.toks + 1 + 1)] } }) X.xe { s2 with heap := h3, toks := tk } := by
    intro code h3 tk more hx hP3 trip3
    obtain ⟨bm, ob, e1, e2, e3, e4, e5, e6, e7, e8⟩ := TB.bm
    have I4 : Inv X pins σ (upd H2 P (.tbl (ps ++ more))) { s2 with heap := h3, toks := tk } := GxR.inv_tab (g' := s2.gens) (d' := s2.drawn) (t' := tk) I2 hP (fun b u hb e => hx b u hb e) hP3 I2.bare
    have tb4 : GxR.Tabbed P H2 (upd H2 P (.tbl (ps ++ more))) := ⟨⟨_, upd_same, trip3⟩, fun b hb => upd_ne hb⟩
    refine wpAny_builtinsFor (m := X.mg) (by rw [I2.ok.glob]; exact (I2.mod.glob.keeps I2.bk).extBut hx TB.gP) e1 e2 (hx _ _ e4 (I2.bk _ _ e5)) e6 e7 e8 ?_
    intro h' hn' hs'
    have f4 : ∀ b ∈ fp, FpOk X pins (upd H2 P (.tbl (ps ++ more))) b ∧ b < h3.objs.size := fun b hb => by
      obtain ⟨o, e, _⟩ := T.obj _ _ st2 b hb
      exact ⟨⟨(upd_ne (nfP b hb)).trans (f2 b hb).1, (f2 b hb).2⟩, Heap.lt_size (hx b o (nfP b hb) e)⟩
    have st4 : tn 0 h3 := T.keep _ _ _ st2 fun b hb o e => hx b o (nfP b hb) e
    generalize upd H2 P (.tbl (ps ++ more)) = H4 at I4 tb4 f4
    have szh : h'.objs.size = h3.objs.size + 1 := by rw [hs'.1]; exact Heap.size_push ..
    have main : ∀ (go : Obj) (G : Array GenState) (tk5 gi : Nat), (∀ h : Heap, h.get? h'.objs.size = some go → h.IsGen h'.objs.size gi) → (h'.push go).get? h'.objs.size = some go → (∀ v, go.data ≠ .cell v) → AllBare G →
        G[gi]? = some (.fresh (.compStart (.GeneratorExp elt [⟨tg, iter, ifs, 0⟩] scope gpos) 0 (.ref it) .none (genEnv scope (cloFrom X.env.cells scope.names []) h3.objs.size code builtinsNs X.env))) →
        Q' (.ref h'.objs.size) { s2 with gens := G, toks := tk5, heap := h'.push go } := by
      intro go G tk5 gi hgo hgo1 hgd hG hgi
      have Is := gen_start (s := { s2 with heap := h3, toks := tk }) (code := code) (tk := tk5) I4 ok hN f4 hn' hs' hG hgo1 hgd
      have hY := hg { s2 with heap := h3, toks := tk } H4 h3.objs.size code fp (Room.gen hr _)
      have tY := ht { s2 with heap := h3, toks := tk } H4 h3.objs.size code fp (Room.gen hr _)
      have eY := he { s2 with heap := h3, toks := tk } H4 h3.objs.size code fp (Room.gen hr _)
      have kp5 : ∀ b o, h3.get? b = some o → (h'.push go).get? b = some o := fun b o e => Heap.get?_push_of_some _ (hs'.extBut b o (Nat.ne_of_lt (Heap.lt_size e)) (Heap.get?_push_of_some _ e))
      have st5 : tn 0 (h'.push go) := T.keep _ _ _ st4 fun b hb o e => kp5 b o e
      have sz5 : (h'.push go).objs.size = h'.objs.size + 1 := Heap.size_push ..
      have gab : ∀ b ∈ fp, h'.objs.size ≠ b := fun b hb z => by
        have l := (f4 b hb).2
        have z : h'.objs.size = b := z
        have l2 : h3.objs.size < h'.objs.size := by rw [szh]; exact Nat.lt_succ_self _
        rw [z] at l2
        exact Nat.lt_irrefl _ (Nat.lt_trans l l2)
      have stat : ∀ b ∈ fp, FpOk (Cx.gblk X { s2 with heap := h3, toks := tk } H4 scope h3.objs.size code fp) [(h'.objs.size, go)] H4 b := fun b hb =>
        ⟨(f4 b hb).1.1, (Is.ok.exf b hb).1, Is.ok.exfs b hb, .inl hb, fun x c e => (Is.ok.exf b hb).2 x c e, fun q hq => by
          have hq : q = (h'.objs.size, go) := by simpa using hq
          rw [hq]
          exact gab b hb⟩
      have Ip := Is.pinned stat (T.obj _ _ st5)
      refine fin J H2 H4 (Cx.gblk X { s2 with heap := h3, toks := tk } H4 scope h3.objs.size code fp) _ (pinsAt fp (h'.push go)) h'.objs.size gi go r tb4 rfl rfl hgo sz5 (Nat.le_refl _) rfl Ip (fun {pins' σ' H' s'} I' => ?_) fun p W m hext step w0 s' ps' ex' I' eg => ?_
      · exact I4.call' (ch := fp) I'.os I'.base I'.hok I'.bare fun b hb => ⟨(f4 b hb).1.2.2.2.1, (f4 b hb).1.2.1, (f4 b hb).1.2.2.2.2.1, (f4 b hb).1.2.2.2.2.2⟩
      · have I2' : Inv (Cx.gblk X { s2 with heap := h3, toks := tk } H4 scope h3.objs.size code fp) ((h'.objs.size, go) :: ps') (wipe σ (own.map (·.2))) H4 s' := I'.pins_of fun q hq => I'.pin q (List.mem_append_right _ (List.mem_append_left _ hq))
        have pin' : ∀ b ∈ fp, ∀ o, (h'.push go).get? b = some o → s'.heap.get? b = some o := fun b hb o e => (I'.pin (b, o) (List.mem_append_right _ (List.mem_append_right _ (mem_pinsAt hb e)))).1
        have stn : tn 0 s'.heap := T.keep _ _ _ st5 fun b hb o e => pin' b hb o e
        have eg : s'.gens = G := eg
        rw [← eg] at hgi
        refine ⟨hgo _ (I'.pin (h'.objs.size, go) (List.mem_append_right _ (List.mem_append_left _ List.mem_cons_self))).1, I'.nolimit, _, hgi, rfl, ?_⟩
        refine gen_begin (Y := X) (fun B Q E q => T.self B 0 _ _ _ stn q) ?_
        exact gen_loop (Y := Cx.gblk X { s2 with heap := h3, toks := tk } H4 scope h3.objs.size code fp) (A := X.A.in1.in1.in1.in1) (σ := σ) (vs := own.map (·.2)) hc rfl T hY tY eY rfl over_gen (fun b hb => hb) gab
          (fun ys ps e q hq b hb z => by
            have l1 : (h'.push go).objs.size ≤ q.1 := hext ys ps e q hq
            have l2 := (f4 b hb).2
            rw [sz5, szh, z] at l1
            exact Nat.lt_irrefl _ (Nat.lt_of_lt_of_le l2 (Nat.le_of_succ_le (Nat.le_of_succ_le l1)))) ok.co (fun b hb => (f4 b hb).2) step m (m + 1) 0 [] H4 ps' _ _ (Nat.lt_succ_self m) w0 ex' (inv_setGen I2' rfl) stn fun b hb => (f4 b hb).1.1
    exact main _ _ _ _ (fun h e => ⟨_, _, _, e, rfl, rfl, rfl⟩) (Heap.get?_push_size _ rfl) (fun v z => by cases z) (AllBare.push I2.bare rfl) (Array.getElem?_push_size ..)
  cases hf : codeAmong gpos ps.toList with
  | none =>
    refine wpAny_genexprCodeX hcode (cd.code hPs trip) (cd.tab hPs) hf fun c' h' tk hx hge hlt hco' _ htab' _ => ?_
    obtain ⟨o1, vs, f1, tf, fl, tg, inF, tx, tt, op, _, _, _, _, _, _, _, _, _, htr, _⟩ := hco'
    exact go2 _ h' tk _ hx htab'.2 htr
  | some cv =>
    refine wpAny_genexprCode_hit hcode (cd.code hPs trip) hf ?_
    exact go2 cv s2.heap s2.toks #[] (Heap.ExtBut.refl _ _) (by rw [Array.append_empty]; exact hPs) (by rw [Array.append_empty]; exact trip)
/-- all(elt for tg in iter if ..) -/
def tAllE (P : Addr) (wi : TI) (g : TG) (tt : TT) (te : TE) (vs : List Nat) : TE := fun σ H Q => wi σ H fun J H1 => GxR.TabG H1 P ∧ ∀ H2, GxR.Tabbed P H1 H2 → ∃ W : Nat → Nat → Hp → Prop, (∃ m, W 0 m H2) ∧ ∀ i m H, W i m H →
  (J.stop i H ∧ Q (.bl true) H) ∨ (J.go i H ∧ ∃ Nx : Hp → Prop, (∀ H', Nx H' → ∃ m', m' < m ∧ W (i + 1) m' H') ∧ ∀ x H', J.yld i H x H' → g x (wipe σ vs) H' fun σ2 H3 => wipe σ2 vs = wipe σ vs ∧ tt σ2 H3 fun b H4 =>
    if b = true then te σ2 H4 fun y H5 => (∃ c : Bool, y = .bl c ∧ (c = false → Q (.bl false) H5)) ∧ (y = .bl true → Nx H5) else Nx H4)
theorem pe_allE {c P : Addr} {elt tg iter : Expr} {ifs : List Expr} {scope : Scope} {own : List (Str × Nat)} {p pos gpos : Pos} {wi : TI} {g : TG} {tt : TT} {te : TE} {k : Nat}
    (hr : Room (k + 1) X.A) (hgl : Gl X "all") (hm : X.mg "all" = none) (hb : bootBuiltins "all" = some (.builtin "all")) (hc : X.calm = true) (hN : X.N.Nodup) (TB : GxR.TabB X.base X.mg c P) (hcode : X.env.code = .ref c) (ok : GenOk X.N X.env.scope scope own) (hi : PI X tg iter wi)
    (hg : ∀ (s : Shared) (H : Hp) (C : Addr) (code : Value) (fp : List Addr), Room k (Cx.gblk X s H scope C code fp).A → PG (Cx.gblk X s H scope C code fp) tg g)
    (ht : ∀ (s : Shared) (H : Hp) (C : Addr) (code : Value) (fp : List Addr), Room k (Cx.gblk X s H scope C code fp).A → PTs (Cx.gblk X s H scope C code fp) ifs tt)
    (he : ∀ (s : Shared) (H : Hp) (C : Addr) (code : Value) (fp : List Addr), Room k (Cx.gblk X s H scope C code fp).A → PE (Cx.gblk X s H scope C code fp) elt te)
    (hs : ∀ x, genFold iter X.env x = pure x := by intro _; rfl)
    (hst : starEach [.GeneratorExp elt [⟨tg, iter, ifs, 0⟩] scope gpos] X.env = (false, eval (.GeneratorExp elt [⟨tg, iter, ifs, 0⟩] scope gpos) X.env) :: starEach [] X.env := by rfl) :
    PE X (.Call (.Name "all" p) [.GeneratorExp elt [⟨tg, iter, ifs, 0⟩] scope gpos] [] pos) (tAllE P wi g tt te (own.map (·.2))) := by
  constructor
  intro pins s σ H Q I h
  refine wpAny_Call_Name_kw (ld_blt I hgl hm hb (PyProof.Rows.callWith_builtin1 ?_ hst (by rfl)))
  rw [hst]
  show wpAny _ _ (spliced ((false, eval (.GeneratorExp elt [⟨tg, iter, ifs, 0⟩] scope gpos) X.env) :: backTo pos (starEach [] X.env))) _ _ s
  refine Calls.spliced_cons (gen_mk hr hc hN TB hcode ok hi hg ht he hs I h fun J H1 H4 Y s5 pf ga gi go r tb hpr hw hgo sz sl hpn I5 back goes => ?_)
  refine Calls.spliced_nil ?_
  obtain ⟨W, ⟨m, w0⟩, step⟩ := r H4 tb
  have hgen : s5.heap.IsGen ga gi := hgo _ (I5.pin (ga, go) (List.mem_append_right _ (List.mem_append_left _ List.mem_cons_self))).1
  have g0 := goes ⟨fun _ ps => ps = [], fun _ y H' => ∃ b : Bool, y = .bl b ∧ (b = false → Q (.bl false) H'), fun _ y _ => y = .bl true, fun _ H' => Q (.bl true) H'⟩ (fun _ i m H => W i m H) m (fun ys ps e q hq => by
      have e : ps = [] := e
      rw [e] at hq
      cases hq) (fun ys i m H w => (step i m H w).imp id fun ⟨a, Nx, hNx, b⟩ => ⟨a, fun _ H => Nx H, fun _ H' z => hNx H' z, fun x H' y => b x H' y⟩) w0 s5 [] rfl I5 rfl
  refine call_function_tree PySem.F.kind_all PySem.F.plain_all PySem.F.entry_all (PySem.F.args_all1 _) ?_
  unfold Builtin.«all»
  refine wpAny_bind (m := oneArg "all" _) (wpAny_pure ?_)
  refine wpAny_bind (wpAny_pyIter_gen hgen ?_)
  refine wpAny_pure ⟨plainId_quiet PySem.F.plain_all_loop _, all_loop (X := X) hr.hd (by have := hr.dp; omega) hpr hw hgo (fun _ => rfl) (fun _ _ e => e) (fun ys y H' (z : ∃ b : Bool, y = .bl b ∧ (b = false → Q (.bl false) H')) => ?_) (fun ys H' pf' σ' s' (z : ∃ b : Bool, V.bl false = .bl b ∧ (b = false → Q (.bl false) H')) I' => ?_) (fun ys H' σ' s' q I' => ?_) (m + 1) s5 g0⟩
  · obtain ⟨b, e, q⟩ := z
    exact ⟨b, e, fun z => by rw [e, z]⟩
  · obtain ⟨b, e, q⟩ := z
    cases e
    exact ⟨.bl false, H', back I', rfl, q rfl⟩
  · exact ⟨.bl true, H', back I', rfl, q⟩
end
/-- .. over what is walked as a Walk says -/
theorem ga_it {J : It} {n : Nat} {G : Hp → Prop} {Y : Nat → Hp → V → Hp → Prop} (w : Walk J n G Y) {g : TG} {tt : TT} {te : TE} {vs : List Nat} {σ : L2.St} {H2 : Hp} {Q : VK} (Pv : Nat → Hp → Prop) (h0 : Pv 0 H2) (hG : ∀ i H, i ≤ n → Pv i H → G H)
    (hs : ∀ i x H H', i < n → Pv i H → Y i H x H' → g x (wipe σ vs) H' fun σ2 H3 => wipe σ2 vs = wipe σ vs ∧ tt σ2 H3 fun b H4 => if b = true then te σ2 H4 fun y H5 => (∃ c : Bool, y = .bl c ∧ (c = false → Q (.bl false) H5)) ∧ (y = .bl true → Pv (i + 1) H5) else Pv (i + 1) H4) (hd : ∀ H, Pv n H → Q (.bl true) H) :
    ∃ W : Nat → Nat → Hp → Prop, (∃ m, W 0 m H2) ∧ ∀ i m H, W i m H →
      (J.stop i H ∧ Q (.bl true) H) ∨ (J.go i H ∧ ∃ Nx : Hp → Prop, (∀ H', Nx H' → ∃ m', m' < m ∧ W (i + 1) m' H') ∧ ∀ x H', J.yld i H x H' → g x (wipe σ vs) H' fun σ2 H3 => wipe σ2 vs = wipe σ vs ∧ tt σ2 H3 fun b H4 =>
        if b = true then te σ2 H4 fun y H5 => (∃ c : Bool, y = .bl c ∧ (c = false → Q (.bl false) H5)) ∧ (y = .bl true → Nx H5) else Nx H4) := by
  refine ⟨fun i m H => m = n - i ∧ i ≤ n ∧ Pv i H, ⟨n, by simp, Nat.zero_le _, h0⟩, ?_⟩
  rintro i m H ⟨rfl, hi, p⟩
  have q := hG i H hi p
  by_cases hlt : i < n
  · refine .inr ⟨w.goes i H hlt q, Pv (i + 1), fun H' p' => ⟨n - (i + 1), by omega, rfl, hlt, p'⟩, fun x H' y => hs i x H H' hlt p (w.yields i H x H' hlt q y)⟩
  · have e : i = n := by omega
    subst e
    exact .inl ⟨w.stops H q, hd H p⟩
section
/-- what stands beside a list that is filled from the generator -/
structure Beside (Y : Cx) (S : Addr) : Prop where
  s0 : Y.s_0.heap.objs.size ≤ S
  lt : Y.env.locals < S
  cell : ∀ x c, Y.env.cells.lookup x = some c → c ≠ S
  fs : S ∉ Y.fs
  pn : Y.pn = []
def LExt (S : Addr) : List V → List (Addr × Obj) → Prop := fun ys ps => ∃ acc c, ps = [(S, lstObj acc c)] ∧ Vals ys acc.toList ∧ ys.length ≤ sizeLine
theorem inv_list {Y : Cx} {S ga : Addr} {go : Obj} {acc : Array Value} {c : Nat} {pf : List (Addr × Obj)} {σ : L2.St} {H : Hp} {s : Shared} {v : Value} (B : Beside Y S) (hga : ga ≠ S) (hpf : ∀ q ∈ pf, q.1 < Y.env.locals) (I : Inv Y (((ga, go) :: [(S, lstObj acc c)]) ++ pf) σ H s) :
    s.heap.get? S = some (lstObj acc c) ∧ ∃ c', Inv Y (((ga, go) :: [(S, lstObj (acc.push v) c')]) ++ pf) σ H { s with heap := s.heap.update S (Obj.mapSeq (·.push v)) } := by
  obtain ⟨eS, nS, nL, nf, _⟩ := I.pin (S, lstObj acc c) (List.mem_append_right _ (List.mem_append_left _ (List.mem_cons_of_mem _ List.mem_cons_self)))
  refine ⟨eS, ?_⟩
  have I0 : Inv Y ((ga, go) :: pf) σ H s := I.pins_of fun q hq => I.pin q (List.mem_append_right _ (by
    rcases List.mem_cons.mp hq with z | z
    · rw [z]; exact List.mem_append_left _ List.mem_cons_self
    · exact List.mem_append_right _ z))
  have kp : ∀ b o, b ≠ S → s.heap.get? b = some o → (s.heap.update S (Obj.mapSeq (·.push v))).get? b = some o := fun b o hb e => (Heap.get?_update_other _ _ (Ne.symm hb)).trans e
  have I1 := I0.turned (t' := s.toks) (it := S) kp nS nL (.inr B.s0) B.cell (fun q hq z => by
    rw [B.pn, List.nil_append] at hq
    rcases List.mem_cons.mp hq with z2 | z2
    · rw [z2] at z; exact hga z
    · exact Nat.lt_irrefl _ (Nat.lt_trans (z ▸ hpf q z2) B.lt))
  have e2 : ∃ c', (s.heap.update S (Obj.mapSeq (·.push v))).get? S = some (lstObj (acc.push v) c') := ⟨_, Heap.get?_update_self _ eS rfl⟩
  obtain ⟨c', e2⟩ := e2
  refine ⟨c', I1.pins_of fun q hq => ?_⟩
  rcases List.mem_append.mp hq with z | z
  · rcases List.mem_cons.mp z with z | z
    · rw [z]
      exact I1.pin (ga, go) (List.mem_append_right _ List.mem_cons_self)
    · have z : q = (S, lstObj (acc.push v) c') := by simpa using z
      rw [z]
      exact ⟨e2, nS, nL, nf, fun v q => by cases q⟩
  · exact I1.pin q (List.mem_append_right _ (List.mem_cons_of_mem _ z))
theorem ext_loopG {X Y : Cx} {ga S : Addr} {gi : Nat} {go : Obj} {p : GPar} {res : Value} {R : Result → Shared → Prop} (hh : X.A.handled = none) (hroom : X.A.depth < recursionLimit) (hpr : Y.prog = X.prog) (hw : Y.w = X.w) (hgo : ∀ h : Heap, h.get? ga = some go → h.IsGen ga gi)
    (B : Beside Y S) (hga : ga ≠ S) (hext : p.ext = LExt S) (hy : ∀ ys y H, p.yld ys y H → ys.length < sizeLine ∧ p.go ys y H)
    (hend : ∀ ys H' acc c σ' s', p.fin ys H' → Vals ys acc.toList → ys.length ≤ sizeLine → s'.heap.get? S = some (lstObj acc c) → (∃ ps, Inv Y ps σ' H' s') → R (.ok (.ret res)) s') :
    ∀ (n : Nat) (s : Shared), GAt X Y ga gi go p n s → codeAny (model X.prog X.w) X.A.in1.in1 (.builtin "list.extend.loop" ⟨[.ref S, .ref ga, res], []⟩) R s := by
  have main : ∀ (n : Nat) (s : Shared) (ih : ∀ m s', n = m + 1 → GAt X Y ga gi go p m s' → codeAny (model X.prog X.w) X.A.in1.in1 (.builtin "list.extend.loop" ⟨[.ref S, .ref ga, res], []⟩) R s'), GAt X Y ga gi go p n s → codeAny (model X.prog X.w) X.A.in1.in1 (.builtin "list.extend.loop" ⟨[.ref S, .ref ga, res], []⟩) R s := by
    intro n s ih h
    refine codeAny_builtin PySem.F.entry_extend_loop ?_
    rw [Around.under_plainId PySem.F.plain_extend_loop _]
    show wpAny _ X.A.in1.in1.in1 (pyNext (.ref ga) >>= _) _ _ s
    refine wpAny_bind (wpAny_mono (gat_next hh hroom hpr hw hgo h) (fun r s' z => ?_) fun _ _ e => e)
    rcases z with ⟨v, rfl, ys, y, H', ps, pf, σ', rv, ex, pl, I, yl, k⟩ | ⟨rfl, ys, H', ps, σ', ex, I, fi⟩
    · have ex2 := ex
      rw [hext] at ex2
      obtain ⟨acc, c, rfl, vs, hl⟩ := ex2
      obtain ⟨lt, gy⟩ := hy _ _ _ yl
      obtain ⟨eS, c', I2⟩ := inv_list (v := v) B hga pl I
      have la : acc.size = ys.length := by
        have := vs.length
        rw [Array.length_toList] at this
        exact this.symm
      obtain ⟨m, hm, g2⟩ := k _ _ (by
        rw [hext]
        exact ⟨acc.push v, c', rfl, by rw [Array.toList_push]; exact vs.append (.cons rv .nil), by rw [List.length_append]; exact lt⟩) I2 rfl gy
      show wpAny _ X.A.in1.in1.in1 (updateSeq S (·.push v) >>= _) _ _ _
      refine wpAny_bind ?_
      exact wpAny_updateSeq eS rfl (wpAny_pure ⟨plainId_quiet PySem.F.plain_extend_loop _, ih m _ hm g2⟩) (by show acc.size ≤ sizeLine; rw [la]; exact hl) (by show (acc.push v).size ≤ sizeLine + 1; rw [Array.size_push, la]; omega)
    · have ex2 := ex
      rw [hext] at ex2
      obtain ⟨acc, c, rfl, vs, hl⟩ := ex2
      exact wpAny_pure (hend ys H' acc c σ' s' fi vs hl (I.pin (S, lstObj acc c) (List.mem_append_right _ (List.mem_cons_of_mem _ List.mem_cons_self))).1 ⟨_, I⟩)
  intro n
  induction n with
  | zero => exact fun s h => main 0 s (fun m s' z => absurd z (by omega)) h
  | succ n ih => exact fun s h => main (n + 1) s (fun m s' z g => ih s' (by have e : m = n := (by omega); rw [← e]; exact g)) h
theorem collect_g {X Y : Cx} {ga : Addr} {gi : Nat} {go : Obj} {pf : List (Addr × Obj)} {σ : L2.St} {H : Hp} {s : Shared} {Q : List Value → Shared → Prop} {E : Value → Shared → Prop} (sl : Y.s_0.heap.objs.size ≤ Y.env.locals) (hpn : Y.pn = []) (hpr : Y.prog = X.prog) (hw : Y.w = X.w)
    (hgo : ∀ h : Heap, h.get? ga = some go → h.IsGen ga gi) (I : Inv Y ([(ga, go)] ++ pf) σ H s)
    (loop : ∀ (S : Addr) (c : Nat) (s' : Shared) (R : Result → Shared → Prop), s.heap.objs.size = S → Beside Y S → ga ≠ S → Inv Y (((ga, go) :: [(S, lstObj #[] c)]) ++ pf) σ H s' → s'.gens = s.gens →
      (∀ acc c s'', s''.heap.get? S = some (lstObj acc c) → Q acc.toList s'' → R (.ok (.ret (.ref S))) s'') → codeAny (model X.prog X.w) X.A.in1.in1 (.builtin "list.extend.loop" ⟨[.ref S, .ref ga, .ref S], []⟩) R s') :
    wpAny (model X.prog X.w) X.A.in1.in1 (collect (.ref ga)) Q E s := by
  have pin0 := I.pin (ga, go) (List.mem_append_right _ (List.mem_append_left _ List.mem_cons_self))
  have hT : ∀ h : Heap, h.get? ga = some go → ({ s with heap := h } : Shared).TypeIs (.ref ga) "generator" := fun h e => (hgo h e).typeIs
  have ltg : ga < s.heap.objs.size := Heap.lt_size pin0.1
  have hSI : s.heap.objs.size ≠ ga := Nat.ne_of_gt ltg
  have kp1 : ∀ b o, s.heap.get? b = some o → (s.heap.push { cls := .type "list", data := .seq ([] : List Value).toArray }).get? b = some o := fun b o e => Heap.get?_push_of_some _ e
  unfold collect
  refine wpAny_bind (wpAny_runValue (codeAny_builtin PySem.F.entry_proto_collect ?_))
  rw [Around.under_plainId PySem.F.plain_proto_collect _]
  show wpAny _ X.A.in1.in1.in1 (newList [] >>= fun l => again (.builtin "list.__iadd__" ⟨[l, .ref ga], []⟩)) _ _ s
  refine wpAny_bind (wpAny_newObj_type ?_)
  refine wpAny_pure ⟨plainId_quiet PySem.F.plain_list_iadd _, codeAny_builtin PySem.F.entry_list_iadd ?_⟩
  rw [Around.under_plainId PySem.F.plain_list_iadd _]
  have hT1 := hT _ (kp1 _ _ pin0.1)
  have hg1 := hgo _ (kp1 _ _ pin0.1)
  show wpAny _ X.A.in1.in1.in1 (Builtin.List.listExtendWith (.ref s.heap.objs.size) (.ref ga) (.ref s.heap.objs.size)) _ _ _
  unfold Builtin.List.listExtendWith
  refine wpAny_bind (wpAny_typeOf hT1 ?_)
  have h1 : Builtin.List.listSameRef (.ref s.heap.objs.size) (.ref ga) = false := by simp [Builtin.List.listSameRef, hSI]
  have h2 : (Value.type "generator" == Value.type "list") = false := by decide
  have h3 : (Value.type "generator" == Value.type "tuple") = false := by decide
  simp only [h1, h2, h3, Bool.or_false, Bool.false_eq_true, if_false]
  refine wpAny_bind (wpAny_pyIter_gen hg1 ?_)
  refine wpAny_bind (wpAny_holding ?_)
  unfold Builtin.List.listLengthHint
  refine wpAny_bind (wpAny_specialOf hT1 PySem.F.gen_no_len ?_)
  show wpAny _ X.A.in1.in1.in1 (specialOf (Value.ref ga) (Str.ofString "__length_hint__") >>= _) _ _ _
  refine wpAny_bind (wpAny_specialOf hT1 PySem.F.gen_no_hint ?_)
  refine wpAny_pure ?_
  show wpAny _ X.A.in1.in1.in1 (rule "list.extend.makes-room" >>= fun _ => Builtin.List.listTouch (.ref s.heap.objs.size) >>= fun _ =>
    again (.builtin "list.extend.loop" ⟨[.ref s.heap.objs.size, .ref ga, .ref s.heap.objs.size], []⟩)) _ _ _
  refine wpAny_bind (wpAny_rule ?_)
  have hS₁ : (s.heap.push { cls := .type "list", data := .seq ([] : List Value).toArray }).get? s.heap.objs.size = some { cls := .type "list", data := .seq ([] : List Value).toArray } := Heap.get?_push_size _ rfl
  refine wpAny_bind ?_
  show wpAny _ X.A.in1.in1.in1 (updateSeq s.heap.objs.size (·.push .none) >>= fun _ => updateSeq s.heap.objs.size (·.pop)) _ _ _
  refine wpAny_bind (wpAny_updateSeq hS₁ rfl ?_)
  have hS₂ := Heap.get?_update_self (Obj.mapSeq (·.push Value.none)) hS₁ rfl
  refine wpAny_updateSeq hS₂ rfl ?_
  have hS₃ := Heap.get?_update_self (Obj.mapSeq (·.pop)) hS₂ rfl
  have oth : ∀ b o, s.heap.get? b = some o →
      (((s.heap.push { cls := .type "list", data := .seq ([] : List Value).toArray }).update s.heap.objs.size (Obj.mapSeq (·.push Value.none))).update s.heap.objs.size (Obj.mapSeq (·.pop))).get? b = some o :=
    fun b o e => (Heap.get?_update_other _ _ (Nat.ne_of_gt (Heap.lt_size e))).trans ((Heap.get?_update_other _ _ (Nat.ne_of_gt (Heap.lt_size e))).trans (kp1 b o e))
  have fs := I.nofs (Nat.le_refl s.heap.objs.size)
  have I2 := I.kept (t' := s.toks) oth
  have B : Beside Y s.heap.objs.size := ⟨Nat.le_trans sl (Nat.le_of_lt I.lt), I.lt, fun x c e z => by
    obtain ⟨v, q⟩ := I.cell x c e
    exact Nat.ne_of_lt q.lt z, fs, hpn⟩
  have hc : ∃ c, (((s.heap.push { cls := .type "list", data := .seq ([] : List Value).toArray }).update s.heap.objs.size (Obj.mapSeq (·.push Value.none))).update s.heap.objs.size (Obj.mapSeq (·.pop))).get? s.heap.objs.size = some (lstObj #[] c) := ⟨_, hS₃⟩
  obtain ⟨c, hc⟩ := hc
  refine wpAny_pure ⟨plainId_quiet PySem.F.plain_extend_loop _, loop _ c _ _ rfl B (Ne.symm hSI) (I2.pins_of fun q hq => ?_) rfl fun acc c' s'' e q => ?_⟩
  · rcases List.mem_append.mp hq with z | z
    · rcases List.mem_cons.mp z with z | z
      · rw [z]
        exact I2.pin (ga, go) (List.mem_append_right _ (List.mem_append_left _ List.mem_cons_self))
      · have z : q = (s.heap.objs.size, lstObj #[] c) := by simpa using z
        rw [z]
        exact ⟨hc, I.hok.fresh (Nat.le_refl _), Nat.ne_of_gt I.lt, fs, fun v q => by cases q⟩
    · exact I2.pin q (List.mem_append_right _ (List.mem_append_right _ z))
  · show wpAny _ X.A.in1.in1 (load s.heap.objs.size >>= _) _ _ s''
    refine wpAny_bind (wpAny_load e ?_)
    exact wpAny_pure q
end
section
open AutoSeq1 (wpAny_loadPart')
theorem code_tuple_new_any {prog : Program} {w : World} {A : Around} {E : Value → Shared → Prop} {s : Shared} {I : Addr} {Q₁ : Value → Shared → Prop} {Z : Shared → Array Value → Prop} (hTI : s.TypeIs (.ref I) "generator")
    (hcol : ∀ {Q' : List Value → Shared → Prop} {E' : Value → Shared → Prop}, (∀ s' acc, Z s' acc → Q' acc.toList s') → wpAny (model prog w) A.in1 (collect (.ref I)) Q' E' s)
    (h : ∀ s' acc, Z s' acc → acc.size ≤ sizeLine ∧ Q₁ (.ref s'.heap.objs.size) { s' with heap := s'.heap.push { cls := .type "tuple", data := .seq acc } }) :
    codeAny (model prog w) A (.call (.builtin "tuple.__new__") ⟨[.type "tuple", .ref I], []⟩) (wants Q₁ E) s := by
  refine codeAny_of_tree ?_
  show wpAny _ A.in1 (do checkBuiltinCall "tuple.__new__" ⟨[.type "tuple", .ref I], []⟩; again (.builtin "tuple.__new__" ⟨[.type "tuple", .ref I], []⟩)) _ _ s
  refine wpAny_bind (wpAny_of_eq (PySem.F.newCall_tuple_1 _) (wpAny_pure ⟨plainId_quiet PySem.F.plain_tuple_new _, codeAny_builtin PySem.F.entry_tuple_new ?_⟩))
  rw [Around.under_plainId PySem.F.plain_tuple_new _]
  have hsub := sub_tuple_self
  have hinit := init_tuple_lookup
  have hmh := madeHere_tuple
  wp_walk using wpAny_typeOf hTI, hcol
  intro s' acc z
  obtain ⟨hsz, q⟩ := h s' acc z
  show wpAny _ _ (Builtin.Tuple.tupleExact acc.toList.toArray >>= fun v => ret v) _ _ _
  unfold Builtin.Tuple.tupleExact
  refine wpAny_bind (wpAny_newObj_type ?_ (by show acc.toList.toArray.size ≤ sizeLine; simp only [Array.toArray_toList]; exact hsz))
  refine wpAny_pure ?_
  have e : acc.toList.toArray = acc := by simp
  rw [e]
  exact q
theorem call_tuple_any {prog : Program} {w : World} {A : Around} {E : Value → Shared → Prop} {s : Shared} {I : Addr} {Q : Value → Shared → Prop} {Z : Shared → Array Value → Prop} (hTI : s.TypeIs (.ref I) "generator")
    (hcol : ∀ {Q' : List Value → Shared → Prop} {E' : Value → Shared → Prop}, (∀ s' acc, Z s' acc → Q' acc.toList s') → wpAny (model prog w) A.in1.in1 (collect (.ref I)) Q' E' s)
    (hQ : ∀ s' acc, Z s' acc → acc.size ≤ sizeLine ∧ Q (.ref s'.heap.objs.size) { s' with heap := s'.heap.push { cls := .type "tuple", data := .seq acc } }) :
    wpAny (model prog w) A (call (.type "tuple") [.ref I]) Q E s := by
  refine callType_codes (Q₁ := fun obj s₁ => s₁.TypeIs obj "tuple" ∧ Q obj s₁) PySem.F.called_tuple (PySem.F.typeCall_tuple_1 _) PySem.F.entry_object_init
    (code_tuple_new_any hTI hcol fun s' acc z => ⟨(hQ s' acc z).1, ⟨_, Heap.get?_push_size _ rfl, rfl⟩, (hQ s' acc z).2⟩) fun obj s₁ h₁ => ?_
  exact ⟨h₁.1, PySem.F.args_object_init_2 obj _, object_init_meets PySem.F.called_tuple.init.lookup PySem.F.called_tuple.made (by decide) prog w A.in1 _ s₁ ⟨h₁.1, rfl, h₁.2⟩⟩
variable {X : Cx}
/-- the list of what comes of a generator: as a collecting call asks -/
def tColE (P : Addr) (wi : TI) (g : TG) (tt : TT) (te : TE) (vs : List Nat) (F : VK → List V → Hp → Prop) : TE := fun σ H Q => wi σ H fun J H1 => GxR.TabG H1 P ∧ ∀ H2, GxR.Tabbed P H1 H2 → ∃ W : List V → Nat → Nat → Hp → Prop, (∃ m, W [] 0 m H2) ∧ ∀ ys i m H, W ys i m H →
  (J.stop i H ∧ F Q ys H) ∨ (J.go i H ∧ ∃ Nx : List V → Hp → Prop, (∀ ys' H', Nx ys' H' → ∃ m', m' < m ∧ W ys' (i + 1) m' H') ∧ ∀ x H', J.yld i H x H' → g x (wipe σ vs) H' fun σ2 H3 => wipe σ2 vs = wipe σ vs ∧ tt σ2 H3 fun b H4 =>
    if b = true then te σ2 H4 fun y H5 => ys.length < sizeLine ∧ (True → Nx (ys ++ [y]) H5) else Nx ys H4)
def FTup : VK → List V → Hp → Prop := fun Q ys H => ∀ p, H p = none → Q (.ref p) (upd H p (.tup ys))
theorem col_gen {pins : List (Addr × Obj)} {σ : L2.St} {c P : Addr} {elt tg iter : Expr} {ifs : List Expr} {scope : Scope} {own : List (Str × Nat)} {gpos : Pos} {wi : TI} {g : TG} {tt : TT} {te : TE} {k : Nat} {F : VK → List V → Hp → Prop} {Q : VK} {H : Hp} {s : Shared} {Q' : Value → Shared → Prop}
    (hr : Room (k + 1) X.A) (hc : X.calm = true) (hN : X.N.Nodup) (TB : GxR.TabB X.base X.mg c P) (hcode : X.env.code = .ref c) (ok : GenOk X.N X.env.scope scope own) (hi : PI X tg iter wi)
    (hg : ∀ (s : Shared) (H : Hp) (C : Addr) (code : Value) (fp : List Addr), Room k (Cx.gblk X s H scope C code fp).A → PG (Cx.gblk X s H scope C code fp) tg g)
    (ht : ∀ (s : Shared) (H : Hp) (C : Addr) (code : Value) (fp : List Addr), Room k (Cx.gblk X s H scope C code fp).A → PTs (Cx.gblk X s H scope C code fp) ifs tt)
    (he : ∀ (s : Shared) (H : Hp) (C : Addr) (code : Value) (fp : List Addr), Room k (Cx.gblk X s H scope C code fp).A → PE (Cx.gblk X s H scope C code fp) elt te)
    (hs : ∀ x, genFold iter X.env x = pure x) (I : Inv X pins σ H s) (h : tColE P wi g tt te (own.map (·.2)) F σ H Q)
    (fin : ∀ (ga : Addr) (s5 : Shared), s5.TypeIs (.ref ga) "generator" → (∀ (Q1 : Value → Shared → Prop) (E : Value → Shared → Prop) (A : Around), Q1 (.ref ga) s5 → wpAny (model X.prog X.w) A (pyIter (.ref ga)) Q1 E s5) →
      (∀ {Q1 : List Value → Shared → Prop} {E1 : Value → Shared → Prop}, (∀ s' (acc : Array Value), (∃ ys H', Vals ys acc.toList ∧ ys.length ≤ sizeLine ∧ Inv X pins σ H' s' ∧ F Q ys H') → Q1 acc.toList s') → wpAny (model X.prog X.w) X.A.in1.in1 (collect (.ref ga)) Q1 E1 s5) → Q' (.ref ga) s5) :
    wpAny (model X.prog X.w) X.A (eval (.GeneratorExp elt [⟨tg, iter, ifs, 0⟩] scope gpos) X.env) Q' X.xe s := by
  refine gen_mk hr hc hN TB hcode ok hi hg ht he hs I h fun J H1 H4 Y s5 pf ga gi go r tb hpr hw hgo sz sl hpn I5 back goes => ?_
  obtain ⟨W, ⟨m, w0⟩, step⟩ := r H4 tb
  have hgen : s5.heap.IsGen ga gi := hgo _ (I5.pin (ga, go) (List.mem_append_right _ (List.mem_append_left _ List.mem_cons_self))).1
  refine fin ga s5 hgen.typeIs (fun Q1 E A q => wpAny_pyIter_gen hgen q) fun {Q1 E1} hQ1 => ?_
  refine collect_g (X := X) (Y := Y) sl hpn hpr hw hgo I5 fun S c s' R hS B hgaS Is eg hR => ?_
  have g0 := goes ⟨LExt S, fun ys _ _ => ys.length < sizeLine, fun _ _ _ => True, fun ys H' => F Q ys H'⟩ W m (fun ys ps e q hq => by
      obtain ⟨acc, c, e, _⟩ := e
      rw [e] at hq
      have hq : q = (S, lstObj acc c) := by simpa using hq
      rw [hq, hS]
      exact Nat.le_refl _) (fun ys i m H w => (step ys i m H w).imp id fun ⟨a, Nx, hNx, b⟩ => ⟨a, Nx, hNx, fun x H' y => b x H' y⟩) w0 s' [(S, lstObj #[] c)] ⟨#[], c, rfl, .nil, Nat.zero_le _⟩ Is eg
  exact ext_loopG (X := X) hr.hd (by have := hr.dp; omega) hpr hw hgo B hgaS rfl (fun ys y H z => ⟨z, trivial⟩) (fun ys H' acc c σ' s'' fi vs hl e ⟨ps, I'⟩ => hR acc c s'' e (hQ1 s'' acc ⟨ys, H', vs, hl, back I', fi⟩)) (m + 1) s' g0
end
section
variable {X : Cx}
theorem pe_tupE {c P : Addr} {elt tg iter : Expr} {ifs : List Expr} {scope : Scope} {own : List (Str × Nat)} {p pos gpos : Pos} {wi : TI} {g : TG} {tt : TT} {te : TE} {k : Nat}
    (hr : Room (k + 1) X.A) (hgl : Gl X "tuple") (hm : X.mg "tuple" = none) (hb : bootBuiltins "tuple" = some (.type "tuple")) (hc : X.calm = true) (hN : X.N.Nodup) (TB : GxR.TabB X.base X.mg c P) (hcode : X.env.code = .ref c) (ok : GenOk X.N X.env.scope scope own) (hi : PI X tg iter wi)
    (hg : ∀ (s : Shared) (H : Hp) (C : Addr) (code : Value) (fp : List Addr), Room k (Cx.gblk X s H scope C code fp).A → PG (Cx.gblk X s H scope C code fp) tg g)
    (ht : ∀ (s : Shared) (H : Hp) (C : Addr) (code : Value) (fp : List Addr), Room k (Cx.gblk X s H scope C code fp).A → PTs (Cx.gblk X s H scope C code fp) ifs tt)
    (he : ∀ (s : Shared) (H : Hp) (C : Addr) (code : Value) (fp : List Addr), Room k (Cx.gblk X s H scope C code fp).A → PE (Cx.gblk X s H scope C code fp) elt te)
    (hs : ∀ x, genFold iter X.env x = pure x := by intro _; rfl)
    (hst : starEach [.GeneratorExp elt [⟨tg, iter, ifs, 0⟩] scope gpos] X.env = (false, eval (.GeneratorExp elt [⟨tg, iter, ifs, 0⟩] scope gpos) X.env) :: starEach [] X.env := by rfl) :
    PE X (.Call (.Name "tuple" p) [.GeneratorExp elt [⟨tg, iter, ifs, 0⟩] scope gpos] [] pos) (tColE P wi g tt te (own.map (·.2)) FTup) := by
  constructor
  intro pins s σ H Q I h
  refine wpAny_Call_Name_kw (ld_blt I hgl hm hb ?_)
  refine PyProof.Rows.callWith_type1 ?_ hst (by rfl)
  rw [hst]
  show wpAny _ _ (spliced ((false, eval (.GeneratorExp elt [⟨tg, iter, ifs, 0⟩] scope gpos) X.env) :: backTo pos (starEach [] X.env))) _ _ s
  refine Calls.spliced_cons (col_gen hr hc hN TB hcode ok hi hg ht he hs I h fun ga s5 hT self col => ?_)
  refine Calls.spliced_nil ?_
  refine call_tuple_any hT col fun s' acc ⟨ys, H', vs, hl, I', f⟩ => ⟨by rw [← Array.length_toList, ← vs.length]; exact hl, ?_⟩
  have ea : acc.toList.toArray = acc := by simp
  refine ⟨.ref s'.heap.objs.size, _, I'.laid (t' := s'.toks) (o := .tup ys) (fun b ob e => Heap.get?_push_of_some _ e) (Nat.le_refl _) ⟨hl, acc.toList, vs, ?_⟩, rfl, f _ (I'.hok.fresh (Nat.le_refl _))⟩
  rw [ea]
  exact IsTup.new _ _
/-- .. over what is walked as a Walk says; ys: what came so far -/
theorem gc_it {J : It} {n : Nat} {G : Hp → Prop} {Y : Nat → Hp → V → Hp → Prop} (w : Walk J n G Y) {g : TG} {tt : TT} {te : TE} {vs : List Nat} {σ : L2.St} {H2 : Hp} {Qf : List V → Hp → Prop} (Pv : Nat → List V → Hp → Prop) (h0 : Pv 0 [] H2) (hG : ∀ i ys H, i ≤ n → Pv i ys H → G H)
    (hs : ∀ i ys x H H', i < n → Pv i ys H → Y i H x H' → g x (wipe σ vs) H' fun σ2 H3 => wipe σ2 vs = wipe σ vs ∧ tt σ2 H3 fun b H4 => if b = true then te σ2 H4 fun y H5 => ys.length < sizeLine ∧ (True → Pv (i + 1) (ys ++ [y]) H5) else Pv (i + 1) ys H4) (hd : ∀ ys H, Pv n ys H → Qf ys H) :
    ∃ W : List V → Nat → Nat → Hp → Prop, (∃ m, W [] 0 m H2) ∧ ∀ ys i m H, W ys i m H →
      (J.stop i H ∧ Qf ys H) ∨ (J.go i H ∧ ∃ Nx : List V → Hp → Prop, (∀ ys' H', Nx ys' H' → ∃ m', m' < m ∧ W ys' (i + 1) m' H') ∧ ∀ x H', J.yld i H x H' → g x (wipe σ vs) H' fun σ2 H3 => wipe σ2 vs = wipe σ vs ∧ tt σ2 H3 fun b H4 =>
        if b = true then te σ2 H4 fun y H5 => ys.length < sizeLine ∧ (True → Nx (ys ++ [y]) H5) else Nx ys H4) := by
  refine ⟨fun ys i m H => m = n - i ∧ i ≤ n ∧ Pv i ys H, ⟨n, by simp, Nat.zero_le _, h0⟩, ?_⟩
  rintro ys i m H ⟨rfl, hi, p⟩
  have q := hG i ys H hi p
  by_cases hlt : i < n
  · refine .inr ⟨w.goes i H hlt q, fun ys H => Pv (i + 1) ys H, fun ys' H' p' => ⟨n - (i + 1), by omega, rfl, hlt, p'⟩, fun x H' y => hs i ys x H H' hlt p (w.yields i H x H' hlt q y)⟩
  · have e : i = n := by omega
    subst e
    exact .inl ⟨w.stops H q, hd ys H p⟩
end
/-! sep.join(elt for ..): any generator of texts -/
section
open PySem PySem.SC
theorem strs_back : ∀ {ws : List Str} {us : List Value}, Vals (ws.map V.str) us → ∃ l : List (Str × Tok), strValues l = us ∧ l.map (·.1) = ws
  | [], _, r => by
    cases r
    exact ⟨[], rfl, rfl⟩
  | w :: ws, _, r => by
    cases r with
    | cons a b =>
      obtain ⟨t, rfl⟩ := a
      obtain ⟨l, rfl, e⟩ := strs_back b
      exact ⟨(w, t) :: l, rfl, by rw [List.map_cons, e]⟩
theorem join_any {prog : Program} {w : World} {A : Around} {E : Value → Shared → Prop} {s : Shared} {x : Str} {t : Tok} {I : Addr} {Q : Value → Shared → Prop} {Z : Shared → Array Value → Prop} (hTI : s.TypeIs (.ref I) "generator")
    (self : ∀ (Q1 : Value → Shared → Prop) (E : Value → Shared → Prop) (A : Around), Q1 (.ref I) s → wpAny (model prog w) A (pyIter (.ref I)) Q1 E s)
    (col : ∀ {Q1 : List Value → Shared → Prop} {E1 : Value → Shared → Prop}, (∀ s' (acc : Array Value), Z s' acc → Q1 acc.toList s') → wpAny (model prog w) A.in1 (collect (.ref I)) Q1 E1 s)
    (hQ : ∀ s' (acc : Array Value), Z s' acc → ∃ l : List (Str × Tok), strValues l = acc.toList ∧ JoinOk x (l.map (·.1)) = true ∧ ∀ t' k, Q (.str (Txt.join x (l.map (·.1))) t') { s' with toks := k }) :
    wpAny (model prog w) A (call (.builtin "str.join") [.str x t, .ref I]) Q E s := by
  refine wpAny_call (codeAny_call_builtin PySem.F.slot_str_join.plain PySem.F.entry_str_join (PySem.F.slot_str_join.check _ _ _ _ _ _ _ _ (typeIs_str _ _ _) (PySem.F.args_str_join_2 _ _) ?_))
  rw [join_tree_other]
  refine wpAny_bind (wpAny_typeOf hTI ?_)
  show wpAny _ A.in1 ((pyIter (.ref I)).tryCatch _ >>= fun it => collect it >>= fun items => joinTail x items) _ _ s
  refine wpAny_bind (wpAny_tryCatch (self _ _ _ ?_))
  refine wpAny_bind (col fun s' acc hz => ?_)
  obtain ⟨l, hl, hok, hpost⟩ := hQ s' acc hz
  rw [← hl]
  unfold JoinOk at hok
  rw [Bool.not_eq_true'] at hok
  have g : Gives (joinTail x (strValues l)) (joinMade x l) := by
    have g0 := gives_joinTail x l hok
    cases l with
    | nil => exact g0
    | cons p r => cases r with
      | nil => exact g0
      | cons q r' => exact g0
  exact g prog w A (wants Q E) s' (post_join l ⟨joinFit_length hok, hpost⟩)
end
section
variable {X : Cx}
def FJoin (sep : Str) : VK → List V → Hp → Prop := fun Q ys H => ∃ ws : List Str, ys = ws.map V.str ∧ JoinOk sep ws = true ∧ Q (.str (Txt.join sep ws)) H
def tJoinE (P : Addr) (to : TE) (wi : TI) (g : TG) (tt : TT) (te : TE) (vs : List Nat) : TE := fun σ H Q => to σ H fun v H1 => ∃ sep : Str, v = .str sep ∧ tColE P wi g tt te vs (FJoin sep) σ H1 Q
theorem pe_joinE {c P : Addr} {o elt tg iter : Expr} {ifs : List Expr} {scope : Scope} {own : List (Str × Nat)} {apos cpos gpos : Pos} {to : TE} {wi : TI} {g : TG} {tt : TT} {te : TE} {k : Nat}
    (hr : Room (k + 1) X.A) (hc : X.calm = true) (hN : X.N.Nodup) (TB : GxR.TabB X.base X.mg c P) (hcode : X.env.code = .ref c) (ok : GenOk X.N X.env.scope scope own) (ho : PE X o to) (hi : PI X tg iter wi)
    (hg : ∀ (s : Shared) (H : Hp) (C : Addr) (code : Value) (fp : List Addr), Room k (Cx.gblk X s H scope C code fp).A → PG (Cx.gblk X s H scope C code fp) tg g)
    (ht : ∀ (s : Shared) (H : Hp) (C : Addr) (code : Value) (fp : List Addr), Room k (Cx.gblk X s H scope C code fp).A → PTs (Cx.gblk X s H scope C code fp) ifs tt)
    (he : ∀ (s : Shared) (H : Hp) (C : Addr) (code : Value) (fp : List Addr), Room k (Cx.gblk X s H scope C code fp).A → PE (Cx.gblk X s H scope C code fp) elt te)
    (hs : ∀ x, genFold iter X.env x = pure x := by intro _; rfl)
    (hbase : attributeBase o "join" X.env (eval o X.env) = eval o X.env := by rfl)
    (hfew : ((backTo cpos (starEach [.GeneratorExp elt [⟨tg, iter, ifs, 0⟩] scope gpos] X.env)).all (fun x => !x.1) && (backToKw cpos (keywordEach [] X.env)).all (fun x => x.1.isSome)
      && decide (([.GeneratorExp elt [⟨tg, iter, ifs, 0⟩] scope gpos] : List Expr).length + ([] : List Keyword).length + (if ([] : List Keyword).isEmpty then 0 else 1) < 30)) = true := by rfl)
    (hline : (apos.endLine == cpos.line) = true := by rfl)
    (hst : starEach [.GeneratorExp elt [⟨tg, iter, ifs, 0⟩] scope gpos] X.env = (false, eval (.GeneratorExp elt [⟨tg, iter, ifs, 0⟩] scope gpos) X.env) :: starEach [] X.env := by rfl)
    (hplain : (backTo cpos (starEach [] X.env)).any (·.1) = false := by rfl) :
    PE X (.Call (.Attribute o "join" apos) [.GeneratorExp elt [⟨tg, iter, ifs, 0⟩] scope gpos] [] cpos) (tJoinE P to wi g tt te (own.map (·.2))) := by
  refine ⟨fun pins s σ H Q I h => ?_⟩
  refine wpAny_Call_method_late hbase hfew hline rfl (thn (ho.run pins s σ H _ I h) fun v s1 ⟨x', H1, I1, r1, sep, ex, q1⟩ => ?_)
  subst ex
  obtain ⟨tk, rfl⟩ := (show ∃ t, v = Value.str sep t from r1)
  refine ⟨"str", _, PySem.F.plainAttrs_str, PySem.F.slot_str_join, PySem.F.type_str_join, typeIs_str _ _ _, (fun _ e => nomatch e), ?_⟩
  rw [hst]
  refine Calls.callWith_builtin (by show (false || (backTo cpos (starEach [] X.env)).any (·.1)) = false; rw [hplain] <;> rfl) (Calls.evalArgs_plain ?_)
  show wpAny _ _ (spliced ((false, eval (.GeneratorExp elt [⟨tg, iter, ifs, 0⟩] scope gpos) X.env) :: backTo cpos (starEach [] X.env))) _ _ s1
  refine Calls.spliced_cons (col_gen hr hc hN TB hcode ok hi hg ht he hs I1 q1 fun ga s5 hT self col => ?_)
  refine Calls.spliced_nil ?_
  refine join_any (Z := fun s' (acc : Array Value) => ∃ ys H', Vals ys acc.toList ∧ ys.length ≤ sizeLine ∧ Inv X pins σ H' s' ∧ FJoin sep Q ys H') hT self (fun h => wpAny_of_in1 (A := X.A.in1) (col h)) fun s' acc ⟨ys, H', vs, hl, I', ws, ey, jok, q⟩ => ?_
  subst ey
  obtain ⟨l, e1, e2⟩ := strs_back vs
  refine ⟨l, e1, by rw [e2]; exact jok, fun t' k => ?_⟩
  rw [e2]
  exact ⟨.str _, H', I'.tok k, ⟨t', rfl⟩, q⟩
end
/-! nested texts: what is written, and what is read of it -/
inductive Nt where
  | num (n : Nat)
  | node (w : Str) (ts : List Nt)
mutual
def Nt.data : Nt → PyData
  | .num n => .int (n : Nat)
  | .node w ts => if w = "table" then .tuple [.str "table", .tuple (Nt.datas ts)] else .tuple (.str w :: Nt.datas ts)
def Nt.datas : List Nt → List PyData
  | [] => []
  | t :: ts => t.data :: Nt.datas ts
end
def digs (n : Nat) : Str := Str.ofString (toString ((n : Nat) : Int))
mutual
/-- as a part of another -/
def Nt.ptx : Nt → Str
  | .num n => digs n
  | .node w ts => "(" ++ Txt.join " " (w :: Nt.ptxs ts) ++ ")"
def Nt.ptxs : List Nt → List Str
  | [] => []
  | t :: ts => t.ptx :: Nt.ptxs ts
end
/-- by itself -/
def ntx (w : Str) (ts : List Nt) : Str := Txt.join " " (w :: Nt.ptxs ts)
mutual
/-- its words -/
def Nt.ptk : Nt → List Str
  | .num n => [digs n]
  | .node w ts => ("(" : Str) :: w :: (Nt.ptks ts ++ [(")" : Str)])
def Nt.ptks : List Nt → List Str
  | [] => []
  | t :: ts => t.ptk ++ Nt.ptks ts
end
/-- a word as such: letters -/
def WdOk (w : Str) : Prop := w ≠ "" ∧ (∀ c, c ∈ TL.tl w → 97 ≤ c ∧ c ≤ 122)
mutual
def Nt.Ok : Nt → Prop
  | .num n => n < 1000
  | .node w ts => WdOk w ∧ Nt.Oks ts
def Nt.Oks : List Nt → Prop
  | [] => True
  | t :: ts => t.Ok ∧ Nt.Oks ts
end
mutual
def Nt.dep : Nt → Nat
  | .num _ => 0
  | .node _ ts => Nt.deps ts + 1
def Nt.deps : List Nt → Nat
  | [] => 0
  | t :: ts => max t.dep (Nt.deps ts)
end
/-! what replace and split make of it -/
theorem repl1 {c : Nat} {z : List Nat} : ∀ l : List Nat, StrLaws.replL [c] z l = l.flatMap fun x => if x = c then z else [x]
  | [] => by rw [StrLaws.replL_nil]; rfl
  | x :: l => by
    by_cases e : x = c
    · subst e
      rw [StrLaws.replL_hit (by simp) (by simp)]
      show z ++ StrLaws.replL [x] z l = _
      rw [repl1 l, List.flatMap_cons, if_pos rfl]
    · rw [StrLaws.replL_miss (by simpa using e), repl1 l, List.flatMap_cons, if_neg e]
      rfl
def spc (x : Nat) : List Nat := if x = 40 then [40, 32] else if x = 41 then [32, 41] else [x]
def spcs (l : List Nat) : List Nat := l.flatMap spc
theorem repl2 (l : List Nat) : StrLaws.replL [41] [32, 41] (StrLaws.replL [40] [40, 32] l) = spcs l := by
  rw [repl1, repl1]
  unfold spcs
  induction l with
  | nil => rfl
  | cons x l ih =>
    rw [List.flatMap_cons, List.flatMap_cons, List.flatMap_append, ih]
    congr 1
    unfold spc
    by_cases e : x = 40
    · rw [if_pos e, if_pos e]
      rfl
    · rw [if_neg e, if_neg e]
      show (if x = 41 then [32, 41] else [x]) ++ [] = _
      rw [List.append_nil]
theorem spcs_app (a b : List Nat) : spcs (a ++ b) = spcs a ++ spcs b := List.flatMap_append
theorem spcs_none : ∀ {l : List Nat}, (∀ c, c ∈ l → c ≠ 40 ∧ c ≠ 41) → spcs l = l
  | [], _ => rfl
  | x :: l, h => by
    have hx := h x List.mem_cons_self
    show spc x ++ spcs l = _
    rw [spcs_none fun c hc => h c (List.mem_cons_of_mem _ hc)]
    unfold spc
    rw [if_neg hx.1, if_neg hx.2]
    rfl
theorem join_app {S : List Nat} : ∀ {a b : List (List Nat)}, a ≠ [] → b ≠ [] → TL.joinL S (a ++ b) = TL.joinL S a ++ (S ++ TL.joinL S b)
  | [], _, h, _ => absurd rfl h
  | [p], [], _, h => absurd rfl h
  | [p], q :: r, _, _ => rfl
  | p :: q :: r, b, _, h => by
    show p ++ (S ++ TL.joinL S ((q :: r) ++ b)) = (p ++ (S ++ TL.joinL S (q :: r))) ++ _
    rw [join_app (by simp) h, List.append_assoc, List.append_assoc]
theorem spcs_join : ∀ xs : List (List Nat), spcs (TL.joinL [32] xs) = TL.joinL [32] (xs.map spcs)
  | [] => rfl
  | [p] => rfl
  | p :: q :: r => by
    show spcs (p ++ ([32] ++ TL.joinL [32] (q :: r))) = spcs p ++ ([32] ++ TL.joinL [32] ((q :: r).map spcs))
    rw [spcs_app, spcs_app, spcs_join (q :: r)]
    rfl
theorem join_flat : ∀ {gs : List (List (List Nat))}, (∀ g, g ∈ gs → g ≠ []) → TL.joinL [32] (gs.map (TL.joinL [32])) = TL.joinL [32] gs.flatten
  | [], _ => rfl
  | [g], _ => by
    show TL.joinL [32] g = TL.joinL [32] (g ++ [])
    rw [List.append_nil]
  | g :: g' :: gs, h => by
    show TL.joinL [32] g ++ ([32] ++ TL.joinL [32] ((g' :: gs).map (TL.joinL [32]))) = TL.joinL [32] (g ++ (g' :: gs).flatten)
    rw [join_flat fun x hx => h x (List.mem_cons_of_mem _ hx), join_app (h g List.mem_cons_self)]
    intro z
    have := h g' (by simp)
    rw [List.flatten_cons] at z
    exact this (List.append_eq_nil_iff.mp z).1
theorem tl_join32 (ws : List Str) : TL.tl (Txt.join " " ws) = TL.joinL [32] (ws.map TL.tl) := by
  rw [TL.join_eq, TL.tl_join]
  rfl
theorem ptk_ne : ∀ t : Nt, t.ptk ≠ []
  | .num _ => by simp [Nt.ptk]
  | .node _ _ => by simp [Nt.ptk]
theorem digs_tl (n : Nat) : TL.tl (digs n) = TL.numL n := TL.tl_num n
theorem spcs_digs (n : Nat) : spcs (TL.tl (digs n)) = TL.tl (digs n) := spcs_none fun c hc => by
  rw [digs_tl] at hc
  have := TL.numL_digits n c hc
  omega
theorem spcs_word {w : Str} (h : WdOk w) : spcs (TL.tl w) = TL.tl w := spcs_none fun c hc => by
  have := h.2 c hc
  omega
mutual
theorem ptx_spc : ∀ {t : Nt}, t.Ok → spcs (TL.tl t.ptx) = TL.joinL [32] (t.ptk.map TL.tl)
  | .num n, _ => by
    show spcs (TL.tl (digs n)) = TL.tl (digs n)
    exact spcs_digs n
  | .node w ts, h => by
    have ok : WdOk w ∧ Nt.Oks ts := by simpa only [Nt.Ok] using h
    have e : TL.tl (Nt.ptx (.node w ts)) = [40] ++ (TL.joinL [32] (TL.tl w :: (Nt.ptxs ts).map TL.tl) ++ [41]) := by
      show TL.tl ("(" ++ Txt.join " " (w :: Nt.ptxs ts) ++ ")") = _
      rw [TL.tl_append, TL.tl_append, tl_join32, List.append_assoc]
      rfl
    rw [e, spcs_app, spcs_app, node_spc ok.1 ok.2]
    have e2 : (Nt.ptk (.node w ts)).map TL.tl = [[40]] ++ ((TL.tl w :: (Nt.ptks ts).map TL.tl) ++ [[41]]) := by
      show ((("(" : Str) :: w :: (Nt.ptks ts ++ [(")" : Str)])).map TL.tl) = _
      rw [List.map_cons, List.map_cons, List.map_append]
      rfl
    rw [e2, join_app (by simp) (by simp), join_app (by simp) (by simp)]
    show [40, 32] ++ (_ ++ [32, 41]) = _
    show [40] ++ ([32] ++ (_ ++ ([32] ++ [41]))) = _
    rfl
theorem node_spc {w : Str} : ∀ {ts : List Nt}, WdOk w → Nt.Oks ts → spcs (TL.joinL [32] (TL.tl w :: (Nt.ptxs ts).map TL.tl)) = TL.joinL [32] (TL.tl w :: (Nt.ptks ts).map TL.tl)
  | ts, hw, hs => by
    rw [spcs_join, List.map_cons, spcs_word hw]
    have e : ((Nt.ptxs ts).map TL.tl).map spcs = (ts.map fun t => t.ptk.map TL.tl).map (TL.joinL [32]) := ptxs_spc hs
    rw [e]
    have f : TL.joinL [32] (TL.tl w :: (ts.map fun t => t.ptk.map TL.tl).map (TL.joinL [32])) = TL.joinL [32] (([TL.tl w] :: (ts.map fun t => t.ptk.map TL.tl)).map (TL.joinL [32])) := rfl
    rw [f, join_flat (fun g hg => by
      rcases List.mem_cons.mp hg with rfl | hg
      · simp
      · obtain ⟨t, _, rfl⟩ := List.mem_map.mp hg
        exact fun z => ptk_ne t (List.map_eq_nil_iff.mp z)), ptks_flat]
    rfl
theorem ptxs_spc : ∀ {ts : List Nt}, Nt.Oks ts → ((Nt.ptxs ts).map TL.tl).map spcs = (ts.map fun t => t.ptk.map TL.tl).map (TL.joinL [32])
  | [], _ => rfl
  | t :: ts, h => by
    have ok : t.Ok ∧ Nt.Oks ts := by simpa only [Nt.Oks] using h
    show spcs (TL.tl t.ptx) :: ((Nt.ptxs ts).map TL.tl).map spcs = TL.joinL [32] (t.ptk.map TL.tl) :: _
    rw [ptx_spc ok.1, ptxs_spc ok.2]
theorem ptks_flat : ∀ {ts : List Nt}, (Nt.ptks ts).map TL.tl = (ts.map fun t => t.ptk.map TL.tl).flatten
  | [] => rfl
  | t :: ts => by
    show (t.ptk ++ Nt.ptks ts).map TL.tl = _
    rw [List.map_append, ptks_flat (ts := ts)]
    rfl
end
/-! what is read -/
def numF (z : Str) : Option Int := if Txt.isascii z = true ∧ Txt.isdigit z = true ∧ z.length ≤ 3 then (if digs (NumText.digitsVal (TL.tl z)) = z then some (NumText.digitsVal (TL.tl z) : Nat) else none) else none
def wordD (z : Str) : PyData := match numF z with
  | some n => .int n
  | none => .str z
def shp (ds : List PyData) : PyData := match ds with
  | .str z :: r => if z = "table" then .tuple [.str "table", .tuple r] else .tuple (.str z :: r)
  | ds => .tuple ds
/-- one word more; the innermost first -/
def pstep (L : List (List PyData)) (z : Str) : List (List PyData) := match L with
  | [] => []
  | t :: r => if z = "(" then [] :: t :: r else match (if z = ")" then r else []) with
    | u :: r' => (u ++ [shp t]) :: r'
    | [] => (t ++ [wordD z]) :: r
def prun : List Str → List (List PyData) → Option (List (List PyData))
  | [], L => some L
  | z :: zs, L => if 8 < (pstep L z).length then none else prun zs (pstep L z)
def pres (zs : List Str) : Option PyData := match prun zs [[]] with
  | some [t] => some (shp t)
  | _ => none
theorem dig_y : ∀ c, c < 58 → 48 ≤ c → Unicode.isDigit c = true := by decide +kernel
theorem dig_n : ∀ c, c < 123 → 97 ≤ c → Unicode.isDigit c = false := by decide +kernel
theorem dig_b : ∀ c, c < 128 → Unicode.isDigit c = true → 48 ≤ c ∧ c ≤ 57 := by decide +kernel
theorem isd_eq (z : Str) : Txt.isdigit z = true ↔ TL.tl z ≠ [] ∧ ∀ c, c ∈ TL.tl z → Unicode.isDigit c = true := by
  unfold Txt.isdigit
  rw [Bool.and_eq_true, decide_eq_true_eq, Array.all_eq_true_iff_forall_mem]
  constructor
  · intro ⟨h1, h2⟩
    exact ⟨fun e => by rw [TL.len_tl, e] at h1; exact absurd h1 (by decide), fun c hc => h2 c (Array.mem_toList_iff.mp hc)⟩
  · intro ⟨h1, h2⟩
    refine ⟨?_, fun c hc => h2 c (Array.mem_toList_iff.mpr hc)⟩
    rw [TL.len_tl]
    exact List.length_pos_iff.mpr h1
theorem isa_eq (z : Str) : Txt.isascii z = true ↔ ∀ c, c ∈ TL.tl z → c < 128 := by
  unfold Txt.isascii
  rw [Array.all_eq_true_iff_forall_mem]
  constructor
  · intro h c hc
    exact of_decide_eq_true (h c (Array.mem_toList_iff.mp hc))
  · intro h c hc
    exact decide_eq_true (h c (Array.mem_toList_iff.mpr hc))
theorem digs_inj {m n : Nat} (h : digs m = digs n) : m = n := by
  have := congrArg TL.tl h
  rw [digs_tl, digs_tl] at this
  exact TL.numL_inj this
theorem numF_digs {n : Nat} (h : n < 1000) : numF (digs n) = some (n : Int) := by
  have e : NumText.digitsVal (TL.tl (digs n)) = n := by
    rw [digs_tl]
    exact TL.numL_val n
  have c : Txt.isascii (digs n) = true ∧ Txt.isdigit (digs n) = true ∧ (digs n).length ≤ 3 := by
    refine ⟨(isa_eq _).mpr fun c hc => ?_, (isd_eq _).mpr ⟨by rw [digs_tl]; exact TL.numL_ne n, fun c hc => ?_⟩, ?_⟩
    · rw [digs_tl] at hc
      have := TL.numL_digits n c hc
      omega
    · rw [digs_tl] at hc
      have := TL.numL_digits n c hc
      exact dig_y c (by omega) this.1
    · rw [TL.len_tl, digs_tl]
      exact TL.numL_len (by decide) (by omega)
  unfold numF
  rw [if_pos c, e, if_pos rfl]
theorem numF_word {w : Str} (h : WdOk w) : numF w = none := by
  unfold numF
  rw [if_neg]
  intro ⟨_, h2, _⟩
  obtain ⟨ne, a⟩ := (isd_eq w).mp h2
  cases e : TL.tl w with
  | nil => exact ne e
  | cons c r =>
    have hc : c ∈ TL.tl w := by rw [e]; exact List.mem_cons_self
    have := h.2 c hc
    have d := a c hc
    rw [dig_n c (by omega) this.1] at d
    cases d
theorem par_ne {z : Str} (h : ∀ c, c ∈ TL.tl z → c ≠ 40 ∧ c ≠ 41) : z ≠ "(" ∧ z ≠ ")" := by
  constructor
  · intro e
    subst e
    exact (h 40 (by decide +kernel)).1 rfl
  · intro e
    subst e
    exact (h 41 (by decide +kernel)).2 rfl
theorem wd_par {w : Str} (h : WdOk w) : w ≠ "(" ∧ w ≠ ")" := par_ne fun c hc => by
  have := h.2 c hc
  omega
theorem digs_par (n : Nat) : digs n ≠ "(" ∧ digs n ≠ ")" := par_ne fun c hc => by
  rw [digs_tl] at hc
  have := TL.numL_digits n c hc
  omega
theorem pstep_plain {z : Str} {t : List PyData} {r : List (List PyData)} (h : z ≠ "(" ∧ z ≠ ")") : pstep (t :: r) z = (t ++ [wordD z]) :: r := by
  unfold pstep
  dsimp only
  rw [if_neg h.1, if_neg h.2]
theorem prun_plain {z : Str} {zs : List Str} {t : List PyData} {r : List (List PyData)} (h : z ≠ "(" ∧ z ≠ ")") (l : r.length ≤ 7) : prun (z :: zs) (t :: r) = prun zs ((t ++ [wordD z]) :: r) := by
  show (if 8 < (pstep (t :: r) z).length then none else _) = _
  rw [pstep_plain h, if_neg (by rw [List.length_cons]; omega)]
theorem shp_node (w : Str) (ts : List Nt) : shp (.str w :: Nt.datas ts) = (Nt.node w ts).data := by
  show (if w = "table" then _ else _) = (if w = "table" then _ else _)
  rfl
mutual
theorem prun_part : ∀ {t : Nt} {zs : List Str} {top : List PyData} {r : List (List PyData)}, t.Ok → t.dep + r.length ≤ 7 → prun (t.ptk ++ zs) (top :: r) = prun zs ((top ++ [t.data]) :: r)
  | .num n, zs, top, r, h, l => by
    have h : n < 1000 := by simpa only [Nt.Ok] using h
    show prun (digs n :: zs) (top :: r) = _
    rw [prun_plain (digs_par n) (by omega)]
    have : wordD (digs n) = .int (n : Nat) := by
      unfold wordD
      rw [numF_digs h]
    rw [this]
    rfl
  | .node w ts, zs, top, r, h, l => by
    have ok : WdOk w ∧ Nt.Oks ts := by simpa only [Nt.Ok] using h
    have l2 : Nt.deps ts + 1 + r.length ≤ 7 := by simpa only [Nt.dep] using l
    show prun (("(" : Str) :: w :: ((Nt.ptks ts ++ [(")" : Str)]) ++ zs)) (top :: r) = _
    have e1 : prun (("(" : Str) :: w :: ((Nt.ptks ts ++ [(")" : Str)]) ++ zs)) (top :: r) = prun (w :: ((Nt.ptks ts ++ [(")" : Str)]) ++ zs)) ([] :: top :: r) := by
      show (if 8 < ([] :: top :: r).length then none else _) = _
      rw [if_neg (by rw [List.length_cons, List.length_cons]; omega)]
      rfl
    rw [e1, prun_plain (wd_par ok.1) (by rw [List.length_cons]; omega)]
    have ew : wordD w = .str w := by
      unfold wordD
      rw [numF_word ok.1]
    rw [ew, List.append_assoc, prun_parts ok.2 (by rw [List.length_cons]; omega)]
    show prun ((")" : Str) :: zs) _ = _
    show (if 8 < (pstep _ (")" : Str)).length then none else _) = _
    have e2 : pstep (([] ++ [PyData.str w] ++ Nt.datas ts) :: top :: r) (")" : Str) = (top ++ [shp (.str w :: Nt.datas ts)]) :: r := by
      unfold pstep
      dsimp only
      rw [if_neg (by decide +kernel), if_pos rfl]
      rfl
    rw [e2, if_neg (by rw [List.length_cons]; omega), shp_node]
theorem prun_parts : ∀ {ts : List Nt} {zs : List Str} {top : List PyData} {r : List (List PyData)}, Nt.Oks ts → Nt.deps ts + r.length ≤ 7 → prun (Nt.ptks ts ++ zs) (top :: r) = prun zs ((top ++ Nt.datas ts) :: r)
  | [], zs, top, r, _, _ => by
    show prun zs (top :: r) = prun zs ((top ++ []) :: r)
    rw [List.append_nil]
  | t :: ts, zs, top, r, h, l => by
    have ok : t.Ok ∧ Nt.Oks ts := by simpa only [Nt.Oks] using h
    have l2 : max t.dep (Nt.deps ts) + r.length ≤ 7 := by simpa only [Nt.deps] using l
    show prun ((t.ptk ++ Nt.ptks ts) ++ zs) (top :: r) = prun zs ((top ++ (t.data :: Nt.datas ts)) :: r)
    rw [List.append_assoc, prun_part ok.1 (by omega), prun_parts ok.2 (by omega), List.append_assoc]
    rfl
end
theorem pres_node {w : Str} {ts : List Nt} (h : (Nt.node w ts).Ok) (l : (Nt.node w ts).dep ≤ 8) : pres (w :: Nt.ptks ts) = some (Nt.node w ts).data := by
  have ok : WdOk w ∧ Nt.Oks ts := by simpa only [Nt.Ok] using h
  have l2 : Nt.deps ts + 1 ≤ 8 := by simpa only [Nt.dep] using l
  have ew : wordD w = .str w := by
    unfold wordD
    rw [numF_word ok.1]
  have e := prun_parts (zs := []) (top := [.str w]) (r := []) ok.2 (by simpa using (show Nt.deps ts ≤ 7 by omega))
  rw [List.append_nil] at e
  unfold pres
  rw [prun_plain (wd_par ok.1) (by simp), ew]
  show (match prun (Nt.ptks ts) [[PyData.str w]] with | some [t] => some (shp t) | _ => none) = _
  rw [e]
  show some (shp (.str w :: Nt.datas ts)) = _
  rw [shp_node]
mutual
theorem ptk_free : ∀ {t : Nt}, t.Ok → ∀ p, p ∈ t.ptk → 32 ∉ TL.tl p
  | .num n, _, p, hp => by
    have hp : p ∈ [digs n] := hp
    rw [List.mem_singleton.mp hp, digs_tl]
    exact TL.numL_free (.inl (by decide))
  | .node w ts, h, p, hp => by
    have ok : WdOk w ∧ Nt.Oks ts := by simpa only [Nt.Ok] using h
    have hp : p ∈ ("(" : Str) :: w :: (Nt.ptks ts ++ [(")" : Str)]) := hp
    rcases List.mem_cons.mp hp with rfl | hp
    · decide +kernel
    rcases List.mem_cons.mp hp with rfl | hp
    · intro z
      have := ok.1.2 32 z
      omega
    rcases List.mem_append.mp hp with hp | hp
    · exact ptks_free ok.2 p hp
    · rw [List.mem_singleton.mp hp]
      decide +kernel
theorem ptks_free : ∀ {ts : List Nt}, Nt.Oks ts → ∀ p, p ∈ Nt.ptks ts → 32 ∉ TL.tl p
  | [], _, _, hp => by cases hp
  | t :: ts, h, p, hp => by
    have ok : t.Ok ∧ Nt.Oks ts := by simpa only [Nt.Oks] using h
    have hp : p ∈ t.ptk ++ Nt.ptks ts := hp
    rcases List.mem_append.mp hp with hp | hp
    · exact ptk_free ok.1 p hp
    · exact ptks_free ok.2 p hp
end
/-- the words of what is written -/
theorem words_of {w : Str} {ts : List Nt} (h : (Nt.node w ts).Ok) : Txt.split (Txt.replace (Txt.replace (ntx w ts) "(" "( ") ")" " )") " " = w :: Nt.ptks ts := by
  have ok : WdOk w ∧ Nt.Oks ts := by simpa only [Nt.Ok] using h
  have e : Txt.replace (Txt.replace (ntx w ts) "(" "( ") ")" " )" = Txt.join " " (w :: Nt.ptks ts) := by
    refine TL.ext_tl ?_
    show (Txt.replace _ _ _).cps.toList = _
    rw [StrLaws.replace_list (by decide +kernel), StrLaws.replace_list (by decide +kernel)]
    show StrLaws.replL [41] [32, 41] (StrLaws.replL [40] [40, 32] (TL.tl (ntx w ts))) = _
    unfold ntx
    rw [repl2, tl_join32, List.map_cons, node_spc ok.1 ok.2, tl_join32]
    rfl
  rw [e]
  refine TL.split_join (s := 32) (S := []) rfl (by decide +kernel) (by simp) fun p hp => ?_
  rcases List.mem_cons.mp hp with rfl | hp
  · intro z
    have := ok.1.2 32 z
    omega
  · exact ptks_free ok.2 p hp
/-! tuples joined, cut, repeated: one way on -/
def rCatS (_ : PySem.W.Frag) : R2 := fun x y H Q => ∃ a b xs ys, x = .ref a ∧ y = .ref b ∧ H a = some (.tup xs) ∧ H b = some (.tup ys) ∧ xs.length + ys.length ≤ sizeLine ∧ ∀ G c, Same H G → G c = some (.tup (xs ++ ys)) → Q (.ref c) G
theorem op_catS {X : Cx} : OpR X (binaryOp .Add) (rCatS X.K) := by
  intro pins s σ H x y v u Q I rx ry h
  obtain ⟨a, b, xs, ys, rfl, rfl, ha, hb, hz, q⟩ := h
  refine op_catA pins s σ H _ _ v u Q I rx ry ⟨a, b, xs, ys, rfl, rfl, SqT.mk ha, SqT.mk hb, hz, fun e => ?_, fun _ e => ?_, fun _ _ p np => ?_⟩
  · subst e
    exact q H b (Same.refl H) hb
  · subst e
    exact q H a (Same.refl H) (by rw [List.append_nil]; exact ha)
  · exact q _ p (same_upd np) upd_same
def rSlS (_ : PySem.W.Frag) : V → Option Int → Option Int → Hp → VK → Prop := fun x lo hi H Q => ∃ a xs, x = .ref a ∧ H a = some (.tup xs) ∧ ∀ G c, Same H G → G c = some (.tup (cutV xs lo hi)) → Q (.ref c) G
theorem sl_tupS {X : Cx} : SlR X (rSlS X.K) := by
  intro pins s σ H x v vl vu lo hi sl Q I rx hs pl pu h
  obtain ⟨a, xs, rfl, ha, q⟩ := h
  refine sl_tupA pins s σ H _ v vl vu lo hi sl Q I rx hs pl pu ⟨a, xs, rfl, SqT.mk ha, fun e => ?_, fun _ p np => ?_⟩
  · refine q H a (Same.refl H) ?_
    unfold cutV
    rw [e.1, e.2, List.drop_zero, Nat.sub_zero, List.take_length]
    exact ha
  · exact q _ p (same_upd np) upd_same
def rRepS (_ : PySem.W.Frag) : R2 := fun x y H Q => ∃ (l : Addr) (k : Nat) (v : V), x = .ref l ∧ y = .int (k : Nat) ∧ H l = some (.tup [v]) ∧ k ≤ 1000000 ∧ ∀ G c, Same H G → G c = some (.tup (List.replicate k v)) → Q (.ref c) G
theorem rep_flat {α : Type} (v : α) : ∀ k : Nat, (List.replicate k [v]).flatten = List.replicate k v
  | 0 => rfl
  | k + 1 => by rw [List.replicate_succ, List.flatten_cons, rep_flat v k, List.replicate_succ]; rfl
theorem op_repS {X : Cx} : OpR X (binaryOp .Mult) (rRepS X.K) := by
  intro pins s σ H x y v u Q I rx ry h
  obtain ⟨l, k, z, rfl, rfl, hl, hk, q⟩ := h
  refine op_repB pins s σ H _ _ v u Q I rx ry ⟨l, k, [z], rfl, rfl, SqT.mk hl, by simp, by simpa using hk, fun e => ?_, fun _ p np => ?_⟩
  · refine q H l (Same.refl H) ?_
    rw [e]
    exact hl
  · refine q _ p (same_upd np) ?_
    rw [rep_flat]
    exact upd_same
theorem cut_lo (xs : List V) (m : Nat) (h : m ≤ xs.length) : cutV xs none (some (m : Nat)) = xs.take m := by
  unfold cutV
  show (xs.drop 0).take _ = _
  rw [HT.sIx_nat, List.drop_zero, show HT.sIx xs.length 0 none = 0 from rfl, Nat.sub_zero, Nat.min_eq_left h]
theorem cut_hi (xs : List V) (m : Nat) : cutV xs (some (m : Nat)) none = xs.drop m := by
  unfold cutV
  rw [HT.sIx_nat, show HT.sIx xs.length xs.length none = xs.length from rfl]
  by_cases h : m ≤ xs.length
  · rw [Nat.min_eq_left h]
    exact List.take_of_length_le (by rw [List.length_drop]; exact Nat.le_refl _)
  · rw [Nat.min_eq_right (by omega), List.drop_of_length_le (Nat.le_refl _), List.drop_of_length_le (by omega), List.take_nil]
/-! str(x) of any thing -/
def strD (d : PyData) : Str := match d with
  | .str z => z
  | d => d.shown
def rStrX (K : PySem.W.Frag) : List V → Hp → VK → Prop := fun xs H Q => ∃ v d, xs = [v] ∧ Dp K H v d ∧ ((∃ z, d = .str z) ∨ Sho d) ∧ Q (.str (strD d)) H
theorem u70g {k : Nat} {A : Around} (r : Room k A) : A.units + 70 < cLine := by
  have := r.un
  omega
theorem call_strX {X : Cx} (hg : X.A.guards = some []) (hu : X.A.units + 70 < cLine) : CallR X (.type "str") (rStrX X.K) := by
  intro pins s σ H vs us Q I r h
  obtain ⟨v, d, rfl, hd, sh, q⟩ := h
  cases hd with
  | non =>
    obtain ⟨u, rfl, r1⟩ := vals1 r
    cases r1
    exact PySem.P.str_of_none ⟨.str _, H, I.tok _, ⟨_, rfl⟩, q⟩
  | bl b =>
    obtain ⟨u, rfl, r1⟩ := vals1 r
    cases r1
    exact PySem.P.str_of_bool ⟨.str _, H, I.tok _, ⟨_, rfl⟩, by cases b <;> exact q⟩
  | int i =>
    obtain ⟨u, rfl, t, rfl⟩ := vals1 r
    rcases sh with ⟨z, e⟩ | sh
    · cases e
    have hs := sh.s
    simp only [PyData.showable] at hs
    exact PySem.P.str_of_int (of_decide_eq_true hs) ⟨.str _, H, I.tok _, ⟨_, rfl⟩, q⟩
  | str z =>
    obtain ⟨u, rfl, t, rfl⟩ := vals1 r
    exact PySem.P.str_of_str ⟨.str _, H, I, ⟨_, rfl⟩, q⟩
  | lst h1 h2 =>
    rcases sh with ⟨z, e⟩ | sh
    · cases e
    obtain ⟨shs, nd, dd, sz⟩ := sh
    rw [Vals.ref1 r]
    obtain ⟨as, rd⟩ := Dp.reads I _ (.ref _) (.ref _) (Dp.lst h1 h2) rfl
    refine str_of_reads rd shs (fun z => by rw [nd] at z; cases z) hg (by omega) (fun _ _ e => e) (fun h' u tk hk => ?_) sz
    exact ⟨.str _, H, I.kept (t' := tk) hk, ⟨_, rfl⟩, q⟩
  | tup h1 h2 =>
    rcases sh with ⟨z, e⟩ | sh
    · cases e
    obtain ⟨shs, nd, dd, sz⟩ := sh
    rw [Vals.ref1 r]
    obtain ⟨as, rd⟩ := Dp.reads I _ (.ref _) (.ref _) (Dp.tup h1 h2) rfl
    refine str_of_reads rd shs (fun z => by rw [nd] at z; cases z) hg (by omega) (fun _ _ e => e) (fun h' u tk hk => ?_) sz
    exact ⟨.str _, H, I.kept (t' := tk) hk, ⟨_, rfl⟩, q⟩
/-! things with tables about -/
mutual
theorem Tg.kp {p q : Addr → Prop} {H H' : Hp} (s1 : ∀ a xs, ¬ p a → H a = some (.lst xs) → H' a = some (.lst xs) ∧ ¬ q a) (s2 : ∀ a xs, ¬ p a → H a = some (.tup xs) → H' a = some (.tup xs) ∧ ¬ q a) : ∀ (d : PyData) (v : V), Tg p H v d → Tg q H' v d
  | .none, _, h => by cases h; exact .non
  | .bool b, _, h => by cases h; exact .bl b
  | .int i, _, h => by cases h; exact .int i
  | .str x, _, h => by cases h; exact .str x
  | .list ds, _, h => by
    cases h with
    | lst n e t => exact .lst (s1 _ _ n e).2 (s1 _ _ n e).1 (TgA.kp s1 s2 ds _ t)
  | .tuple ds, _, h => by
    cases h with
    | tup n e t => exact .tup (s2 _ _ n e).2 (s2 _ _ n e).1 (TgA.kp s1 s2 ds _ t)
  | .dict _, _, h => by cases h
theorem TgA.kp {p q : Addr → Prop} {H H' : Hp} (s1 : ∀ a xs, ¬ p a → H a = some (.lst xs) → H' a = some (.lst xs) ∧ ¬ q a) (s2 : ∀ a xs, ¬ p a → H a = some (.tup xs) → H' a = some (.tup xs) ∧ ¬ q a) : ∀ (ds : List PyData) (vs : List V), TgA p H vs ds → TgA q H' vs ds
  | [], _, h => by cases h; exact .nil
  | d :: ds, _, h => by
    cases h with
    | cons a b => exact .cons (Tg.kp s1 s2 d _ a) (TgA.kp s1 s2 ds _ b)
end
theorem Tg.sam {p : Addr → Prop} {H H' : Hp} {v : V} {d : PyData} (h : Tg p H v d) (s : Sam H H') : Tg p H' v d := h.kp (fun a xs n e => ⟨s.lst e, n⟩) (fun a xs n e => ⟨s.tup e, n⟩)
theorem TgA.sam {p : Addr → Prop} {H H' : Hp} {v : List V} {d : List PyData} (h : TgA p H v d) (s : Sam H H') : TgA p H' v d := h.kp (fun a xs n e => ⟨s.lst e, n⟩) (fun a xs n e => ⟨s.tup e, n⟩)
theorem tg_ints {p : Addr → Prop} {H : Hp} : ∀ rs : List Int, TgA p H (rs.map V.int) (rs.map PyData.int)
  | [] => .nil
  | x :: rs => .cons (.int x) (tg_ints rs)
/-! texts: str(x) of a text or a number -/
theorem call_strT {X : Cx} : CallR X (.type "str") (fun xs H Q => ∃ x, xs = [x] ∧ ((∃ z, x = .str z ∧ Q (.str z) H) ∨ ∃ i : Int, x = .int i ∧ i.natAbs.log2 < 1920 ∧ Q (.str (Str.ofString (toString i))) H)) := by
  intro pins s σ H vs us Q I r h
  obtain ⟨x, rfl, h⟩ := h
  rcases h with ⟨z, rfl, q⟩ | ⟨i, rfl, hs, q⟩
  · obtain ⟨u, rfl, t, rfl⟩ := vals1 r
    exact PySem.P.str_of_str ⟨.str _, H, I, ⟨_, rfl⟩, q⟩
  · obtain ⟨u, rfl, t, rfl⟩ := vals1 r
    exact PySem.P.str_of_int hs ⟨.str _, H, I.tok _, ⟨_, rfl⟩, q⟩
theorem small_log {n : Nat} (h : n < 1000) : ((n : Nat) : Int).natAbs.log2 < 1920 := by
  by_cases z : n = 0
  · subst z
    decide
  · rw [Int.natAbs_natCast, Nat.log2_lt z]
    exact Nat.lt_of_lt_of_le h (by decide +kernel)
mutual
def Nt.wt : Nt → Nat
  | .num _ => 4
  | .node w ts => w.length + 4 + Nt.wts ts
def Nt.wts : List Nt → Nat
  | [] => 0
  | t :: ts => t.wt + 1 + Nt.wts ts
end
theorem joinL_len : ∀ xs : List (List Nat), (TL.joinL [32] xs).length ≤ (xs.map List.length).sum + xs.length
  | [] => Nat.zero_le _
  | [p] => by
    show p.length ≤ _
    simp
  | p :: q :: r => by
    have := joinL_len (q :: r)
    show (p ++ ([32] ++ TL.joinL [32] (q :: r))).length ≤ _
    rw [List.length_append, List.length_append, List.map_cons, List.sum_cons, List.length_cons (a := p)]
    show p.length + (1 + _) ≤ _
    omega
theorem join_len (ws : List Str) : (Txt.join " " ws).length ≤ (ws.map (·.length)).sum + ws.length := by
  have := joinL_len (ws.map TL.tl)
  rw [TL.len_tl, tl_join32]
  rw [List.map_map, List.length_map] at this
  have e : ws.map (List.length ∘ TL.tl) = ws.map (·.length) := List.map_inj_left.mpr fun w _ => (TL.len_tl w).symm
  rw [e] at this
  exact this
theorem digs_len {n : Nat} (h : n < 1000) : (digs n).length ≤ 3 := by
  rw [TL.len_tl, digs_tl]
  exact TL.numL_len (by decide) (by omega)
theorem par_len (z : Str) : (("(" : Str) ++ z ++ (")" : Str)).length = z.length + 2 := by
  rw [TL.len_tl, TL.tl_append, TL.tl_append, List.length_append, List.length_append, ← TL.len_tl z]
  show 1 + _ + 1 = _
  omega
mutual
theorem ptx_len : ∀ {t : Nt}, t.Ok → t.ptx.length ≤ t.wt
  | .num n, h => by
    have h : n < 1000 := by simpa only [Nt.Ok] using h
    have := digs_len h
    show (digs n).length ≤ 4
    omega
  | .node w ts, h => by
    have ok : WdOk w ∧ Nt.Oks ts := by simpa only [Nt.Ok] using h
    have a := ptxs_len ok.2
    have b := join_len (w :: Nt.ptxs ts)
    rw [List.map_cons, List.sum_cons, List.length_cons] at b
    show (("(" : Str) ++ Txt.join " " (w :: Nt.ptxs ts) ++ (")" : Str)).length ≤ w.length + 4 + Nt.wts ts
    rw [par_len]
    omega
theorem ptxs_len : ∀ {ts : List Nt}, Nt.Oks ts → ((Nt.ptxs ts).map (·.length)).sum + (Nt.ptxs ts).length ≤ Nt.wts ts
  | [], _ => Nat.le_refl 0
  | t :: ts, h => by
    have ok : t.Ok ∧ Nt.Oks ts := by simpa only [Nt.Oks] using h
    have a := ptx_len ok.1
    have b := ptxs_len ok.2
    show ((t.ptx :: Nt.ptxs ts).map (·.length)).sum + (t.ptx :: Nt.ptxs ts).length ≤ t.wt + 1 + Nt.wts ts
    rw [List.map_cons, List.sum_cons, List.length_cons]
    omega
end
theorem ntx_len {w : Str} {ts : List Nt} (h : (Nt.node w ts).Ok) : (ntx w ts).length + 2 ≤ (Nt.node w ts).wt := by
  have := ptx_len h
  have e : (Nt.ptx (.node w ts)) = ("(" : Str) ++ ntx w ts ++ (")" : Str) := rfl
  rw [e, par_len] at this
  exact this
theorem datas_map : ∀ ts : List Nt, Nt.datas ts = ts.map Nt.data
  | [] => rfl
  | t :: ts => by
    show t.data :: Nt.datas ts = _
    rw [datas_map ts]
    rfl
theorem ptxs_map : ∀ ts : List Nt, Nt.ptxs ts = ts.map Nt.ptx
  | [] => rfl
  | t :: ts => by
    show t.ptx :: Nt.ptxs ts = _
    rw [ptxs_map ts]
    rfl
theorem oks_mem : ∀ {ts : List Nt} {t : Nt}, Nt.Oks ts → t ∈ ts → t.Ok ∧ t.dep ≤ Nt.deps ts ∧ t.wt ≤ Nt.wts ts
  | [], _, _, h => by cases h
  | x :: ts, t, h, hm => by
    have ok : x.Ok ∧ Nt.Oks ts := by simpa only [Nt.Oks] using h
    show t.Ok ∧ t.dep ≤ max x.dep (Nt.deps ts) ∧ t.wt ≤ x.wt + 1 + Nt.wts ts
    rcases List.mem_cons.mp hm with rfl | hm
    · exact ⟨ok.1, Nat.le_max_left _ _, by omega⟩
    · have := oks_mem ok.2 hm
      exact ⟨this.1, Nat.le_trans this.2.1 (Nat.le_max_right _ _), by omega⟩
theorem TgA.getD {p : Addr → Prop} {H : Hp} : ∀ {vs : List V} {ds : List PyData}, TgA p H vs ds → vs.length = ds.length ∧ ∀ (i : Nat) (v : V), vs[i]? = some v → ∃ d, ds[i]? = some d ∧ Tg p H v d
  | [], [], _ => ⟨rfl, fun i v e => by cases e⟩
  | [], _ :: _, h => by cases h
  | _ :: _, [], h => by cases h
  | x :: vs, y :: ds, h => by
    cases h with
    | cons a b =>
      obtain ⟨l, r⟩ := TgA.getD b
      refine ⟨by rw [List.length_cons, List.length_cons, l], fun i v e => ?_⟩
      cases i with
      | zero => cases e; exact ⟨y, rfl, a⟩
      | succ i => exact r i v (by simpa using e)
theorem wts_len : ∀ ts : List Nt, ts.length ≤ Nt.wts ts
  | [] => Nat.le_refl 0
  | t :: ts => by
    have := wts_len ts
    show ts.length + 1 ≤ t.wt + 1 + Nt.wts ts
    omega
def spr_part_text (d : Nat) {K : PySem.W.Frag} {mg : Str → Option Value} (T : Defs K mg) : Sp := fun vs H Q _ => ∃ (v : V) (p : Addr → Prop) (t : Nt), vs = [v] ∧ ((Tg p H v t.data ∧ t.Ok ∧ t.dep ≤ d ∧ t.wt ≤ 1000000 ∧ GxR.TabG H T.P_nested_text ∧ ∀ H', Sam H H' → Q (.str t.ptx) H') ∨ ∃ z, v = .str z ∧ Q (.str z) H)
def spr_nested_text (d : Nat) {K : PySem.W.Frag} {mg : Str → Option Value} (T : Defs K mg) : Sp := fun vs H Q _ => ∃ (v : V) (p : Addr → Prop) (w : Str) (ts : List Nt), vs = [v] ∧ Tg p H v (Nt.node w ts).data ∧ (Nt.node w ts).Ok ∧ (Nt.node w ts).dep ≤ d ∧ (Nt.node w ts).wt ≤ 1000000 ∧ GxR.TabG H T.P_nested_text ∧ ∀ H', Sam H H' → Q (.str (ntx w ts)) H'
theorem no_nested_text {K : PySem.W.Frag} {mg : Str → Option Value} {T : Defs K mg} {vs : List V} {H : Hp} {Q : VK} {E : XK} (h : spr_nested_text 0 T vs H Q E) : False := by
  obtain ⟨v, p, w, ts, _, _, _, z, _⟩ := h
  have z : Nt.deps ts + 1 ≤ 0 := by simpa only [Nt.dep] using z
  omega
theorem okr_nested_text (T : Defs K mg) (TT : Tabs T base) : ∀ d : Nat, FnOk P w K mg base CX0 (2 + 3 * d) T.f_nested_text T.fd_nested_text ["thing"] (spr_nested_text d T) ∧ FnOk P w K mg base CX0 (2 + 3 * d + 1) T.f_part_text T.fd_part_text ["part"] (spr_part_text d T)
  | d => by
    have G_nested_text : FnOk P w K mg base CX0 (2 + 3 * d) T.f_nested_text T.fd_nested_text ["thing"] (spr_nested_text d T) := by
      cases d with
      | zero => exact ⟨fun _ _ _ _ z => (no_nested_text z).elim, fun _ _ _ _ _ _ _ _ _ _ _ _ _ z => (no_nested_text z).elim⟩
      | succ d =>
        have G_part_text : FnOk P w K mg base CX0 (2 + 3 * d + 1) T.f_part_text T.fd_part_text ["part"] (spr_part_text d T) := (okr_nested_text T TT d).2
        show FnOk P w K mg base CX0 ((2 + 3 * d + 2) + 1) T.f_nested_text T.fd_nested_text ["thing"] (spr_nested_text (d + 1) T)
        refine okC T.F_nested_text T.k_nested_text sc_nested_text (fun vs H Q E h => ?_) (fun A outer s H vs Q E hr h => ?_)
        · obtain ⟨v, p, w, ts, rfl, _⟩ := h
          rfl
        obtain ⟨v, p, wd, ts, rfl, hv, ok, dp, wt, tab, q⟩ := h
        refine ⟨_, PSs.nox (pss_cons (ps_set (i := 1) sc_nested_text.nd rfl (.inl rfl) (pv 0))
          (pss_cons (ps_if (pt_cmpR op_eq (pe_ix ix_tup (pv 0) pe_int (fun _ _ => rfl)) pe_str (nomark _)) (pss_one (ps_set (i := 1) sc_nested_text.nd rfl (.inl rfl) (pe_op op_catS (pe_tup (pa_cons pe_str pa_nil)) (pe_ix ix_tup (pv 0) pe_int (fun _ _ => rfl))))) pss_nil)
          (pss_one (ps_ret (pe_joinE (k := 2 + 3 * d + 1) (own := [("part", 2)]) (g := gName 2) (tt := tYes) (hr.mono (by omega)) rfl sc_nested_text.nd TT.t_nested_text rfl (genOk_by (N := N_nested_text) (sc := defScope s_nested_text) (own := [("part", 2)]) (by decide +kernel) rfl (by decide +kernel) rfl) pe_str (pi_tup (pv 1)) (fun _ _ _ _ _ hr => (pg_name (i := 2) sc_nested_text.nd rfl (.inl rfl))) (fun _ _ _ _ _ hr => pts_nil) (fun _ _ _ _ _ hr => (pe_call G_part_text (hr.mono (by omega)) (by rfl) T.g_part_text T.F_part_text.kp T.b_part_text .nil pass0 (pa_cons (pv 2) pa_nil)))))))), ?_⟩
        have hsl : sizeLine = 16777216 := by decide
        have ok2 : WdOk wd ∧ Nt.Oks ts := by simpa only [Nt.Ok] using ok
        have dp2 : Nt.deps ts + 1 ≤ d + 1 := by simpa only [Nt.dep] using dp
        have wt2 : wd.length + 4 + Nt.wts ts ≤ 1000000 := by simpa only [Nt.wt] using wt
        have ed : (Nt.node wd ts).data = if wd = "table" then PyData.tuple [.str "table", .tuple (Nt.datas ts)] else .tuple (.str wd :: Nt.datas ts) := rfl
        rw [ed] at hv
        refine ⟨_, rfl, ?_⟩
        refine nx_via (σ := [some v, some v, none]) (fun σ G => ∃ (pa : Addr) (ys : List V), σ = [some v, some (.ref pa), none] ∧ Same H G ∧ G pa = some (.tup (.str wd :: ys)) ∧ TgA p G ys (Nt.datas ts)) (fun NN key => ?_) ?_
        · by_cases tb : wd = "table"
          · rw [if_pos tb] at hv
            cases hv with
            | tup n ha t =>
              rename_i a xs
              cases t with
              | cons t1 t =>
                cases t1
                cases t with
                | cons t2 t =>
                  cases t
                  cases t2 with
                  | tup n2 ha2 t2 =>
                    rename_i a2 ys
                    refine ⟨_, rfl, a, _, _, _, rfl, rfl, SqT.mk ha, atI_nat (j := 0) rfl, rfl, _, rfl, ?_⟩
                    rw [decide_eq_true rfl]
                    refine iteT ⟨(show 1 ≤ sizeLine by decide), fun t1 nt1 => ?_⟩
                    have s1 := same_upd nt1 (o := .tup [.str "table"])
                    have l2 := hsl
                    refine ⟨_, rfl, a, _, _, _, rfl, rfl, SqT.mk (s1 _ _ ha), atI_nat (j := 1) rfl, t1, a2, _, _, rfl, rfl, upd_same, s1 _ _ ha2, ?_, fun G c sG hc => key _ _ ⟨c, ys, rfl, s1.trans sG, by rw [tb]; exact hc, t2.same (s1.trans sG)⟩⟩
                    have := (TgA.getD t2).1
                    have := wts_len ts
                    rw [datas_map, List.length_map] at *
                    show 1 + ys.length ≤ sizeLine
                    omega
          · rw [if_neg tb] at hv
            cases hv with
            | tup n ha t =>
              rename_i a xs
              cases t with
              | cons t1 t =>
                cases t1
                rename_i ys
                refine ⟨_, rfl, a, _, _, _, rfl, rfl, SqT.mk ha, atI_nat (j := 0) rfl, rfl, _, rfl, ?_⟩
                rw [decide_eq_false (fun z => tb (V.str.inj z))]
                exact iteF (key _ _ ⟨a, ys, rfl, Same.refl H, ha, t⟩)
        rintro σ G ⟨pa, ys, rfl, sG, hpa, hys⟩
        obtain ⟨ly, hy⟩ := TgA.getD hys
        have tabG := (Sam.of sG).tabG tab
        refine ⟨_, rfl, _, rfl, pa, rfl, ⟨_, SqT.mk hpa⟩, tabG, fun F2 tb => ?_⟩
        refine gc_it (walk_tup (xs := V.str wd :: ys)) (fun j zs F3 => Sam G F3 ∧ zs = ((wd :: Nt.ptxs ts).take j).map V.str) ⟨Sam.tabbed tabG tb, rfl⟩ (fun j zs F3 _ h => SqT.mk (h.1.tup hpa)) ?_ ?_
        · rintro j zs v' F3 F4 hj ⟨s3, rfl⟩ ⟨rfl, hv'⟩
          have hz : (((wd :: Nt.ptxs ts).take j).map V.str).length < sizeLine := by
            have := wts_len ts
            rw [List.length_map, List.length_take, List.length_cons, ptxs_map, List.length_map]
            omega
          cases j with
          | zero =>
            cases hv'
            exact ⟨rfl, yes_ite ⟨_, rfl, _, p, .num 0, rfl, .inr ⟨wd, rfl, hz, fun _ => ⟨s3, rfl⟩⟩⟩⟩
          | succ i =>
            have hv' : ys[i]? = some v' := by simpa using hv'
            obtain ⟨dd, h1, h2⟩ := hy i v' hv'
            rw [datas_map, List.getElem?_map] at h1
            obtain ⟨t, ht, rfl⟩ := Option.map_eq_some_iff.mp h1
            obtain ⟨o1, o2, o3⟩ := oks_mem ok2.2 (List.mem_of_getElem? ht)
            refine ⟨rfl, yes_ite ⟨_, rfl, v', p, t, rfl, .inl ⟨h2.sam s3, o1, by omega, by omega, s3.tabG tabG, fun F5 s5 => ⟨hz, fun _ => ⟨s3.trans s5, ?_⟩⟩⟩⟩⟩
            have e : (wd :: Nt.ptxs ts)[i + 1]? = some t.ptx := by
              rw [List.getElem?_cons_succ, ptxs_map, List.getElem?_map, ht]
              rfl
            rw [List.take_add_one (i := i + 1), e, List.map_append]
            rfl
        · rintro zs F3 ⟨s3, rfl⟩
          have lz : (V.str wd :: ys).length = (wd :: Nt.ptxs ts).length := by
            rw [List.length_cons, List.length_cons, ly, datas_map, ptxs_map, List.length_map, List.length_map]
          refine ⟨wd :: Nt.ptxs ts, by rw [lz, List.take_length], joinOk_of_weight ?_ (by decide +kernel), q F3 ((Sam.of sG).trans s3)⟩
          have := ptxs_len ok2.2
          rw [List.map_cons, List.sum_cons, List.length_cons]
          omega
    refine ⟨G_nested_text, ?_⟩
    refine T.F_part_text.ok sc_part_text (fun vs H Q E h => ?_) (fun cdv A outer s H vs Q E hr h => ?_)
    · obtain ⟨v, p, t, rfl, _⟩ := h
      rfl
    obtain ⟨v, p, t, rfl, h⟩ := h
    refine ⟨_, PSs.nox (pss_cons (ps_if (pt_val (pe_callB call_isi (by rfl) T.m_isinstance bt_isinstance (pa_cons (pv 0) (pa_cons (pe_bltn (v := .ty "tuple") (by rfl) T.m_tuple bt_tuple rfl) pa_nil)))) (pss_one (ps_ret (pe_joined (.cons pe_str (.cons (pe_fmt (pe_call G_nested_text (hr.mono (by omega)) (by rfl) T.g_nested_text T.F_nested_text.kp T.b_nested_text .nil pass0 (pa_cons (pv 0) pa_nil))) (.cons pe_str .nil)))))) pss_nil)
      (pss_one (ps_ret (pe_callTy call_strT (by rfl) T.m_str bt_str (pa_cons (pv 0) pa_nil))))), ?_⟩
    have hsl : sizeLine = 16777216 := by decide
    rcases h with ⟨hv, ok, dp, wt, tab, q⟩ | ⟨z, rfl, q⟩
    · cases t with
      | num n =>
        cases hv with
        | int i =>
          have n3 : n < 1000 := by simpa only [Nt.Ok] using ok
          refine ⟨_, rfl, _, _, _, _, _, rfl, .ty "tuple", .base (.int _), kit_ty (by decide +kernel), _, rfl, iteF ⟨_, rfl, _, rfl, .inr ⟨_, rfl, small_log n3, q _ (Sam.refl H)⟩⟩⟩
      | node wd ts =>
        obtain ⟨a, xs, rfl, ha⟩ : ∃ a xs, v = .ref a ∧ H a = some (.tup xs) := by
          have e : (Nt.node wd ts).data = if wd = "table" then PyData.tuple [.str "table", .tuple (Nt.datas ts)] else .tuple (.str wd :: Nt.datas ts) := rfl
          rw [e] at hv
          split at hv
          · cases hv with
            | tup n e t => exact ⟨_, _, rfl, e⟩
          · cases hv with
            | tup n e t => exact ⟨_, _, rfl, e⟩
        have ln := ntx_len ok
        refine ⟨_, rfl, _, _, _, _, true, rfl, .ty "tuple", .base (.tup ha), kit_ty (by decide +kernel), true, rfl, iteT ?_⟩
        have e1 : ((Str.empty : Str) ++ ("(" : Str)) = "(" := by decide +kernel
        have l2 : (("(" : Str) ++ ntx wd ts).length = (ntx wd ts).length + 1 := by
          rw [TL.len_tl, TL.tl_append, List.length_append, ← TL.len_tl (ntx wd ts)]
          show 1 + _ = _
          omega
        refine ⟨_, rfl, by rw [e1]; decide +kernel, ?_⟩
        refine ⟨_, rfl, _, p, wd, ts, rfl, hv, ok, dp, wt, tab, fun H' s' => .inl ⟨_, rfl, by omega, _, rfl, by rw [e1, l2]; omega, _, rfl, by rw [e1, par_len]; omega, ?_⟩⟩
        rw [e1]
        exact q H' s'
    · refine ⟨_, rfl, _, _, _, _, _, rfl, .ty "tuple", .base (.str _), kit_ty (by decide +kernel), _, rfl, iteF ⟨_, rfl, _, rfl, .inl ⟨_, rfl, q⟩⟩⟩
/-! texts -/
def sp_nested_text {K : PySem.W.Frag} {mg : Str → Option Value} (T : Defs K mg) : Sp := spr_nested_text 8 T
theorem ok_nested_text (T : Defs K mg) (TT : Tabs T base) : FnOk P w K mg base CX0 26 T.f_nested_text T.fd_nested_text ["thing"] (sp_nested_text T) := (okr_nested_text T TT 8).1
def sp_formula_text {K : PySem.W.Frag} {mg : Str → Option Value} (T : Defs K mg) : Sp := spr_nested_text 8 T
theorem ok_formula_text (T : Defs K mg) (TT : Tabs T base) : FnOk P w K mg base CX0 27 T.f_formula_text T.fd_formula_text ["formula"] (sp_formula_text T) := by
  have G_nested_text : FnOk P w K mg base CX0 26 T.f_nested_text T.fd_nested_text ["thing"] (sp_nested_text T) := ok_nested_text T TT
  refine T.F_formula_text.ok sc_formula_text (fun vs H Q E h => ?_) (fun cdv A outer s H vs Q E hr h => ?_)
  · obtain ⟨v, p, w, ts, rfl, hv, ok, dp, wt, tab, q⟩ := h
    rfl
  · obtain ⟨v, p, w, ts, rfl, hv, ok, dp, wt, tab, q⟩ := h
    refine ⟨_, PSs.nox (pss_one (ps_ret (pe_call G_nested_text (hr.mono (by decide)) (by rfl) T.g_nested_text T.F_nested_text.kp T.b_nested_text .nil pass0 (pa_cons (pv 0) pa_nil)))), ?_⟩
    exact ⟨_, rfl, v, p, w, ts, rfl, hv, ok, dp, wt, tab, q⟩
theorem dv3 : ∀ {l : List Nat}, l.length ≤ 3 → NumText.AllDigits l → NumText.digitsVal l < 1000
  | [], _, _ => by decide
  | [a], _, h => by
    have := h a (by simp)
    show 0 * 10 + (a - 48) < 1000
    omega
  | [a, b], _, h => by
    have := h a (by simp)
    have := h b (by simp)
    show (0 * 10 + (a - 48)) * 10 + (b - 48) < 1000
    omega
  | [a, b, c], _, h => by
    have := h a (by simp)
    have := h b (by simp)
    have := h c (by simp)
    show ((0 * 10 + (a - 48)) * 10 + (b - 48)) * 10 + (c - 48) < 1000
    omega
  | _ :: _ :: _ :: _ :: _, l, _ => by
    simp only [List.length_cons] at l
    omega
def numFV (z : Str) : V := match numF z with
  | some n => .int n
  | none => .non
def wordV (z : Str) : V := match numF z with
  | some n => .int n
  | none => .str z
def sp_number_from (_ : PySem.W.Frag) : Sp := fun vs H Q _ => ∃ z : Str, vs = [.str z] ∧ z.length ≤ 1000000 ∧ Q (numFV z) H
theorem ok_number_from (T : Defs K mg) (TT : Tabs T base) : FnOk P w K mg base CX0 1 T.f_number_from T.fd_number_from ["text"] (sp_number_from K) := by
  refine T.F_number_from.ok sc_number_from (fun vs H Q E h => ?_) (fun cdv A outer s H vs Q E hr h => ?_)
  · obtain ⟨z, rfl, lz, q⟩ := h
    rfl
  · obtain ⟨z, rfl, lz, q⟩ := h
    refine ⟨_, PSs.nox (pss_cons (ps_if (PW.pt (pw_or (pt_not (pt_val (pe_m0 PySem.F.slot_str_isascii PySem.F.type_str_isascii mt_isascii (pv 0)))) (pw_or (pt_not (pt_val (pe_m0 PySem.F.slot_str_isdigit PySem.F.type_str_isdigit mt_isdigit (pv 0)))) (pw_or1 (pt_cmpR op_gt (pe_callB call_len_str (by rfl) T.m_len bt_len (pa_cons (pv 0) pa_nil)) (pe_globI (by rfl) T.i_MOST_FIGURES) (nomark _)))))) (pss_one (ps_ret pe_non)) pss_nil)
    (pss_cons (ps_set (i := 1) sc_number_from.nd rfl (.inl rfl) (pe_callTy call_int_str (by rfl) T.m_int bt_int (pa_cons (pv 0) pa_nil)))
    (pss_cons (ps_if (pt_cmpR op_ne (pe_callTy call_strT (by rfl) T.m_str bt_str (pa_cons (pv 1) pa_nil)) (pv 0) (nomark _)) (pss_one (ps_ret pe_non)) pss_nil)
    (pss_one (ps_ret (pv 1)))))), ?_⟩
    have hsl : sizeLine = 16777216 := by decide
    have no : ¬ (Txt.isascii z = true ∧ Txt.isdigit z = true ∧ z.length ≤ 3) → Q .non H := fun n => by
      unfold numFV numF at q
      rw [if_neg n] at q
      exact q
    refine ⟨_, rfl, ⟨z, rfl⟩, z, rfl, rfl, trivial, _, rfl, ?_⟩
    cases ha : Txt.isascii z with
    | false => exact iteT (iteT (no fun h => by rw [ha] at h; exact absurd h.1 (by decide)))
    | true =>
      refine iteF ⟨_, rfl, ⟨z, rfl⟩, z, rfl, rfl, trivial, _, rfl, ?_⟩
      cases hd : Txt.isdigit z with
      | false => exact iteT (iteT (no fun h => by rw [hd] at h; exact absurd h.2.1 (by decide)))
      | true =>
        refine iteF ⟨_, rfl, z, rfl, by omega, _, _, rfl, rfl, _, rfl, ite2 (fun e => ?_) (fun e => ?_)⟩
        · have : (3 : Int) < (z.length : Nat) := of_decide_eq_true e
          exact no fun h => by have := h.2.2; omega
        · have l3 : z.length ≤ 3 := by
            refine Nat.le_of_not_lt fun h => e (decide_eq_true ?_)
            show (3 : Int) < (z.length : Nat)
            omega
          have c : Txt.isascii z = true ∧ Txt.isdigit z = true ∧ z.length ≤ 3 := ⟨ha, hd, l3⟩
          obtain ⟨ne, ad⟩ := (isd_eq z).mp hd
          have aa := (isa_eq z).mp ha
          have al : NumText.AllDigits (TL.tl z) := fun x hx => dig_b x (aa x hx) (ad x hx)
          have ei := intText_digits (x := z) al ne (by omega)
          generalize hn : NumText.digitsVal z.cps.toList = n at ei
          have hn : NumText.digitsVal (TL.tl z) = n := hn
          unfold numFV numF at q
          rw [if_pos c, hn] at q
          have n3 : n < 1000 := by
            rw [← hn]
            exact dv3 (by rw [← TL.len_tl]; exact l3) al
          refine ⟨_, rfl, z, n, rfl, ei, by omega, ?_⟩
          refine ⟨_, rfl, _, rfl, .inr ⟨_, rfl, small_log n3, _, rfl, rfl, _, rfl, ?_⟩⟩
          by_cases e : digs n = z
          · rw [if_pos e] at q
            rw [show decide (V.str (Str.ofString (toString (n : Int))) = V.str z) = true from decide_eq_true (congrArg V.str e)]
            exact iteF ⟨_, rfl, q⟩
          · rw [if_neg e] at q
            rw [show decide (V.str (Str.ofString (toString (n : Int))) = V.str z) = false from decide_eq_false fun x => e (V.str.inj x)]
            exact iteT q
def sp_word_from (_ : PySem.W.Frag) : Sp := fun vs H Q _ => ∃ z : Str, vs = [.str z] ∧ z.length ≤ 1000000 ∧ Q (wordV z) H
theorem ok_word_from (T : Defs K mg) (TT : Tabs T base) : FnOk P w K mg base CX0 2 T.f_word_from T.fd_word_from ["text"] (sp_word_from K) := by
  have G_number_from : FnOk P w K mg base CX0 1 T.f_number_from T.fd_number_from ["text"] (sp_number_from K) := ok_number_from T TT
  refine T.F_word_from.ok sc_word_from (fun vs H Q E h => ?_) (fun cdv A outer s H vs Q E hr h => ?_)
  · obtain ⟨z, rfl, lz, q⟩ := h
    rfl
  · obtain ⟨z, rfl, lz, q⟩ := h
    refine ⟨_, PSs.nox (pss_cons (ps_set (i := 1) sc_word_from.nd rfl (.inl rfl) (pe_call G_number_from (hr.mono (by decide)) (by rfl) T.g_number_from T.F_number_from.kp T.b_number_from .nil pass0 (pa_cons (pv 0) pa_nil)))
    (pss_cons (ps_if (pt_cmpR op_isN (pv 1) pe_non (nomark _)) (pss_one (ps_ret (pv 0))) pss_nil)
    (pss_one (ps_ret (pv 1))))), ?_⟩
    refine ⟨_, rfl, z, rfl, lz, ?_⟩
    unfold wordV at q
    unfold numFV
    cases e : numF z with
    | none =>
      rw [e] at q
      exact ⟨_, rfl, rfl, _, rfl, iteT ⟨_, rfl, q⟩⟩
    | some n =>
      rw [e] at q
      exact ⟨_, rfl, rfl, _, rfl, iteF ⟨_, rfl, q⟩⟩
theorem gd_shaped {d : PyData} (h : gd 21 d = true) (n : d.depth ≤ 64) : PySem.SeqAt.shaped d = true := by
  unfold PySem.SeqAt.shaped
  rw [(gd_lvs d h).2, decide_eq_true n]
  rfl
theorem tbl_eqv (d : PyData) (r : List PyData) : PyData.eqv (.list [d]) (.list [.str "table"]) = true ∧ d = .str "table" ∨ PyData.eqv (.list [d]) (.list [.str "table"]) = false ∧ d ≠ .str "table" := by
  have e : PyData.eqv (.list [d]) (.list [.str "table"]) = PyData.eqv d (.str "table") := by
    simp only [PyData.eqv, PyData.eqvAll, Bool.and_true]
  rw [e]
  cases d with
  | str z =>
    by_cases c : z = "table"
    · exact .inl ⟨by rw [c]; simp only [PyData.eqv, beq_self_eq_true], by rw [c]⟩
    · exact .inr ⟨by simp only [PyData.eqv]; exact beq_false_of_ne c, fun x => c (PyData.str.inj x)⟩
  | _ => exact .inr ⟨by simp only [PyData.eqv], fun x => by cases x⟩
theorem shp_no {ds : List PyData} (h : ∀ r, ds ≠ .str "table" :: r) : shp ds = .tuple ds := by
  unfold shp
  split
  · rename_i z r
    rw [if_neg fun e => h r (by rw [e])]
  · rfl
theorem shp_tbl (r : List PyData) : shp (.str "table" :: r) = .tuple [.str "table", .tuple r] := by
  show (if ("table" : Str) = "table" then PyData.tuple [.str "table", .tuple r] else .tuple (.str "table" :: r)) = _
  rw [if_pos rfl]
def sp_shaped (K : PySem.W.Frag) : Sp := fun vs H Q _ => ∃ (l : Addr) (p : Addr → Prop) (xs : List V) (ds : List PyData), vs = [.ref l] ∧ H l = some (.lst xs) ∧ TgA p H xs ds ∧ (∀ a, p a → H a ≠ none) ∧ (∀ d, d ∈ ds → gd 21 d = true ∧ d.depth ≤ 30) ∧ ds.length ≤ 1000000 ∧ ∀ H' v, Same H H' → Tg p H' v (shp ds) → Q v H'
theorem ok_shaped (T : Defs K mg) (TT : Tabs T base) : FnOk P w K mg base CX0 1 T.f_shaped T.fd_shaped ["parts"] (sp_shaped K) := by
  refine T.F_shaped.ok sc_shaped (fun vs H Q E h => ?_) (fun cdv A outer s H vs Q E hr h => ?_)
  · obtain ⟨l, p, xs, ds, rfl, hl, hx, pn, hd, ld, q⟩ := h
    rfl
  · obtain ⟨l, p, xs, ds, rfl, hl, hx, pn, hd, ld, q⟩ := h
    refine ⟨_, PSs.nox (pss_cons (ps_if (pt_cmpR (op_eqD hr.units) (pe_slice sl_list (pv 0) po_none (po_some pe_int)) (pe_lst (pa_cons pe_str pa_nil)) (nomark _)) (pss_one (ps_ret (pe_tup (pa_cons pe_str (pa_cons (pe_callTy call_tuple_of (by rfl) T.m_tuple bt_tuple (pa_cons (pe_slice sl_list (pv 0) (po_some pe_int) po_none) pa_nil)) pa_nil))))) pss_nil)
    (pss_one (ps_ret (pe_callTy call_tuple_of (by rfl) T.m_tuple bt_tuple (pa_cons (pv 0) pa_nil))))), ?_⟩
    have hsl : sizeLine = 16777216 := by decide
    cases hx with
    | nil =>
      refine ⟨_, rfl, 1, rfl, l, _, rfl, SqL.mk hl, fun t nt => ⟨(show 1 ≤ sizeLine by decide), fun u nu => ?_⟩⟩
      have st := same_upd nt (o := .lst (cutV [] none (some 1)))
      have su := same_upd nu (o := .lst [.str "table"])
      have ht := su _ _ (upd_same (H := H) (a := t) (o := .lst (cutV [] none (some 1))))
      refine ⟨.list [], .list [.str "table"], .lst (SqL.mk ht) .nil, .lst (SqL.mk upd_same) (.cons (.str _) .nil), rfl, by decide +kernel, _, rfl, iteF ⟨_, rfl, l, _, rfl, .inl ⟨SqL.mk (su _ _ (st _ _ hl)), fun y ny => ?_⟩⟩⟩
      have sH := (st.trans su).trans (same_upd ny (o := .tup []))
      refine q _ _ sH ?_
      exact .tup (fun z => pn y z ((st.trans su).free ny)) upd_same .nil
    | cons h1 h2 =>
      rename_i x xs d ds
      have c1 : cutV (x :: xs) none (some 1) = [x] := cut_lo (x :: xs) 1 (by simp)
      have c2 : cutV (x :: xs) (some 1) none = xs := cut_hi (x :: xs) 1
      obtain ⟨g1, g2⟩ := hd d List.mem_cons_self
      refine ⟨_, rfl, 1, rfl, l, _, rfl, SqL.mk hl, fun t nt => ⟨(show 1 ≤ sizeLine by decide), fun u nu => ?_⟩⟩
      rw [c1] at nu ⊢
      have st := same_upd nt (o := .lst [x])
      have su := same_upd nu (o := .lst [.str "table"])
      have ht := su _ _ (upd_same (H := H) (a := t) (o := .lst [x]))
      have sU := st.trans su
      have shd : PySem.SeqAt.shaped (.list [d]) = true := gd_shaped (by simp only [gd, gdA, g1]; rfl) (by simp only [PyData.depth, PyData.depthAll]; omega)
      refine ⟨.list [d], .list [.str "table"], .lst (SqL.mk ht) (.cons (h1.same sU).dp .nil), .lst (SqL.mk upd_same) (.cons (.str _) .nil), shd, by decide +kernel, _, rfl, ?_⟩
      rcases tbl_eqv d ds with ⟨e, rfl⟩ | ⟨e, ne⟩
      · rw [e]
        refine iteT ⟨_, rfl, 1, rfl, l, _, rfl, SqL.mk (sU _ _ hl), fun y ny => ?_⟩
        rw [c2]
        have sy := same_upd ny (o := .lst xs)
        refine ⟨y, xs, rfl, .inl ⟨SqL.mk upd_same, fun z nz => ⟨(show 2 ≤ sizeLine by decide), fun a na => ?_⟩⟩⟩
        have sz := same_upd nz (o := .tup xs)
        have hz := upd_same (H := upd (upd (upd H t (.lst [x])) u (.lst [.str "table"])) y (.lst xs)) (a := z) (o := .tup xs)
        have sa := same_upd na (o := .tup [.str "table", .ref z])
        have s3 := sU.trans sy
        have s4 := s3.trans sz
        refine q _ _ (s4.trans sa) ?_
        show Tg p _ _ (shp (.str "table" :: ds))
        rw [shp_tbl]
        exact .tup (fun w => pn a w (s4.free na)) upd_same (.cons (.str _) (.cons (.tup (fun w => pn z w (s3.free nz)) (sa _ _ hz) (h2.same (s4.trans sa))) .nil))
      · rw [e]
        refine iteF ⟨_, rfl, l, _, rfl, .inl ⟨SqL.mk (sU _ _ hl), fun y ny => ?_⟩⟩
        have sy := same_upd ny (o := .tup (x :: xs))
        refine q _ _ (sU.trans sy) ?_
        rw [shp_no fun r z => ne (by injection z)]
        exact .tup (fun w => pn y w (sU.free ny)) upd_same (.cons (h1.same (sU.trans sy)) (h2.same (sU.trans sy)))
/-! a receiver that wants a token -/
section
variable {X : Cx}
theorem pst_set {i : Nat} {x : Str} {e : Expr} {te : TE} {pos' pos : Pos} (hN : X.N.Nodup) (hi : X.N[i]? = some x) (hx : Loc X.env.scope x) (he : PET X e te) (hs : swapsWith e (some (.Name x pos')) pos.line X.env = pure false := by rfl) (hf : X.fn x = true ∨ X.env.scope.names.lookup x = some .local := by first | exact .inl rfl | exact .inr rfl) :
    PST X (.Assign [.Name x pos'] e pos) (tAsg te (gName i)) := by
  intro pins s σ H D h0 I h
  refine wpAny_Assign_Name (thn (he pins s σ H _ h0 I h) fun v s1 ⟨y, H1, I1, r1, q1⟩ => ?_) hs
  exact store_ok I1 hN hi hx r1 (fun s2 I2 => ⟨_, H1, I2, q1⟩) hf
theorem pet_m1 {o e : Expr} {to te : TE} {id : String} {name : Str} {apos pos : Pos} {r : V → List V → Hp → VK → Prop} (slot : Slot "str" name id) (ty : typeOf (.builtin id) = pure (.type "method_descriptor")) (rule : MtR X id r) (ho : PET X o to) (he : PE X e te)
    (hs : starEach [e] X.env = [(false, eval e X.env)] := by rfl) (hbase : attributeBase o name X.env (eval o X.env) = eval o X.env := by rfl) (hline : (apos.endLine == pos.line) = true := by rfl) :
    PET X (.Call (.Attribute o name apos) [e] [] pos) (tM1 r to te) := by
  intro pins s σ H Q h0 I h
  refine PySem.Call_method1 hbase hs hline (thn (ho pins s σ H _ h0 I h) fun v s1 ⟨x, H1, I1, r1, q1⟩ => ?_)
  obtain ⟨⟨a, rfl⟩, q1⟩ := q1
  obtain ⟨t, rfl⟩ := _root_.id r1
  refine ⟨"str", _, PySem.F.plainAttrs_str, slot, ty, typeIs_str _ _ _, (fun _ e => nomatch e), Calls.callWith_builtin rfl (Calls.evalArgs_plain (Calls.spliced_cons ?_))⟩
  exact thn (he.run pins s1 σ H1 _ I1 q1) fun u s2 ⟨y, H2, I2, r2, q2⟩ => Calls.spliced_nil (rule pins s2 σ H2 _ [y] _ [u] Q I2 r1 (.cons r2 .nil) q2)
end
theorem okT {P : Program} {w : World} {K : PySem.W.Frag} {mg : Str → Option Value} {base : Heap} {x : Str} {st : Stmt} {f : Addr} {fd : FuncData} {N ps : List Str} {k : Nat} {sp : Sp} (F : FnP K x st f fd) (S : FnScope N ps (defScope st)) (hnc : ∀ y ∈ (defScope st).names, y.2 ≠ .cell) (hps : 1 ≤ ps.length) (len : ∀ vs H Q E, sp vs H Q E → vs.length = ps.length)
    (hb : ∀ (cdv : Value) (A : Around) (outer : List Env) (s : Shared) (H : Hp) (vs : List V) (Q : VK) (E : XK), Room k (A.deeper (envOfC x (defScope st) s.heap.objs.size f cdv)) → sp vs H Q E →
      ∃ t, PSsT (cxOf CX0 P w K mg base N x (defScope st) f cdv A outer s H E) (defBody st) t ∧ t { nx := fun _ H' => Q .non H', rt := Q } (L2.start N vs) H) : FnOk P w K mg base CX0 (k + 1) f fd ps sp := by
  obtain ⟨oc, od, dV, kV, doc, pm, an, cdv, ct, osl, rfl, lk, hcd, _, _⟩ := F.ex
  exact fn_ofT lk hcd S hnc hps len fun A outer s H vs Q E hr h => hb cdv A outer s H vs Q E hr h
/-! nested_from: the levels -/
theorem tgA_snoc {p : Addr → Prop} {H : Hp} {v : V} {d : PyData} (hv : Tg p H v d) : ∀ {vs : List V} {ds : List PyData}, TgA p H vs ds → TgA p H (vs ++ [v]) (ds ++ [d])
  | [], [], _ => .cons hv .nil
  | [], _ :: _, h => by cases h
  | _ :: _, [], h => by cases h
  | _ :: _, _ :: _, h => by
    cases h with
    | cons a b => exact .cons a (tgA_snoc hv b)
structure LvOk (L : List (List PyData)) : Prop where
  le : L.length ≤ 8
  ok : ∀ (j : Nat) (t : List PyData), L[j]? = some t → ∀ d, d ∈ t → gd 21 d = true ∧ d.depth + 2 * (L.length - j) ≤ 16
theorem wordD_ok {z : Str} (h : PyData.strOk z = true) : gd 21 (wordD z) = true ∧ (wordD z).depth = 0 := by
  unfold wordD
  cases e : numF z with
  | none => exact ⟨by simpa only [gd] using h, rfl⟩
  | some n =>
    refine ⟨?_, rfl⟩
    have : ∃ k : Nat, k < 1000 ∧ n = k := by
      unfold numF at e
      split at e
      · rename_i c
        split at e
        · injection e with e
          refine ⟨_, ?_, e.symm⟩
          refine dv3 (by rw [← TL.len_tl]; exact c.2.2) fun x hx => dig_b x ((isa_eq z).mp c.1 x hx) (((isd_eq z).mp c.2.1).2 x hx)
        · cases e
      · cases e
    obtain ⟨k, hk, rfl⟩ := this
    simp only [gd]
    refine decide_eq_true ?_
    have : (1000 : Nat) ≤ 10 ^ 21 := by decide
    rw [Int.natAbs_natCast]
    omega
theorem gdA_of {k : Nat} : ∀ {ds : List PyData}, (∀ d, d ∈ ds → gd k d = true) → gdA k ds = true
  | [], _ => rfl
  | d :: ds, h => by
    simp only [gdA, Bool.and_eq_true]
    exact ⟨h d List.mem_cons_self, gdA_of fun x hx => h x (List.mem_cons_of_mem _ hx)⟩
theorem dpA_of {n : Nat} : ∀ {ds : List PyData}, (∀ d, d ∈ ds → d.depth ≤ n) → PyData.depthAll ds ≤ n
  | [], _ => by simp only [PyData.depthAll]; omega
  | d :: ds, h => by
    have a := h d List.mem_cons_self
    have b := dpA_of fun x hx => h x (List.mem_cons_of_mem _ hx)
    simp only [PyData.depthAll]
    omega
theorem shp_ok {t : List PyData} {n : Nat} (h : ∀ d, d ∈ t → gd 21 d = true ∧ d.depth ≤ n) : gd 21 (shp t) = true ∧ (shp t).depth ≤ n + 2 := by
  have g := gdA_of fun d hd => (h d hd).1
  have p := dpA_of fun d hd => (h d hd).2
  have plain : gd 21 (.tuple t) = true ∧ (PyData.tuple t).depth ≤ n + 2 := ⟨by simpa only [gd] using g, by simp only [PyData.depth]; omega⟩
  by_cases e : ∃ r, t = .str "table" :: r
  · obtain ⟨r, rfl⟩ := e
    have gr := gdA_of fun d hd => (h d (List.mem_cons_of_mem _ hd)).1
    have pr := dpA_of fun d hd => (h d (List.mem_cons_of_mem _ hd)).2
    rw [shp_tbl]
    refine ⟨?_, ?_⟩
    · simp only [gd, gdA, Bool.and_true, gr]
      decide +kernel
    · simp only [PyData.depth, PyData.depthAll]
      omega
  · rw [shp_no fun r z => e ⟨r, z⟩]
    exact plain
theorem LvOk.push {L : List (List PyData)} (h : LvOk L) (l : L.length ≤ 7) : LvOk ([] :: L) := ⟨by rw [List.length_cons]; omega, fun j t e d hd => by
  cases j with
  | zero => cases e; cases hd
  | succ j =>
    have := h.ok j t (by simpa using e) d hd
    rw [List.length_cons]
    exact ⟨this.1, by omega⟩⟩
theorem LvOk.word {t : List PyData} {r : List (List PyData)} {d : PyData} (h : LvOk (t :: r)) (g : gd 21 d = true) (z : d.depth = 0) : LvOk ((t ++ [d]) :: r) := ⟨by have := h.le; rw [List.length_cons] at this ⊢; exact this, fun j u e x hx => by
  have l := h.le
  rw [List.length_cons] at l ⊢
  cases j with
  | zero =>
    cases e
    rcases List.mem_append.mp hx with hx | hx
    · have := h.ok 0 t rfl x hx
      rw [List.length_cons] at this
      exact this
    · rw [List.mem_singleton.mp hx, z]
      exact ⟨g, by omega⟩
  | succ j =>
    have := h.ok (j + 1) u (by simpa using e) x hx
    rw [List.length_cons] at this
    exact this⟩
theorem LvOk.pop {t u : List PyData} {r : List (List PyData)} (h : LvOk (t :: u :: r)) : LvOk ((u ++ [shp t]) :: r) := by
  have l := h.le
  rw [List.length_cons, List.length_cons] at l
  have h0 : ∀ d, d ∈ t → gd 21 d = true ∧ d.depth ≤ 16 - 2 * (r.length + 2) := fun d hd => by
    have := h.ok 0 t rfl d hd
    rw [List.length_cons, List.length_cons] at this
    exact ⟨this.1, by omega⟩
  obtain ⟨a, b⟩ := shp_ok h0
  refine ⟨by rw [List.length_cons]; omega, fun j x e d hd => ?_⟩
  rw [List.length_cons]
  cases j with
  | zero =>
    cases e
    rcases List.mem_append.mp hd with hd | hd
    · have := h.ok 1 u rfl d hd
      rw [List.length_cons, List.length_cons] at this
      exact ⟨this.1, by omega⟩
    · rw [List.mem_singleton.mp hd]
      exact ⟨a, by omega⟩
  | succ j =>
    have := h.ok (j + 2) x (by simpa using e) d hd
    rw [List.length_cons, List.length_cons] at this
    exact ⟨this.1, by omega⟩
/-- the levels as they stand, the innermost first -/
structure Lvs (H0 G : Hp) (LV : Addr) (as : List Addr) (L : List (List PyData)) (n : Nat) : Prop where
  kp : Same H0 G
  n0 : H0 LV = none
  ns : ∀ a, a ∈ as → H0 a = none
  lv : G LV = some (.lst (as.reverse.map V.ref))
  len : as.length = L.length
  nd : as.Nodup
  no : LV ∉ as
  at_ : ∀ (j : Nat) (a : Addr) (t : List PyData), as[j]? = some a → L[j]? = some t → ∃ vs, G a = some (.lst vs) ∧ TgA (fun b => b = LV ∨ b ∈ as) G vs t
  lt : ∀ t, t ∈ L → t.length ≤ n
theorem Lvs.ex {H0 G : Hp} {LV : Addr} {as : List Addr} {L : List (List PyData)} {n : Nat} (h : Lvs H0 G LV as L n) {a : Addr} (ha : a = LV ∨ a ∈ as) : G a ≠ none := by
  rcases ha with rfl | ha
  · rw [h.lv]
    exact fun z => by cases z
  · obtain ⟨j, hj⟩ := List.getElem?_of_mem ha
    have jl : j < L.length := by rw [← h.len]; exact (List.getElem?_eq_some_iff.mp hj).1
    obtain ⟨vs, e, _⟩ := h.at_ j a _ hj (List.getElem?_eq_getElem jl)
    rw [e]
    exact fun z => by cases z
/-- the innermost level gets one thing more -/
theorem Lvs.put {H0 G G' : Hp} {LV a : Addr} {as : List Addr} {t : List PyData} {r : List (List PyData)} {n : Nat} {vs : List V} {v : V} {d : PyData} (h : Lvs H0 G LV (a :: as) (t :: r) n) (s : Same G G') (ha : G' a = some (.lst vs)) (hv : Tg (fun b => b = LV ∨ b ∈ a :: as) G' v d) :
    Lvs H0 (upd G' a (.lst (vs ++ [v]))) LV (a :: as) ((t ++ [d]) :: r) (n + 1) := by
  obtain ⟨ws, e1, e2⟩ := h.at_ 0 a t rfl rfl
  have : vs = ws := by
    have := s _ _ e1
    rw [ha] at this
    cases this
    rfl
  subst this
  have am : a ∈ a :: as := List.mem_cons_self
  have aLV : a ≠ LV := fun z => h.no (z ▸ am)
  have up : ∀ {xs : List V} {ds : List PyData}, TgA (fun b => b = LV ∨ b ∈ a :: as) G' xs ds → TgA (fun b => b = LV ∨ b ∈ a :: as) (upd G' a (.lst (vs ++ [v]))) xs ds := fun g => g.kp (fun b xs nb e => ⟨(upd_ne fun z => nb (.inr (z ▸ am))).trans e, nb⟩) (fun b xs nb e => ⟨(upd_ne fun z => nb (.inr (z ▸ am))).trans e, nb⟩)
  refine ⟨same_newer (h.kp.trans s) (h.ns a am), h.n0, h.ns, (upd_ne aLV.symm).trans (s _ _ h.lv), by have := h.len; rw [List.length_cons, List.length_cons] at this ⊢; exact this, h.nd, h.no, fun j b u ej el => ?_, fun u hu => ?_⟩
  · cases j with
    | zero =>
      cases ej
      cases el
      exact ⟨_, upd_same, up (tgA_snoc hv (e2.same s))⟩
    | succ j =>
      obtain ⟨xs, x1, x2⟩ := h.at_ (j + 1) b u ej (by simpa using el)
      have ba : b ≠ a := fun z => by
        have hm : b ∈ as := List.mem_of_getElem? (by simpa using ej)
        exact (List.nodup_cons.mp h.nd).1 (z ▸ hm)
      exact ⟨xs, (upd_ne ba).trans (s _ _ x1), up (x2.same s)⟩
  · rcases List.mem_cons.mp hu with rfl | hu
    · have := h.lt t List.mem_cons_self
      rw [List.length_append]
      exact Nat.succ_le_succ this
    · exact Nat.le_succ_of_le (h.lt u (List.mem_cons_of_mem _ hu))
/-- a level more -/
theorem Lvs.push {H0 G : Hp} {LV b : Addr} {as : List Addr} {L : List (List PyData)} {n : Nat} (h : Lvs H0 G LV as L n) (nb : G b = none) : Lvs H0 (upd (upd G b (.lst [])) LV (.lst (as.reverse.map V.ref ++ [.ref b]))) LV (b :: as) ([] :: L) (n + 1) := by
  have bLV : b ≠ LV := fun z => by rw [z, h.lv] at nb; cases nb
  have bas : b ∉ as := fun z => h.ex (.inr z) nb
  have up : ∀ {xs : List V} {ds : List PyData}, TgA (fun x => x = LV ∨ x ∈ as) G xs ds → TgA (fun x => x = LV ∨ x ∈ b :: as) (upd (upd G b (.lst [])) LV (.lst (as.reverse.map V.ref ++ [.ref b]))) xs ds := fun g => g.kp
    (fun x xs nx e => have xb : x ≠ b := ne_of_none e nb; ⟨(upd_ne fun z => nx (.inl z)).trans ((upd_ne xb).trans e), fun z => z.elim (fun z => nx (.inl z)) fun z => (List.mem_cons.mp z).elim xb fun z => nx (.inr z)⟩)
    (fun x xs nx e => have xb : x ≠ b := ne_of_none e nb; ⟨(upd_ne fun z => nx (.inl z)).trans ((upd_ne xb).trans e), fun z => z.elim (fun z => nx (.inl z)) fun z => (List.mem_cons.mp z).elim xb fun z => nx (.inr z)⟩)
  have nb0 : H0 b = none := h.kp.free nb
  refine ⟨same_newer (h.kp.trans (same_upd nb)) h.n0, h.n0, fun a ha => ?_, ?_, by rw [List.length_cons, List.length_cons, h.len], List.nodup_cons.mpr ⟨bas, h.nd⟩, fun z => (List.mem_cons.mp z).elim (fun z => bLV z.symm) h.no, fun j a t ej el => ?_, fun t ht => ?_⟩
  · rcases List.mem_cons.mp ha with rfl | ha
    · exact nb0
    · exact h.ns a ha
  · rw [upd_same, List.reverse_cons, List.map_append]
    rfl
  · cases j with
    | zero =>
      cases ej
      cases el
      exact ⟨[], (upd_ne bLV).trans upd_same, .nil⟩
    | succ j =>
      obtain ⟨xs, x1, x2⟩ := h.at_ j a t (by simpa using ej) (by simpa using el)
      have am : a ∈ as := List.mem_of_getElem? (by simpa using ej)
      exact ⟨xs, (upd_ne (show a ≠ LV from fun z => h.no (by rw [← z]; exact am))).trans ((upd_ne (ne_of_none x1 nb)).trans x1), up x2⟩
  · rcases List.mem_cons.mp ht with rfl | ht
    · exact Nat.zero_le _
    · exact Nat.le_succ_of_le (h.lt t ht)
/-- a level less -/
theorem Lvs.pop {H0 G : Hp} {LV a : Addr} {as : List Addr} {t : List PyData} {L : List (List PyData)} {n : Nat} (h : Lvs H0 G LV (a :: as) (t :: L) n) : Lvs H0 (upd G LV (.lst (as.reverse.map V.ref))) LV as L n := by
  have up : ∀ {xs : List V} {ds : List PyData}, TgA (fun x => x = LV ∨ x ∈ a :: as) G xs ds → TgA (fun x => x = LV ∨ x ∈ as) (upd G LV (.lst (as.reverse.map V.ref))) xs ds := fun g => g.kp
    (fun x xs nx e => ⟨(upd_ne fun z => nx (.inl z)).trans e, fun z => nx (z.imp id fun z => List.mem_cons_of_mem _ z)⟩) (fun x xs nx e => ⟨(upd_ne fun z => nx (.inl z)).trans e, fun z => nx (z.imp id fun z => List.mem_cons_of_mem _ z)⟩)
  have hn : LV ∉ as := fun z => h.no (List.mem_cons_of_mem _ z)
  refine ⟨same_newer h.kp h.n0, h.n0, fun b hb => h.ns b (List.mem_cons_of_mem _ hb), upd_same, by have := h.len; rw [List.length_cons, List.length_cons] at this; omega, (List.nodup_cons.mp h.nd).2, hn, fun j b u ej el => ?_, fun u hu => h.lt u (List.mem_cons_of_mem _ hu)⟩
  obtain ⟨xs, x1, x2⟩ := h.at_ (j + 1) b u (by simpa using ej) (by simpa using el)
  have bm : b ∈ as := List.mem_of_getElem? ej
  exact ⟨xs, (upd_ne (show b ≠ LV from fun z => hn (by rw [← z]; exact bm))).trans x1, up x2⟩
def sp_nested_from (_ : PySem.W.Frag) : Sp := fun vs H Q _ => ∃ (z : Str) (zs : List Str), vs = [.str z] ∧ z.length ≤ 1000000 ∧ Txt.split (Txt.replace (Txt.replace z "(" "( ") ")" " )") " " = zs ∧ (∀ x, x ∈ zs → PyData.strOk x = true ∧ x.length ≤ 1000000) ∧ zs.length ≤ 1000000 ∧
  (∀ H' v d, Same H H' → pres zs = some d → Tg (fun _ => False) H' v d → gd 21 d = true → d.depth ≤ 16 → Q v H') ∧ ∀ H', Same H H' → pres zs = none → Q .non H'
theorem prun_app : ∀ (as bs : List Str) (L : List (List PyData)), prun (as ++ bs) L = (prun as L).bind (prun bs)
  | [], bs, L => rfl
  | a :: as, bs, L => by
    show (if 8 < (pstep L a).length then none else prun (as ++ bs) (pstep L a)) = (if 8 < (pstep L a).length then none else prun as (pstep L a)).bind (prun bs)
    split
    · rfl
    · exact prun_app as bs _
theorem prun_snoc {as : List Str} {z : Str} {L L2 : List (List PyData)} (h : prun as L = some L2) : prun (as ++ [z]) L = if 8 < (pstep L2 z).length then none else some (pstep L2 z) := by
  rw [prun_app, h]
  rfl
theorem prun_none {as bs : List Str} {L : List (List PyData)} (h : prun as L = none) : prun (as ++ bs) L = none := by
  rw [prun_app, h]
  rfl
theorem rep_len {x y z : Str} : (Txt.replace x y z).length ≤ x.length + (x.length + 1) * z.length := TK.replace_len x y z
theorem ok_nested_from (T : Defs K mg) (TT : Tabs T base) : FnOk P w K mg base CX0 3 T.f_nested_from T.fd_nested_from ["text"] (sp_nested_from K) := by
  have G_shaped : FnOk P w K mg base CX0 1 T.f_shaped T.fd_shaped ["parts"] (sp_shaped K) := ok_shaped T TT
  have G_word_from : FnOk P w K mg base CX0 2 T.f_word_from T.fd_word_from ["text"] (sp_word_from K) := ok_word_from T TT
  refine okT T.F_nested_from sc_nested_from (by decide +kernel) (by decide) (fun vs H Q E h => ?_) (fun cdv A outer s H vs Q E hr h => ?_)
  · obtain ⟨z, zs, rfl, _⟩ := h
    rfl
  obtain ⟨z, zs, rfl, lz, ez, oz, nz, q1, q0⟩ := h
  have hsl : sizeLine = 16777216 := by decide
  refine ⟨_, psst_cons (pst_set (i := 1) sc_nested_from.nd rfl (.inl rfl) (pet_m1 PySem.F.slot_str_split PySem.F.type_str_split mt_split (CwR.pet_replT (CwR.pet_replC (pv 0)) (by decide +kernel)) pe_str)) (PSsT.of (PSs.nox (pss_cons (ps_set (i := 2) sc_nested_from.nd rfl (.inl rfl) (pe_lst (pa_cons (pe_lst pa_nil) pa_nil)))
    (pss_cons ((ps_for PassesOwn.never rfl (pi_list (pv 1)) (pg_name (i := 3) sc_nested_from.nd rfl (.inl rfl)) (pss_cons (ps_if (pt_cmpR op_eq (pv 3) pe_str (nomark _)) (pss_one (ps_expr (pe_bm PySem.F.plainAttrs_list PySem.F.slot_list_append PySem.F.type_list_append mt_append (pv 2) (pa_cons (pe_lst pa_nil) pa_nil)))) (pss_one (ps_if (PW.pt (pw_and (pt_cmpR op_eq (pv 3) pe_str (nomark _)) (pw_and1 (pt_cmpR op_gt (pe_callB call_len_seq (by rfl) T.m_len bt_len (pa_cons (pv 2) pa_nil)) pe_int (nomark _))))) (pss_cons (ps_set (i := 4) sc_nested_from.nd rfl (.inl rfl) (pe_call G_shaped (hr.mono (by decide)) (by rfl) T.g_shaped T.F_shaped.kp T.b_shaped .nil pass0 (pa_cons (pe_bm0 PySem.F.plainAttrs_list PySem.F.slot_list_pop PySem.F.type_list_pop mt_pop (pv 2)) pa_nil)))
    (pss_one (ps_expr (pe_bm PySem.F.plainAttrs_list PySem.F.slot_list_append PySem.F.type_list_append mt_append (pe_ix ix_list (pv 2) (pe_un un_neg pe_int) (fun _ _ => rfl)) (pa_cons (pv 4) pa_nil))))) (pss_one (ps_expr (pe_bm PySem.F.plainAttrs_list PySem.F.slot_list_append PySem.F.type_list_append mt_append (pe_ix ix_list (pv 2) (pe_un un_neg pe_int) (fun _ _ => rfl)) (pa_cons (pe_call G_word_from (hr.mono (by decide)) (by rfl) T.g_word_from T.F_word_from.kp T.b_word_from .nil pass0 (pa_cons (pv 3) pa_nil)) pa_nil)))))))
    (pss_one (ps_if (pt_cmpR op_gt (pe_callB call_len_seq (by rfl) T.m_len bt_len (pa_cons (pv 2) pa_nil)) (pe_globI (by rfl) T.i_DEEPEST) (nomark _)) (pss_one (ps_ret pe_non)) pss_nil)))))
    (pss_one (ps_ret (pe_ifExp (pt_cmpR op_eq (pe_callB call_len_seq (by rfl) T.m_len bt_len (pa_cons (pv 2) pa_nil)) pe_int (nomark _)) (pe_call G_shaped (hr.mono (by decide)) (by rfl) T.g_shaped T.F_shaped.kp T.b_shaped .nil pass0 (pa_cons (pe_ix ix_list (pv 2) pe_int (fun _ _ => rfl)) pa_nil)) pe_non))))))), ?_⟩
  have r1 := rep_len (x := z) (y := "(") (z := "( ")
  have r2 := rep_len (x := Txt.replace z "(" "( ") (y := ")") (z := " )")
  have l1 : (("( " : Str)).length = 2 := by decide +kernel
  have l2 : ((" )" : Str)).length = 2 := by decide +kernel
  rw [l1] at r1
  rw [l2] at r2
  refine ⟨_, rfl, z, rfl, by rw [l1]; omega, _, rfl, by rw [l2]; omega, ⟨_, rfl⟩, _, _, rfl, rfl, by decide +kernel, by omega, fun W nW => ?_⟩
  rw [ez]
  have sW := same_upd nW (o := .lst (zs.map V.str))
  have hW := upd_same (H := H) (a := W) (o := .lst (zs.map V.str))
  generalize upd H W (.lst (zs.map V.str)) = H0 at sW hW ⊢
  refine ⟨Nat.zero_le _, fun b0 nb0 => ⟨(show 1 ≤ sizeLine by decide), fun LV nLV => ?_⟩⟩
  have bLV : b0 ≠ LV := ne_of_none (upd_same (H := H0) (a := b0) (o := .lst [])) nLV
  have s0 := same_upd nb0 (o := .lst [])
  have nLV0 := s0.free nLV
  have s1 := same_upd nLV (o := .lst [.ref b0])
  have lv0 : Lvs H0 (upd (upd H0 b0 (.lst [])) LV (.lst [.ref b0])) LV [b0] [[]] 0 := ⟨s0.trans s1, nLV0, fun a ha => by rw [List.mem_singleton.mp ha]; exact nb0, upd_same, rfl, by simp, fun z => bLV (List.mem_singleton.mp z).symm, fun j a t ej el => by
    match j, ej, el with
    | 0, ej, el =>
      cases ej
      cases el
      exact ⟨[], s1 _ _ upd_same, .nil⟩, fun t ht => by rw [List.mem_singleton.mp ht]; exact Nat.le_refl 0⟩
  have ok0 : LvOk [[]] := ⟨by decide, fun j t e d hd => by
    match j, e with
    | 0, e => cases e; cases hd⟩
  generalize upd (upd H0 b0 (.lst [])) LV (.lst [.ref b0]) = H1 at lv0 ⊢
  clear s0 s1 nLV
  refine ⟨_, rfl, W, rfl, ⟨_, SqL.mk (lv0.kp _ _ hW)⟩, for_list (xs := zs.map V.str) (fun i σ G => ∃ y3 y4 L as, σ = [some (.str z), some (.ref W), some (.ref LV), y3, y4] ∧ prun (zs.take i) [[]] = some L ∧ LvOk L ∧ Lvs H0 G LV as L i ∧ 1 ≤ L.length) ⟨none, none, [[]], [b0], rfl, rfl, ok0, lv0, Nat.le_refl 1⟩ ?_ ?_ ?_⟩
  · rintro i σ G _ ⟨_, _, _, _, _, _, _, lv, _⟩
    exact SqL.mk (lv.kp _ _ hW)
  · rintro i x σ G hx ⟨y3, y4, L, as, rfl, hp, ok, lv, l1⟩
    rw [List.getElem?_map] at hx
    obtain ⟨w, hw, rfl⟩ := Option.map_eq_some_iff.mp hx
    obtain ⟨ow, lw⟩ := oz w (List.mem_of_getElem? hw)
    have il := (List.getElem?_eq_some_iff.mp hw).1
    have sn := prun_snoc (z := w) hp
    have et : zs.take (i + 1) = zs.take i ++ [w] := by rw [List.take_add_one, hw]; rfl
    rw [← et] at sn
    obtain ⟨t, r, rfl⟩ : ∃ t r, L = t :: r := by
      cases L with
      | nil => exact absurd l1 (by simp)
      | cons t r => exact ⟨t, r, rfl⟩
    obtain ⟨a, ar, rfl⟩ : ∃ a ar, as = a :: ar := by
      have := lv.len
      cases as with
      | nil => exact absurd this (by simp)
      | cons a ar => exact ⟨a, ar, rfl⟩
    have ok8 := ok.le
    have atL : ∀ (x : Addr) (xs : List Addr), atI ((x :: xs).reverse.map V.ref) (-1) = some (.ref x) := fun x xs => by
      rw [List.reverse_cons, List.map_append]
      exact atI_last _ _
    have lenR : ∀ xs : List Addr, (xs.reverse.map V.ref).length = xs.length := fun xs => by rw [List.length_map, List.length_reverse]
    have asl := lv.len
    rw [List.length_cons, List.length_cons] at asl
    rw [List.length_cons] at ok8
    have asl2 : ar.length = r.length := by omega
    clear asl
    obtain ⟨vs, ha, tvs⟩ := lv.at_ 0 a t rfl rfl
    have lvs : vs.length < sizeLine := by
      have := (TgA.getD tvs).1
      have := lv.lt t List.mem_cons_self
      omega
    have tw : Tg (fun b => b = LV ∨ b ∈ a :: ar) G (wordV w) (wordD w) := by
      unfold wordV wordD
      cases numF w with
      | none => exact .str w
      | some n => exact .int n
    obtain ⟨gw, dw⟩ := wordD_ok ow
    refine seq_via (fun σ G2 => ∃ y4' as2, σ = [some (.str z), some (.ref W), some (.ref LV), some (.str w), y4'] ∧ Lvs H0 G2 LV as2 (pstep (t :: r) w) (i + 1) ∧ 1 ≤ (pstep (t :: r) w).length ∧ ((pstep (t :: r) w).length ≤ 8 → LvOk (pstep (t :: r) w))) (fun NN key => ?_) ?_
    · refine ⟨_, rfl, rfl, _, rfl, ?_⟩
      by_cases e1 : w = "("
      · rw [show decide (V.str w = V.str "(") = true from decide_eq_true (congrArg V.str e1)]
        have ep : pstep (t :: r) w = [] :: t :: r := if_pos e1
        refine iteT ⟨_, rfl, .inl ⟨rfl, _, SqL.mk lv.lv⟩, Nat.zero_le _, fun b nb => ⟨LV, _, .ref b, rfl, rfl, (same_upd nb) _ _ lv.lv, by rw [lenR, List.length_cons]; omega, key _ _ ⟨y4, b :: a :: ar, rfl, ?_⟩⟩⟩
        rw [ep]
        exact ⟨lv.push nb, by simp, fun h => ok.push (by rw [List.length_cons] at h; omega)⟩
      · rw [show decide (V.str w = V.str "(") = false from decide_eq_false fun x => e1 (V.str.inj x)]
        refine iteF ⟨_, rfl, rfl, _, rfl, ?_⟩
        have els : pstep (t :: r) w = (t ++ [wordD w]) :: r → ∃ y4' as2, [some (V.str z), some (V.ref W), some (V.ref LV), some (V.str w), y4] = [some (.str z), some (.ref W), some (.ref LV), some (.str w), y4'] ∧ Lvs H0 (upd G a (.lst (vs ++ [wordV w]))) LV as2 (pstep (t :: r) w) (i + 1) ∧ 1 ≤ (pstep (t :: r) w).length ∧ ((pstep (t :: r) w).length ≤ 8 → LvOk (pstep (t :: r) w)) := fun e => by
          rw [e]
          exact ⟨y4, a :: ar, rfl, lv.put (Same.refl G) ha tw, by simp, fun _ => ok.word gw dw⟩
        by_cases e2 : w = ")"
        · rw [show decide (V.str w = V.str ")") = true from decide_eq_true (congrArg V.str e2)]
          refine iteT ⟨_, rfl, LV, _, rfl, .inl (SqL.mk lv.lv), _, _, rfl, rfl, _, rfl, ?_⟩
          rw [lenR]
          refine ite2 (fun e => ?_) (fun e => ?_)
          · have e : (1 : Int) < ((a :: ar).length : Nat) := of_decide_eq_true e
            have e : 1 < ar.length + 1 := by
              rw [List.length_cons] at e
              omega
            obtain ⟨u, r', rfl⟩ : ∃ u r', r = u :: r' := by
              cases r with
              | nil =>
                have : ar.length = 0 := asl2
                omega
              | cons u r' => exact ⟨u, r', rfl⟩
            obtain ⟨a1, ar, rfl⟩ : ∃ a1 ar', ar = a1 :: ar' := by
              cases ar with
              | nil =>
                have e : 1 < 0 + 1 := e
                omega
              | cons a1 ar' => exact ⟨a1, ar', rfl⟩
            have ep : pstep (t :: u :: r') w = (u ++ [shp t]) :: r' := by
              unfold pstep
              dsimp only
              rw [if_neg e1, if_pos e2]
            have ed : ((a :: a1 :: ar).reverse.map V.ref).dropLast = (a1 :: ar).reverse.map V.ref := by
              rw [List.reverse_cons, List.map_append]
              exact List.dropLast_concat
            have el : ((a :: a1 :: ar).reverse.map V.ref)[((a :: a1 :: ar).reverse.map V.ref).length - 1]? = some (.ref a) := by
              rw [lenR, List.reverse_cons, List.map_append, List.getElem?_append_right (by rw [lenR]; simp), lenR]
              simp
            have lp := lv.pop
            have exG : ∀ x, (x = LV ∨ x ∈ a :: a1 :: ar) → (upd G LV (.lst ((a1 :: ar).reverse.map V.ref))) x ≠ none := fun x hx => by
              by_cases c : x = LV
              · rw [c, upd_same]
                exact fun z => by cases z
              · rw [upd_ne c]
                exact lv.ex hx
            have aLV : a ≠ LV := fun z => lv.no (by rw [← z]; exact List.mem_cons_self)
            refine ⟨_, rfl, .inl ⟨rfl, _, SqL.mk lv.lv⟩, LV, _, .ref a, rfl, rfl, lv.lv, el, ?_⟩
            rw [ed]
            have tv2 : TgA (fun b => b = LV ∨ b ∈ a :: a1 :: ar) (upd G LV (.lst ((a1 :: ar).reverse.map V.ref))) vs t := tvs.kp (fun b xs nb e => ⟨(upd_ne fun z => nb (.inl z)).trans e, nb⟩) (fun b xs nb e => ⟨(upd_ne fun z => nb (.inl z)).trans e, nb⟩)
            refine ⟨a, _, vs, t, rfl, (upd_ne aLV).trans ha, tv2, exG, fun d hd => ?_, by have := lv.lt t List.mem_cons_self; omega, fun H' v sH tv => ?_⟩
            · have := ok.ok 0 t rfl d hd
              exact ⟨this.1, by omega⟩
            obtain ⟨ws, h1, h2⟩ := lp.at_ 0 a1 u rfl rfl
            have lws : ws.length < sizeLine := by
              have := (TgA.getD h2).1
              have := lp.lt u List.mem_cons_self
              omega
            refine ⟨_, rfl, _, rfl, LV, _, _, _, rfl, rfl, SqL.mk (sH _ _ lp.lv), atL _ _, .inl ⟨rfl, _, SqL.mk (sH _ _ h1)⟩, _, rfl, a1, _, _, rfl, rfl, sH _ _ h1, lws, key _ _ ⟨_, a1 :: ar, rfl, ?_⟩⟩
            rw [ep]
            exact ⟨lp.put sH (sH _ _ h1) (tv.kp (fun b xs nb e => ⟨e, fun z => nb (z.imp id fun z => List.mem_cons_of_mem _ z)⟩) (fun b xs nb e => ⟨e, fun z => nb (z.imp id fun z => List.mem_cons_of_mem _ z)⟩)), by simp, fun _ => ok.pop⟩
          · have r0 : r = [] := by
              cases r with
              | nil => rfl
              | cons u r' =>
                refine absurd (decide_eq_true (show (1 : Int) < ((a :: ar).length : Nat) from ?_)) e
                rw [List.length_cons] at asl2 ⊢
                omega
            have ep : pstep (t :: r) w = (t ++ [wordD w]) :: r := by
              rw [r0]
              unfold pstep
              dsimp only
              rw [if_neg e1, if_pos e2]
            exact ⟨_, rfl, _, rfl, LV, _, _, _, rfl, rfl, SqL.mk lv.lv, atL _ _, .inl ⟨rfl, _, SqL.mk ha⟩, _, rfl, w, rfl, lw, a, _, _, rfl, rfl, ha, lvs, key _ _ (els ep)⟩
        · rw [show decide (V.str w = V.str ")") = false from decide_eq_false fun x => e2 (V.str.inj x)]
          refine iteF ?_
          exact ⟨_, rfl, _, rfl, LV, _, _, _, rfl, rfl, SqL.mk lv.lv, atL _ _, .inl ⟨rfl, _, SqL.mk ha⟩, _, rfl, w, rfl, lw, a, _, _, rfl, rfl, ha, lvs, key _ _ (els (pstep_plain ⟨e1, e2⟩))⟩
    rintro σ G2 ⟨y4', as2, rfl, lv2, l2', ok2⟩
    have al2 := lv2.len
    refine ⟨_, rfl, LV, _, rfl, .inl (SqL.mk lv2.lv), _, _, rfl, rfl, _, rfl, ?_⟩
    rw [lenR, al2]
    refine ite2 (fun e => ?_) (fun e => ?_)
    · have e : (8 : Int) < ((pstep (t :: r) w).length : Nat) := of_decide_eq_true e
      have e : 8 < (pstep (t :: r) w).length := by omega
      rw [if_pos e] at sn
      refine q0 G2 (sW.trans lv2.kp) ?_
      have := prun_none (bs := zs.drop (i + 1)) sn
      rw [List.take_append_drop] at this
      unfold pres
      rw [this]
    · have e : ¬ 8 < (pstep (t :: r) w).length := fun z => e (decide_eq_true (by
        show (8 : Int) < ((pstep (t :: r) w).length : Nat)
        omega))
      rw [if_neg e] at sn
      exact ⟨_, _, _, as2, rfl, sn, ok2 (by omega), lv2, l2'⟩
  rintro σ G ⟨y3, y4, L, as, rfl, hp, ok, lv, l1⟩
  rw [List.length_map, List.take_length] at hp
  have lenR : ∀ xs : List Addr, (xs.reverse.map V.ref).length = xs.length := fun xs => by rw [List.length_map, List.length_reverse]
  have asl := lv.len
  refine ⟨_, rfl, LV, _, rfl, .inl (SqL.mk lv.lv), rfl, _, rfl, ?_⟩
  rw [lenR, asl]
  cases L with
  | nil => exact absurd l1 (by simp)
  | cons t r =>
    cases r with
    | nil =>
      obtain ⟨a, rfl⟩ : ∃ a, as = [a] := by
        match as, asl with
        | [a], _ => exact ⟨a, rfl⟩
      obtain ⟨vs, ha, tvs⟩ := lv.at_ 0 a t rfl rfl
      have ep : pres zs = some (shp t) := by
        unfold pres
        rw [hp]
      have h0 : ∀ d, d ∈ t → gd 21 d = true ∧ d.depth ≤ 14 := fun d hd => by
        have := ok.ok 0 t rfl d hd
        have e1 : [t].length = 1 := rfl
        rw [e1] at this
        exact ⟨this.1, by omega⟩
      obtain ⟨g1, g2⟩ := shp_ok h0
      rw [show decide (V.int (([t].length : Nat) : Int) = V.int 1) = true from decide_eq_true rfl]
      refine iteT ⟨_, rfl, LV, _, _, _, rfl, rfl, SqL.mk lv.lv, atI_nat (j := 0) rfl, a, _, vs, t, rfl, ha, tvs, fun x hx => lv.ex hx, fun d hd => ⟨(h0 d hd).1, by have := (h0 d hd).2; omega⟩, by have := lv.lt t List.mem_cons_self; rw [List.length_map] at this; omega, fun H' v sH tv => q1 H' v _ (sW.trans (lv.kp.trans sH)) ep (tv.kp (fun b xs nb e => ⟨e, id⟩) (fun b xs nb e => ⟨e, id⟩)) g1 g2⟩
    | cons u r =>
      have ep : pres zs = none := by
        unfold pres
        rw [hp]
      rw [show decide (V.int (((t :: u :: r).length : Nat) : Int) = V.int 1) = false from decide_eq_false fun z => by
        have := V.int.inj z
        rw [List.length_cons, List.length_cons] at this
        omega]
      exact iteF (q0 G (sW.trans lv.kp) ep)
/-! formulas as nested texts -/
theorem fm_well : ∀ {f : Fm}, (∀ i, i ∈ f.ins → i < 6) → well f.data = true ∧ siz f.data = f.sz ∧ dpt f.data = f.dep
  | .inp i, h => by
    have := h i List.mem_cons_self
    refine ⟨?_, ?_, ?_⟩
    · simp only [Fm.data, well, wellT, wordOf, if_true, okArg]
      exact decide_eq_true (by omega)
    · simp only [Fm.data, siz, sizT, wordOf, if_true, Fm.sz]
    · simp only [Fm.data, dpt, dptT, wordOf, if_true, Fm.dep]
  | .less f, h => by
    obtain ⟨a, b, c⟩ := fm_well (f := f) h
    have n : ¬ ("less" : Str) = "in" := by decide +kernel
    refine ⟨?_, ?_, ?_⟩
    · simp only [Fm.data, well, wellT, wordOf, if_neg n, wellA, a, Bool.and_true]
      exact decide_eq_true (show sideN "less" = some 1 by decide +kernel)
    · simp only [Fm.data, siz, sizT, wordOf, if_neg n, sizA, b, Fm.sz]
      omega
    · simp only [Fm.data, dpt, dptT, wordOf, if_neg n, dptA, c, Fm.dep]
      omega
  | .both f g, h => by
    obtain ⟨a, b, c⟩ := fm_well (f := f) fun i hi => h i (List.mem_append_left _ hi)
    obtain ⟨a2, b2, c2⟩ := fm_well (f := g) fun i hi => h i (List.mem_append_right _ hi)
    have n : ¬ ("both" : Str) = "in" := by decide +kernel
    refine ⟨?_, ?_, ?_⟩
    · simp only [Fm.data, well, wellT, wordOf, if_neg n, wellA, a, a2, Bool.and_true]
      exact decide_eq_true (show sideN "both" = some 2 by decide +kernel)
    · simp only [Fm.data, siz, sizT, wordOf, if_neg n, sizA, b, b2, Fm.sz]
      omega
    · simp only [Fm.data, dpt, dptT, wordOf, if_neg n, dptA, c, c2, Fm.dep]
      omega
  | .either f g, h => by
    obtain ⟨a, b, c⟩ := fm_well (f := f) fun i hi => h i (List.mem_append_left _ hi)
    obtain ⟨a2, b2, c2⟩ := fm_well (f := g) fun i hi => h i (List.mem_append_right _ hi)
    have n : ¬ ("either" : Str) = "in" := by decide +kernel
    refine ⟨?_, ?_, ?_⟩
    · simp only [Fm.data, well, wellT, wordOf, if_neg n, wellA, a, a2, Bool.and_true]
      exact decide_eq_true (show sideN "either" = some 2 by decide +kernel)
    · simp only [Fm.data, siz, sizT, wordOf, if_neg n, sizA, b, b2, Fm.sz]
      omega
    · simp only [Fm.data, dpt, dptT, wordOf, if_neg n, dptA, c, c2, Fm.dep]
      omega
  | .oneof f g, h => by
    obtain ⟨a, b, c⟩ := fm_well (f := f) fun i hi => h i (List.mem_append_left _ hi)
    obtain ⟨a2, b2, c2⟩ := fm_well (f := g) fun i hi => h i (List.mem_append_right _ hi)
    have n : ¬ ("oneof" : Str) = "in" := by decide +kernel
    refine ⟨?_, ?_, ?_⟩
    · simp only [Fm.data, well, wellT, wordOf, if_neg n, wellA, a, a2, Bool.and_true]
      exact decide_eq_true (show sideN "oneof" = some 2 by decide +kernel)
    · simp only [Fm.data, siz, sizT, wordOf, if_neg n, sizA, b, b2, Fm.sz]
      omega
    · simp only [Fm.data, dpt, dptT, wordOf, if_neg n, dptA, c, c2, Fm.dep]
      omega
  | .pick f g k, h => by
    obtain ⟨a, b, c⟩ := fm_well (f := f) fun i hi => h i (List.mem_append_left _ hi)
    obtain ⟨a2, b2, c2⟩ := fm_well (f := g) fun i hi => h i (List.mem_append_right _ (List.mem_append_left _ hi))
    obtain ⟨a3, b3, c3⟩ := fm_well (f := k) fun i hi => h i (List.mem_append_right _ (List.mem_append_right _ hi))
    have n : ¬ ("pick" : Str) = "in" := by decide +kernel
    refine ⟨?_, ?_, ?_⟩
    · simp only [Fm.data, well, wellT, wordOf, if_neg n, wellA, a, a2, a3, Bool.and_true]
      exact decide_eq_true (show sideN "pick" = some 3 by decide +kernel)
    · simp only [Fm.data, siz, sizT, wordOf, if_neg n, sizA, b, b2, b3, Fm.sz]
      omega
    · simp only [Fm.data, dpt, dptT, wordOf, if_neg n, dptA, c, c2, c3, Fm.dep]
      omega
theorem fm_isF {f : Fm} (h : ∀ i, i ∈ f.ins → i < 6) (d : f.dep ≤ 8) (s : f.sz ≤ 24) : isF f.data = true := by
  obtain ⟨a, b, c⟩ := fm_well h
  unfold isF
  rw [a, b, c, decide_eq_true (by omega), decide_eq_true (by omega)]
  rfl


def Fm.nt : Fm → Nt
  | .inp i => .node "in" [.num i]
  | .less f => .node "less" [f.nt]
  | .both f g => .node "both" [f.nt, g.nt]
  | .either f g => .node "either" [f.nt, g.nt]
  | .oneof f g => .node "oneof" [f.nt, g.nt]
  | .pick f g h => .node "pick" [f.nt, g.nt, h.nt]
theorem wdOk_of {w : Str} (h : w ≠ "") (g : ((TL.tl w).all fun c => decide (97 ≤ c) && decide (c ≤ 122)) = true) : WdOk w := ⟨h, fun c hc => by
  have := List.all_eq_true.mp g c hc
  rw [Bool.and_eq_true, decide_eq_true_eq, decide_eq_true_eq] at this
  exact this⟩
theorem wo_in : WdOk "in" := wdOk_of (by decide +kernel) (by decide +kernel)
theorem wo_less : WdOk "less" := wdOk_of (by decide +kernel) (by decide +kernel)
theorem wo_both : WdOk "both" := wdOk_of (by decide +kernel) (by decide +kernel)
theorem wo_either : WdOk "either" := wdOk_of (by decide +kernel) (by decide +kernel)
theorem wo_oneof : WdOk "oneof" := wdOk_of (by decide +kernel) (by decide +kernel)
theorem wo_pick : WdOk "pick" := wdOk_of (by decide +kernel) (by decide +kernel)
theorem node_data {w : Str} {ts : List Nt} (h : w ≠ "table") : (Nt.node w ts).data = .tuple (.str w :: Nt.datas ts) := by
  show (if w = "table" then _ else _) = _
  rw [if_neg h]
theorem fnt_data : ∀ f : Fm, f.nt.data = f.data
  | .inp i => node_data (by decide +kernel)
  | .less f => by
    show (Nt.node "less" [f.nt]).data = _
    rw [node_data (by decide +kernel)]
    show PyData.tuple [.str "less", f.nt.data] = _
    rw [fnt_data f]
    rfl
  | .both f g => by
    show (Nt.node "both" [f.nt, g.nt]).data = _
    rw [node_data (by decide +kernel)]
    show PyData.tuple [.str "both", f.nt.data, g.nt.data] = _
    rw [fnt_data f, fnt_data g]
    rfl
  | .either f g => by
    show (Nt.node "either" [f.nt, g.nt]).data = _
    rw [node_data (by decide +kernel)]
    show PyData.tuple [.str "either", f.nt.data, g.nt.data] = _
    rw [fnt_data f, fnt_data g]
    rfl
  | .oneof f g => by
    show (Nt.node "oneof" [f.nt, g.nt]).data = _
    rw [node_data (by decide +kernel)]
    show PyData.tuple [.str "oneof", f.nt.data, g.nt.data] = _
    rw [fnt_data f, fnt_data g]
    rfl
  | .pick f g h => by
    show (Nt.node "pick" [f.nt, g.nt, h.nt]).data = _
    rw [node_data (by decide +kernel)]
    show PyData.tuple [.str "pick", f.nt.data, g.nt.data, h.nt.data] = _
    rw [fnt_data f, fnt_data g, fnt_data h]
    rfl
theorem fnt_dep : ∀ f : Fm, f.nt.dep = f.dep
  | .inp i => by
    simp only [Fm.nt, Nt.dep, Nt.deps, Fm.dep]
    omega
  | .less f => by
    have := fnt_dep f
    simp only [Fm.nt, Nt.dep, Nt.deps, Fm.dep]
    omega
  | .both f g => by
    have := fnt_dep f
    have := fnt_dep g
    simp only [Fm.nt, Nt.dep, Nt.deps, Fm.dep]
    omega
  | .either f g => by
    have := fnt_dep f
    have := fnt_dep g
    simp only [Fm.nt, Nt.dep, Nt.deps, Fm.dep]
    omega
  | .oneof f g => by
    have := fnt_dep f
    have := fnt_dep g
    simp only [Fm.nt, Nt.dep, Nt.deps, Fm.dep]
    omega
  | .pick f g h => by
    have := fnt_dep f
    have := fnt_dep g
    have := fnt_dep h
    simp only [Fm.nt, Nt.dep, Nt.deps, Fm.dep]
    omega
theorem len_in : ("in" : Str).length ≤ 6 ∧ ("less" : Str).length ≤ 6 ∧ ("both" : Str).length ≤ 6 ∧ ("either" : Str).length ≤ 6 ∧ ("oneof" : Str).length ≤ 6 ∧ ("pick" : Str).length ≤ 6 := by decide +kernel
theorem fnt_wt : ∀ f : Fm, f.nt.wt + 1 ≤ 20 * f.sz
  | .inp i => by
    have := len_in
    simp only [Fm.nt, Nt.wt, Nt.wts, Fm.sz]
    omega
  | .less f => by
    have := fnt_wt f
    have := len_in
    simp only [Fm.nt, Nt.wt, Nt.wts, Fm.sz]
    omega
  | .both f g => by
    have := fnt_wt f
    have := fnt_wt g
    have := len_in
    simp only [Fm.nt, Nt.wt, Nt.wts, Fm.sz]
    omega
  | .either f g => by
    have := fnt_wt f
    have := fnt_wt g
    have := len_in
    simp only [Fm.nt, Nt.wt, Nt.wts, Fm.sz]
    omega
  | .oneof f g => by
    have := fnt_wt f
    have := fnt_wt g
    have := len_in
    simp only [Fm.nt, Nt.wt, Nt.wts, Fm.sz]
    omega
  | .pick f g h => by
    have := fnt_wt f
    have := fnt_wt g
    have := fnt_wt h
    have := len_in
    simp only [Fm.nt, Nt.wt, Nt.wts, Fm.sz]
    omega
theorem fnt_ok : ∀ f : Fm, (∀ i, i ∈ f.ins → i < 6) → f.nt.Ok
  | .inp i, h => by
    have := h i List.mem_cons_self
    simp only [Fm.nt, Nt.Ok, Nt.Oks]
    exact ⟨wo_in, by omega, trivial⟩
  | .less f, h => by
    simp only [Fm.nt, Nt.Ok, Nt.Oks]
    exact ⟨wo_less, fnt_ok f h, trivial⟩
  | .both f g, h => by
    simp only [Fm.nt, Nt.Ok, Nt.Oks]
    exact ⟨wo_both, fnt_ok f fun i hi => h i (List.mem_append_left _ hi), fnt_ok g fun i hi => h i (List.mem_append_right _ hi), trivial⟩
  | .either f g, h => by
    simp only [Fm.nt, Nt.Ok, Nt.Oks]
    exact ⟨wo_either, fnt_ok f fun i hi => h i (List.mem_append_left _ hi), fnt_ok g fun i hi => h i (List.mem_append_right _ hi), trivial⟩
  | .oneof f g, h => by
    simp only [Fm.nt, Nt.Ok, Nt.Oks]
    exact ⟨wo_oneof, fnt_ok f fun i hi => h i (List.mem_append_left _ hi), fnt_ok g fun i hi => h i (List.mem_append_right _ hi), trivial⟩
  | .pick f g k, h => by
    simp only [Fm.nt, Nt.Ok, Nt.Oks]
    exact ⟨wo_pick, fnt_ok f fun i hi => h i (List.mem_append_left _ hi), fnt_ok g fun i hi => h i (List.mem_append_right _ (List.mem_append_left _ hi)), fnt_ok k fun i hi => h i (List.mem_append_right _ (List.mem_append_right _ hi)), trivial⟩
def Nt.wd : Nt → Str
  | .node w _ => w
  | _ => ""
def Nt.sub : Nt → List Nt
  | .node _ ts => ts
  | _ => []
theorem fnt_node (f : Fm) : f.nt = .node f.nt.wd f.nt.sub := by cases f <;> rfl
/-- what is written of it -/
def Fm.txt (f : Fm) : Str := ntx f.nt.wd f.nt.sub
mutual
/-- tables hold numbers only -/
def Nt.Tb : Nt → Prop
  | .num _ => True
  | .node w ts => (w = "table" → ∀ t, t ∈ ts → ∃ n, t = .num n) ∧ Nt.Tbs ts
def Nt.Tbs : List Nt → Prop
  | [] => True
  | t :: ts => t.Tb ∧ Nt.Tbs ts
end
theorem tbs_mem : ∀ {ts : List Nt} {t : Nt}, Nt.Tbs ts → t ∈ ts → t.Tb
  | [], _, _, h => by cases h
  | x :: ts, t, h, hm => by
    have ok : x.Tb ∧ Nt.Tbs ts := by simpa only [Nt.Tbs] using h
    rcases List.mem_cons.mp hm with rfl | hm
    · exact ok.1
    · exact tbs_mem ok.2 hm
theorem fnt_tb : ∀ f : Fm, f.nt.Tb
  | .inp i => by
    simp only [Fm.nt, Nt.Tb, Nt.Tbs]
    exact ⟨fun z => absurd z (by decide +kernel), trivial, trivial⟩
  | .less f => by
    simp only [Fm.nt, Nt.Tb, Nt.Tbs]
    exact ⟨fun z => absurd z (by decide +kernel), fnt_tb f, trivial⟩
  | .both f g => by
    simp only [Fm.nt, Nt.Tb, Nt.Tbs]
    exact ⟨fun z => absurd z (by decide +kernel), fnt_tb f, fnt_tb g, trivial⟩
  | .either f g => by
    simp only [Fm.nt, Nt.Tb, Nt.Tbs]
    exact ⟨fun z => absurd z (by decide +kernel), fnt_tb f, fnt_tb g, trivial⟩
  | .oneof f g => by
    simp only [Fm.nt, Nt.Tb, Nt.Tbs]
    exact ⟨fun z => absurd z (by decide +kernel), fnt_tb f, fnt_tb g, trivial⟩
  | .pick f g h => by
    simp only [Fm.nt, Nt.Tb, Nt.Tbs]
    exact ⟨fun z => absurd z (by decide +kernel), fnt_tb f, fnt_tb g, fnt_tb h, trivial⟩
/-! the words are short and plain -/
theorem strOk_of {x : Str} (h : ∀ c, c ∈ TL.tl x → c < 200) : PyData.strOk x = true := by
  unfold PyData.strOk
  rw [Array.all_eq_true_iff_forall_mem]
  intro c hc
  have := h c (Array.mem_toList_iff.mpr hc)
  exact decide_eq_true (by omega)
mutual
theorem ptk_ok : ∀ {t : Nt}, t.Ok → (∀ x, x ∈ t.ptk → PyData.strOk x = true ∧ x.length ≤ t.wt) ∧ t.ptk.length ≤ t.wt
  | .num n, h => by
    have h : n < 1000 := by simpa only [Nt.Ok] using h
    have l := digs_len h
    refine ⟨fun x hx => ?_, by show 1 ≤ 4; decide⟩
    have hx : x ∈ [digs n] := hx
    rw [List.mem_singleton.mp hx]
    refine ⟨strOk_of fun c hc => ?_, by show _ ≤ 4; omega⟩
    rw [digs_tl] at hc
    have := TL.numL_digits n c hc
    omega
  | .node w ts, h => by
    have ok : WdOk w ∧ Nt.Oks ts := by simpa only [Nt.Ok] using h
    obtain ⟨a, b⟩ := ptks_ok ok.2
    have ew : (Nt.node w ts).wt = w.length + 4 + Nt.wts ts := rfl
    have ep : (Nt.node w ts).ptk = ("(" : Str) :: w :: (Nt.ptks ts ++ [(")" : Str)]) := rfl
    have l1 : (("(" : Str)).length = 1 := by decide +kernel
    have l2 : ((")" : Str)).length = 1 := by decide +kernel
    refine ⟨fun x hx => ?_, ?_⟩
    · rw [ep] at hx
      rw [ew]
      rcases List.mem_cons.mp hx with rfl | hx
      · exact ⟨by decide +kernel, by rw [l1]; omega⟩
      rcases List.mem_cons.mp hx with rfl | hx
      · exact ⟨strOk_of fun c hc => by have := ok.1.2 c hc; omega, by omega⟩
      rcases List.mem_append.mp hx with hx | hx
      · have := a x hx
        exact ⟨this.1, by omega⟩
      · rw [List.mem_singleton.mp hx]
        exact ⟨by decide +kernel, by rw [l2]; omega⟩
    · rw [ep, ew, List.length_cons, List.length_cons, List.length_append, List.length_singleton]
      omega
theorem ptks_ok : ∀ {ts : List Nt}, Nt.Oks ts → (∀ x, x ∈ Nt.ptks ts → PyData.strOk x = true ∧ x.length ≤ Nt.wts ts) ∧ (Nt.ptks ts).length ≤ Nt.wts ts
  | [], _ => ⟨fun x hx => (by cases hx), Nat.le_refl 0⟩
  | t :: ts, h => by
    have ok : t.Ok ∧ Nt.Oks ts := by simpa only [Nt.Oks] using h
    obtain ⟨a1, b1⟩ := ptk_ok ok.1
    obtain ⟨a2, b2⟩ := ptks_ok ok.2
    have ew : Nt.wts (t :: ts) = t.wt + 1 + Nt.wts ts := rfl
    have ep : Nt.ptks (t :: ts) = t.ptk ++ Nt.ptks ts := rfl
    refine ⟨fun x hx => ?_, by rw [ep, ew, List.length_append]; omega⟩
    rw [ep] at hx
    rw [ew]
    rcases List.mem_append.mp hx with hx | hx
    · have := a1 x hx
      exact ⟨this.1, by omega⟩
    · have := a2 x hx
      exact ⟨this.1, by omega⟩
end
theorem join_snoc {xs : List Str} {y : Str} (h : xs ≠ []) : Txt.join " " (xs ++ [y]) = Txt.join " " xs ++ " " ++ y := by
  refine TL.ext_tl ?_
  rw [TL.tl_append, TL.tl_append, tl_join32, tl_join32, List.map_append, join_app (fun z => h (List.map_eq_nil_iff.mp z)) (by simp), List.append_assoc]
  rfl
theorem sum_take (f : Str → Nat) : ∀ (l : List Str) (i : Nat), ((l.take i).map f).sum ≤ (l.map f).sum
  | [], _ => by rw [List.take_nil]; exact Nat.le_refl _
  | x :: l, 0 => Nat.zero_le _
  | x :: l, i + 1 => by
    have := sum_take f l i
    rw [List.take_succ_cons, List.map_cons, List.map_cons, List.sum_cons, List.sum_cons]
    omega
theorem acc_len {w : Str} {ts : List Nt} (h : Nt.Oks ts) (i : Nat) : (Txt.join " " (w :: (Nt.ptxs ts).take i)).length ≤ w.length + 1 + Nt.wts ts := by
  have a := ptxs_len h
  have b := join_len (w :: (Nt.ptxs ts).take i)
  have c := sum_take (·.length) (Nt.ptxs ts) i
  rw [List.map_cons, List.sum_cons, List.length_cons, List.length_take] at b
  omega
theorem joinL_nil : ∀ xs : List (List Nat), TL.joinL [] xs = xs.flatten
  | [] => rfl
  | [p] => by rw [List.flatten_cons, List.flatten_nil, List.append_nil]; rfl
  | p :: q :: r => by
    show p ++ ([] ++ TL.joinL [] (q :: r)) = p ++ (q :: r).flatten
    rw [List.nil_append, joinL_nil (q :: r)]
theorem joinL_32 (p : List Nat) : ∀ xs : List (List Nat), TL.joinL [32] (p :: xs) = p ++ (xs.map fun x => 32 :: x).flatten
  | [] => by simp [TL.joinL]
  | q :: r => by
    show p ++ ([32] ++ TL.joinL [32] (q :: r)) = _
    rw [joinL_32 q r, List.map_cons, List.flatten_cons]
    rfl
theorem tbl_txt (w : Str) (ts : List Nt) : w ++ Txt.join "" (ts.map fun t => (" " : Str) ++ t.ptx) = ntx w ts := by
  refine TL.ext_tl ?_
  unfold ntx
  rw [TL.tl_append, tl_join32, List.map_cons, joinL_32, TL.join_eq, TL.tl_join, ptxs_map]
  show _ ++ TL.joinL [] _ = _
  rw [joinL_nil, List.map_map, List.map_map, List.map_map]
  congr 2
  refine List.map_inj_left.mpr fun t _ => ?_
  show TL.tl ((" " : Str) ++ t.ptx) = 32 :: TL.tl t.ptx
  rw [TL.tl_append]
  rfl
theorem tbl_sum : ∀ {ts : List Nt}, Nt.Oks ts → ((ts.map fun t => (" " : Str) ++ t.ptx).map (·.length)).sum ≤ Nt.wts ts
  | [], _ => Nat.le_refl 0
  | t :: ts, h => by
    have ok : t.Ok ∧ Nt.Oks ts := by simpa only [Nt.Oks] using h
    have a := ptx_len ok.1
    have b := tbl_sum ok.2
    have e : ((" " : Str) ++ t.ptx).length = 1 + t.ptx.length := by
      rw [TL.len_tl, TL.tl_append, List.length_append, ← TL.len_tl t.ptx]
      rfl
    rw [List.map_cons, List.map_cons, List.sum_cons, e]
    show _ ≤ t.wt + 1 + Nt.wts ts
    omega
def sp_formula_from (_ : PySem.W.Frag) : Sp := fun vs H Q _ => ∃ f : Fm, vs = [.str f.txt] ∧ (∀ i, i ∈ f.ins → i < 6) ∧ f.dep ≤ 8 ∧ f.sz ≤ 24 ∧ ∀ H' v, Same H H' → Tg (fun _ => False) H' v f.data → Q v H'
theorem ok_formula_from (T : Defs K mg) (TT : Tabs T base) : FnOk P w K mg base CX0 5 T.f_formula_from T.fd_formula_from ["text"] (sp_formula_from K) := by
  have G_nested_from : FnOk P w K mg base CX0 3 T.f_nested_from T.fd_nested_from ["text"] (sp_nested_from K) := ok_nested_from T TT
  have G_is_formula : FnOk P w K mg base CX0 4 T.f_is_formula T.fd_is_formula ["thing"] (sp_is_formula K) := ok_is_formula T TT
  refine T.F_formula_from.ok sc_formula_from (fun vs H Q E h => ?_) (fun cdv A outer s H vs Q E hr h => ?_)
  · obtain ⟨f, rfl, hi, dp, sz, q⟩ := h
    rfl
  · obtain ⟨f, rfl, hi, dp, sz, q⟩ := h
    refine ⟨_, PSs.nox (pss_cons (ps_set (i := 1) sc_formula_from.nd rfl (.inl rfl) (pe_call G_nested_from (hr.mono (by decide)) (by rfl) T.g_nested_from T.F_nested_from.kp T.b_nested_from .nil pass0 (pa_cons (pv 0) pa_nil)))
    (pss_cons (ps_if (pt_not (pt_val (pe_call G_is_formula (hr.mono (by decide)) (by rfl) T.g_is_formula T.F_is_formula.kp T.b_is_formula .nil pass0 (pa_cons (pv 1) pa_nil)))) (pss_one ps_never) pss_nil)
    (pss_one (ps_ret (pv 1))))), ?_⟩
    have ok := fnt_ok f hi
    have wt := fnt_wt f
    have ds := fnt_dep f
    have en := fnt_node f
    have ed := fnt_data f
    have ei := fm_isF hi dp sz
    unfold Fm.txt
    generalize f.nt = t at ok wt ds en ed ⊢
    generalize t.wd = w, t.sub = ts at en ⊢
    subst en
    have ok2 : WdOk w ∧ Nt.Oks ts := by simpa only [Nt.Ok] using ok
    have ew : (Nt.node w ts).wt = w.length + 4 + Nt.wts ts := rfl
    have ln := ntx_len ok
    obtain ⟨a, b⟩ := ptks_ok ok2.2
    have ep := pres_node ok (by omega)
    refine ⟨_, rfl, ntx w ts, _, rfl, by omega, words_of ok, fun x hx => ?_, by rw [List.length_cons]; omega, fun H1 v d s1 e tg _ _ => ?_, fun H1 _ e => by rw [ep] at e; cases e⟩
    · rcases List.mem_cons.mp hx with rfl | hx
      · exact ⟨strOk_of fun c hc => by have := ok2.1.2 c hc; omega, by omega⟩
      · have := a x hx
        exact ⟨this.1, by omega⟩
    rw [ep] at e
    cases e
    rw [ed] at tg
    refine ⟨_, rfl, _, v, f.data, rfl, tg, fun H2 s2 => ?_⟩
    rw [ei]
    exact ⟨_, rfl, iteF ⟨_, rfl, q H2 v (s1.trans s2) (tg.same s2)⟩⟩
/-! the state ahead of the law's call, with the tables of code objects -/
def ahT (K : PySem.W.Frag) (a : Addr) (ts : List Addr) (o : Obj) (xs : List V) : Hp := fun b => if b = a then (if (K.lookup a).isSome = true then none else some (.frz o (.lst xs))) else if b ∈ ts then some (.tbl #[]) else none
theorem ahT_tab {K : PySem.W.Frag} {a : Addr} {ts : List Addr} {o : Obj} {xs : List V} (na : ¬ a ∈ ts) {b : Addr} (hb : b ∈ ts) : ahT K a ts o xs b = some (.tbl #[]) := by
  unfold ahT
  rw [if_neg (fun z : b = a => na (z ▸ hb)), if_pos hb]
theorem ahT_any {K : PySem.W.Frag} {a : Addr} {ts : List Addr} {o : Obj} {xs : List V} {b : Addr} {u : HO} (h : ahT K a ts o xs b = some u) : (b = a ∧ K.lookup a = none ∧ u = .frz o (.lst xs)) ∨ (b ∈ ts ∧ u = .tbl #[]) := by
  unfold ahT at h
  by_cases e : b = a
  · rw [if_pos e] at h
    cases k : K.lookup a with
    | none =>
      rw [k, if_neg (fun z => by cases z)] at h
      exact .inl ⟨e, rfl, (Option.some.inj h).symm⟩
    | some y =>
      rw [k] at h
      simp at h
  · rw [if_neg e] at h
    by_cases z : b ∈ ts
    · rw [if_pos z] at h
      exact .inr ⟨z, (Option.some.inj h).symm⟩
    · rw [if_neg z] at h
      cases h
/-- a code object, its table, and where they stand -/
structure TbAt (K : PySem.W.Frag) (h : Heap) (q : Addr × Addr) : Prop where
  ob : h.get? q.2 = some { cls := .none, data := .fields #[] }
  nk : K.lookup q.2 = none
  hd : PySem.W.CodeHd h q.1 q.2
theorem env_aheadT {P : Program} {w : World} {K : PySem.W.Frag} {mg mb : Str → Option Value} {a : Addr} {cs : List (Addr × Addr)} {s : Shared} {vs : List Value} {ns : List Int} (KX : K.In s.heap) (gl : s.heap.Ns mainGlobals mg) (bl : s.heap.Ns builtinsNs mb)
    (bb : ∀ x : Str, x ≠ "__name__" → mb x = bootBuiltins x) (nl : s.heap.NoLimit) (hg : s.gens = #[]) (tb : ∀ q, q ∈ cs → TbAt K s.heap q)
    (bm : ∃ (m : Addr) (om : Obj), mg "__builtins__" = some (.ref m) ∧ m ≠ builtinsNs ∧ s.heap.get? m = some om ∧ om.cls = .type "module" ∧ om.dict = some builtinsNs ∧ om.data = .plain)
    (ha : s.heap.get? a = some { cls := .type "list", data := .seq vs.toArray }) (hi : IntsAre vs ns) (hl : ns.length ≤ sizeLine) :
    ∃ H : Hp, (∀ q, q ∈ cs → H q.2 = some (.tbl #[])) ∧ (∀ b u, H b = some u → (∃ o xs, u = .frz o (.lst xs)) ∨ b ∈ cs.map Prod.snd) ∧ SqL K H a (ns.map V.int) ∧ HOk P w H s.heap ∧ K.In (hidT s.heap H) ∧ (hidT s.heap H).Ns mainGlobals mg ∧ (∀ q, q ∈ cs → GxR.TabB (hidT s.heap H) mg q.1 q.2) ∧ Env0 P w K mg (hidT s.heap H) callerA [] s H := by
  have tin : ∀ b, b ∈ cs.map Prod.snd → ∃ q, q ∈ cs ∧ q.2 = b := fun b h => List.mem_map.mp h
  have tob : ∀ b, b ∈ cs.map Prod.snd → s.heap.get? b = some { cls := .none, data := .fields #[] } := fun b h => by
    obtain ⟨q, hq, rfl⟩ := tin b h
    exact (tb q hq).ob
  have na : ¬ a ∈ cs.map Prod.snd := fun z => by
    have y := (tob a z).symm.trans ha
    cases y
  obtain ⟨H, eH⟩ : ∃ H : Hp, H = ahT K a (cs.map Prod.snd) { cls := .type "list", data := .seq vs.toArray } (ns.map V.int) := ⟨_, rfl⟩
  have any : ∀ {b u}, H b = some u → (b = a ∧ K.lookup a = none ∧ u = .frz { cls := .type "list", data := .seq vs.toArray } (.lst (ns.map V.int))) ∨ (b ∈ cs.map Prod.snd ∧ u = .tbl #[]) := fun {b u} h => ahT_any (by rw [← eH]; exact h)
  have ta : ∀ q, q ∈ cs → H q.2 = some (.tbl #[]) := fun q hq => by
    rw [eH]
    exact ahT_tab na (List.mem_map.mpr ⟨q, hq, rfl⟩)
  have hS : SqL K H a (ns.map V.int) := by
    cases k : K.lookup a with
    | none =>
      refine .inl (.inr ⟨{ cls := .type "list", data := .seq vs.toArray }, ?_⟩)
      rw [eH]
      unfold ahT
      rw [if_pos rfl, k]
      rfl
    | some o =>
      have e := KX a o k
      rw [ha] at e
      cases e
      exact .inr ⟨_, vs.toArray, _, k, rfl, rfl, rfl, by rw [List.size_toArray, hi.length]; exact hl, by simpa using vals_ints hi⟩
  -- what is neither a sequence nor a table stands untouched
  have free : ∀ {b : Addr} {o : Obj}, s.heap.get? b = some o → (∀ ys n, o.data ≠ .seq ys n) → o.data ≠ .fields #[] → H b = none := fun {b o} e n1 n2 => by
    cases k : H b with
    | none => rfl
    | some u =>
      rcases any k with ⟨rfl, _⟩ | ⟨z, _⟩
      · rw [ha] at e
        cases e
        exact absurd rfl (n1 _ _)
      · rw [tob b z] at e
        cases e
        exact absurd rfl n2
  have nsb : ∀ {b : Addr} {m : Str → Option Value}, s.heap.Ns b m → (hidT s.heap H).Ns b m := fun {b m} h => by
    obtain ⟨o, es, ep, e, d, r⟩ := h
    exact ⟨o, es, ep, hidT_get e (free e (fun ys n z => by rw [d] at z; cases z) (fun z => by rw [d] at z; cases z)), d, r⟩
  have Kb : K.In (hidT s.heap H) := fun b o e => hidT_get (KX b o e) (by
    cases k : H b with
    | none => rfl
    | some u =>
      rcases any k with ⟨rfl, n, _⟩ | ⟨z, _⟩
      · rw [n] at e
        cases e
      · obtain ⟨q, hq, rfl⟩ := tin b z
        rw [(tb q hq).nk] at e
        cases e)
  have hok : HOk P w H s.heap := fun b u z => by
    rcases any z with ⟨rfl, _, rfl⟩ | ⟨y, rfl⟩
    · exact ⟨ha, by rw [List.length_map]; exact hl, vs, _, vals_ints hi, ha⟩
    · exact tob b y
  refine ⟨H, ta, fun b u z => ?_, hS, hok, Kb, nsb gl, fun q hq => ⟨?_, ?_, fun z => ?_⟩, rfl, ⟨Kb, nsb gl, ⟨mb, nsb bl, bb⟩, ?_⟩, fun b o e => of_hidT e, Nat.le_of_eq (hidT_size _ _), trivial, fun b z => (by cases z), hok, .of_eq hg⟩
  · rcases any z with ⟨_, _, rfl⟩ | ⟨y, _⟩
    · exact .inl ⟨_, _, rfl⟩
    · exact .inr y
  · obtain ⟨o, us, fl, tf, gs, tg, iF, tx, tt, e1, r1, r2, r3, rest⟩ := (tb q hq).hd
    refine ⟨o, us, fl, tf, gs, tg, iF, tx, tt, hidT_get e1 (free e1 (fun ys n z => by rw [r2] at z; cases z) (fun z => ?_)), r1, r2, r3, rest⟩
    rw [r2] at z
    cases z
    simp at r3
  · obtain ⟨m, om, b1, b2, b3, b4, b5, b6⟩ := bm
    refine ⟨m, om, b1, b2, fun z => ?_, fun z => ?_, hidT_get b3 (free b3 (fun ys n z => by rw [b6] at z; cases z) (fun z => by rw [b6] at z; cases z)), b4, b5, b6⟩
    · obtain ⟨o, es, ep, e, d, _⟩ := gl
      rw [z, e] at b3
      cases b3
      rw [d] at b6
      cases b6
    · have y := (tb q hq).ob
      rw [← z, b3] at y
      cases y
      cases b6
  · obtain ⟨o, es, ep, e, d, _⟩ := gl
    rw [z, (tb q hq).ob] at e
    cases e
    cases d
  · obtain ⟨mc, h1, h2⟩ := nl
    exact ⟨mc, nsb h1, h2⟩
theorem walk_ofGT {l : PySem.W.OpenLaw} {n k : Nat} {q : Program} {loose : List Str} {XP : (Str → Option Value) → Heap → Prop} {YP : World → Heap → Prop} {d : DefRec} {x : Str}
    (hn : l.most = some n) (hn2 : n ≤ sizeLine) (hdf : d.params.defaults = []) (hr : Room k callerA)
    (F : ∀ (w : World) (mg : Str → Option Value) (fa : Addr) (h : Heap), YP w h → h.Ns mainGlobals mg → mg d.name = some (.ref fa) →
      ∃ (K : PySem.W.Frag) (fd : FuncData) (cs : List (Addr × Addr)) (sp : Sp), K.In h ∧ (∀ q, q ∈ cs → TbAt K h q) ∧ (∀ (s : Shared) (u : Value), BindsTo s fd ⟨[u], []⟩ [(x, u)]) ∧
        (∀ (H : Hp) (a : Addr) (ns : List Int), ns.length ≤ n → (∀ q, q ∈ cs → H q.2 = some (.tbl #[])) → SqL K H a (ns.map V.int) → sp [.ref a] H (fun v _ => v = .bl true) fun _ _ _ => False) ∧
        ∀ base : Heap, K.In base → base.Ns mainGlobals mg → (∀ q, q ∈ cs → GxR.TabB base mg q.1 q.2) → GOk l.prog w K mg base CX0 k fa fd [x] sp) :
    PySem.W.WalkO q loose XP YP l.row.toRowW d [] (fun f vs => PySem.call f vs) := by
  refine Att.attach_call hn hdf fun w s₀ s₁ mg mb fa o pm cd doc a vs ns G Y ho hd hcd hmg hobj hints hlen hg => ?_
  obtain ⟨K, fd, cs, sp, KX, tb, hbd, hsp, hF⟩ := F w mg fa _ Y G.T.g hmg
  obtain ⟨H, ta, hO, hS, hok, Kb, nb, TB, e0⟩ := env_aheadT (P := l.prog) (w := w) KX G.T.g G.T.b G.T.builtins G.T.nolimit hg tb G.T.bmain hobj hints (Nat.le_trans hlen hn2)
  refine codeAny_mono ((hF _ Kb nb TB).run callerA [] s₁ H ⟨[.ref a], []⟩ [.ref a] [.ref a] _ _ rfl hr e0 (hbd s₁ (.ref a)) (.cons rfl .nil) (hsp H a ns hlen ta hS)) fun r s' h => ?_
  match r, h with
  | .ok (.ret u), h =>
    obtain ⟨v, H', os, bare, un, hok', r', q⟩ := h
    have q : v = .bl true := q
    subst q
    obtain rfl : u = Value.bool true := r'
    have grow : ∀ t, t ∈ cs → ∃ more : Array Value, s'.heap.get? t.2 = some { cls := .none, data := .fields more } := fun t ht => by
      obtain ⟨more, z⟩ := un.tbls _ _ (ta t ht)
      exact ⟨_, hok' _ _ z⟩
    have stay : ∀ b o, ¬ b ∈ cs.map Prod.snd → s₁.heap.get? b = some o → s'.heap.get? b = some o := fun b o nb e => by
      cases k : H b with
      | none => exact un.keep b o e k (by intro y; cases y) (by simp)
      | some u =>
        rcases hO b u k with ⟨ob, xs, rfl⟩ | z
        · obtain ⟨e1, _⟩ := hok b _ k
          obtain ⟨e2, _⟩ := hok' b _ (un.frzs b ob _ k)
          rw [e] at e1
          cases e1
          exact e2
        · exact absurd z nb
    refine ⟨rfl, ⟨fun b o e => ?_, fun b o e => ?_⟩, os, bare⟩
    · by_cases z : b ∈ cs.map Prod.snd
      · obtain ⟨t, ht, rfl⟩ := List.mem_map.mp z
        obtain ⟨more, gm⟩ := grow t ht
        have y := (tb t ht).ob
        rw [e] at y
        cases y
        exact .inr (.inl ⟨((tb t ht).hd.tab (tb t ht).ob).isCodeTable, rfl, #[], more, rfl, by rw [Array.empty_append]; exact gm⟩)
      · exact .inl (stay b o z e)
    · by_cases z : b ∈ cs.map Prod.snd
      · obtain ⟨t, ht, rfl⟩ := List.mem_map.mp z
        obtain ⟨more, gm⟩ := grow t ht
        exact ⟨_, gm⟩
      · exact ⟨o, stay b o z e⟩
  | .ok .next, h => exact False.elim h
  | .ok .brk, h => exact False.elim h
  | .ok .cont, h => exact False.elim h
  | .error e, h => exact False.elim h
/-! the law -/
def spr__law_written (d : Nat) (_ : PySem.W.Frag) : Sp := fun vs H Q _ => ∃ (v : V) (p : Addr → Prop) (w : Str) (ts : List Nt), vs = [v] ∧ Tg p H v (Nt.node w ts).data ∧ (Nt.node w ts).Ok ∧ (Nt.node w ts).dep ≤ d ∧ (Nt.node w ts).wt ≤ 1000000 ∧ (Nt.node w ts).Tb ∧ ∀ H', Same H H' → Q (.str (ntx w ts)) H'
theorem no__law_written {K : PySem.W.Frag} {vs : List V} {H : Hp} {Q : VK} {E : XK} (h : spr__law_written 0 K vs H Q E) : False := by
  obtain ⟨v, p, w, ts, _, _, _, z, _⟩ := h
  have z : Nt.deps ts + 1 ≤ 0 := by simpa only [Nt.dep] using z
  omega
theorem okr__law_written (T : Defs K mg) (TT : Tabs T base) : ∀ d : Nat, FnOk P w K mg base CX0 (1 + d) T.f__law_written T.fd__law_written ["_law_thing"] (spr__law_written d K)
  | 0 => ⟨fun _ _ _ _ z => (no__law_written z).elim, fun _ _ _ _ _ _ _ _ _ _ _ _ _ z => (no__law_written z).elim⟩
  | d + 1 => by
    have G__law_written : FnOk P w K mg base CX0 (1 + d) T.f__law_written T.fd__law_written ["_law_thing"] (spr__law_written d K) := okr__law_written T TT d
    show FnOk P w K mg base CX0 ((1 + d) + 1) T.f__law_written T.fd__law_written ["_law_thing"] (spr__law_written (d + 1) K)
    refine T.F__law_written.ok sc__law_written (fun vs H Q E h => ?_) (fun cdv A outer s H vs Q E hr h => ?_)
    · obtain ⟨v, p, wd, ts, rfl, hv, ok, dp, wt, tbb, q⟩ := h
      rfl
    · obtain ⟨v, p, wd, ts, rfl, hv, ok, dp, wt, tbb, q⟩ := h
      refine ⟨_, PSs.nox (pss_cons (ps_set (i := 1) sc__law_written.nd rfl (.inl rfl) (pe_ix ix_tup (pv 0) pe_int (fun _ _ => rfl)))
    (pss_cons ((ps_for PassesOwn.never rfl (pi_tup (pe_slice sl_tupS (pv 0) (po_some pe_int) po_none)) (pg_name (i := 2) sc__law_written.nd rfl (.inl rfl)) (pss_one (ps_if (pt_val (pe_callB call_isi (by rfl) T.m_isinstance bt_isinstance (pa_cons (pv 2) (pa_cons (pe_bltn (v := .ty "int") (by rfl) T.m_int bt_int rfl) pa_nil)))) (pss_one (ps_set (i := 1) sc__law_written.nd rfl (.inl rfl) (pe_op op_add_str (pe_op op_add_str (pv 1) pe_str) (pe_callTy call_strT (by rfl) T.m_str bt_str (pa_cons (pv 2) pa_nil))))) (pss_one (ps_if (pt_cmpR op_eq (pe_ix ix_tup (pv 0) pe_int (fun _ _ => rfl)) pe_str (nomark _)) (pss_one (ps_set (i := 1) sc__law_written.nd rfl (.inl rfl) (pe_op op_add_str (pv 1) (pe_join pe_str (pe_lc (own := [("_law_number", 3)]) (g := gName 3) (tt := tYes) rfl sc__law_written.nd (pi_tup (pv 2)) (blkOk_by (N := N__law_written) (sc := defScope s__law_written) (by decide +kernel)) (fun _ _ _ _ _ => (pg_name (i := 3) sc__law_written.nd rfl (.inl rfl))) (fun _ _ _ _ _ => pts_nil) (fun _ _ _ _ _ => (pe_op op_add_str pe_str (pe_callTy call_strT (by rfl) T.m_str bt_str (pa_cons (pv 3) pa_nil))))))))) (pss_one (ps_set (i := 1) sc__law_written.nd rfl (.inl rfl) (pe_op op_add_str (pe_op op_add_str (pe_op op_add_str (pv 1) pe_str) (pe_call G__law_written (hr.mono (by omega)) (by rfl) T.g__law_written T.F__law_written.kp T.b__law_written .nil pass0 (pa_cons (pv 2) pa_nil))) pe_str)))))))))
    (pss_one (ps_ret (pv 1))))), ?_⟩
      have hsl : sizeLine = 16777216 := by decide
      have ok2 : WdOk wd ∧ Nt.Oks ts := by simpa only [Nt.Ok] using ok
      have tb2 : (wd = "table" → ∀ t, t ∈ ts → ∃ n, t = .num n) ∧ Nt.Tbs ts := by simpa only [Nt.Tb] using tbb
      have dp2 : Nt.deps ts + 1 ≤ d + 1 := by simpa only [Nt.dep] using dp
      have wt2 : wd.length + 4 + Nt.wts ts ≤ 1000000 := by simpa only [Nt.wt] using wt
      have ed : (Nt.node wd ts).data = if wd = "table" then PyData.tuple [.str "table", .tuple (Nt.datas ts)] else .tuple (.str wd :: Nt.datas ts) := rfl
      have al := acc_len (w := wd) ok2.2
      have tl1 : ((" " : Str)).length = 1 := by decide +kernel
      have tl2 : ((" (" : Str)).length = 2 := by decide +kernel
      have tl3 : ((")" : Str)).length = 1 := by decide +kernel
      have lap : ∀ a b : Str, (a ++ b).length = a.length + b.length := fun a b => by rw [TL.len_tl, TL.len_tl, TL.len_tl, TL.tl_append, List.length_append]
      have ltx := ntx_len ok
      rw [ed] at hv
      by_cases tb : wd = "table"
      · rw [if_pos tb] at hv
        cases hv with
        | tup n ha t =>
          rename_i a xs
          cases t with
          | cons t1 t =>
            cases t1
            cases t with
            | cons t2 t =>
              cases t
              cases t2 with
              | tup n2 ha2 t2 =>
                rename_i a2 ys
                refine ⟨_, rfl, a, _, _, _, rfl, rfl, SqT.mk ha, atI_nat (j := 0) rfl, ?_⟩
                refine ⟨_, rfl, 1, rfl, a, _, rfl, ha, fun G c sG hc => ?_⟩
                rw [show cutV [V.str "table", V.ref a2] (some 1) none = [V.ref a2] from cut_hi [V.str "table", V.ref a2] 1] at hc
                obtain ⟨ly, hy⟩ := TgA.getD t2
                rw [datas_map, List.length_map] at ly
                have tk : ("table" : Str) ++ Txt.join "" (ts.map fun t => (" " : Str) ++ t.ptx) = ntx "table" ts := tbl_txt "table" ts
                have wl := wts_len ts
                rw [tb] at q ltx
                refine ⟨c, rfl, ⟨_, SqT.mk hc⟩, for_tup (xs := [V.ref a2]) (fun i σ E => ∃ y2, σ = [some (.ref a), some (.str (if i = 0 then "table" else ntx "table" ts)), y2, none] ∧ Same G E) ⟨none, rfl, Same.refl G⟩ ?_ ?_ ?_⟩
                · rintro i σ E _ ⟨_, _, sE⟩
                  exact SqT.mk (sE _ _ hc)
                · rintro i v' σ E hv' ⟨y2, rfl, sE⟩
                  obtain ⟨rfl, rfl⟩ : i = 0 ∧ v' = .ref a2 := by
                    match i, hv' with
                    | 0, e => exact ⟨rfl, (Option.some.inj e).symm⟩
                  have sHE := sG.trans sE
                  refine ⟨_, rfl, _, _, _, _, false, rfl, .ty "int", .base (.tup (sHE _ _ ha2)), kit_ty (by decide +kernel), false, rfl, iteF ?_⟩
                  refine ⟨_, rfl, a, _, _, _, rfl, rfl, SqT.mk (sHE _ _ ha), atI_nat (j := 0) rfl, rfl, _, rfl, ?_⟩
                  rw [decide_eq_true rfl]
                  refine iteT ⟨_, rfl, ⟨_, rfl⟩, _, rfl, a2, rfl, ⟨_, SqT.mk (sHE _ _ ha2)⟩, fun C nC => ?_⟩
                  refine lc_it (walk_tup (xs := ys)) (fun k F => Same E F ∧ F C = some (.lst ((ts.take k).map fun t => V.str ((" " : Str) ++ t.ptx)))) ⟨same_upd nC, upd_same⟩ (fun k F _ h => SqT.mk (h.1 _ _ (sHE _ _ ha2))) (fun k v' F F' hk h y => ?_) (fun F h => ?_)
                  · obtain ⟨sF, hC⟩ := h
                    obtain ⟨rfl, hv1⟩ := y
                    obtain ⟨dd, h1, h2⟩ := hy k v' hv1
                    rw [datas_map, List.getElem?_map] at h1
                    obtain ⟨t, ht, rfl⟩ := Option.map_eq_some_iff.mp h1
                    have tm := List.mem_of_getElem? ht
                    obtain ⟨n, rfl⟩ := tb2.1 tb t tm
                    obtain ⟨o1, _, _⟩ := oks_mem ok2.2 tm
                    have n3 : n < 1000 := by simpa only [Nt.Ok] using o1
                    cases h2 with
                    | int i' =>
                      have l3 : (Str.ofString (toString ((n : Nat) : Int))).length ≤ 3 := digs_len n3
                      refine ⟨rfl, yes_ite ⟨_, rfl, _, rfl, .inr ⟨_, rfl, small_log n3, _, _, rfl, rfl, by rw [tl1]; omega, _, hC, by rw [List.length_map, List.length_take]; omega, same_newer sF nC, ?_⟩⟩⟩
                      rw [upd_same, List.take_add_one, ht, List.map_append]
                      rfl
                  · obtain ⟨sF, hC⟩ := h
                    rw [ly, List.take_length] at hC
                    have ts2 := tbl_sum ok2.2
                    have e : (ts.map fun t => V.str ((" " : Str) ++ t.ptx)) = (ts.map fun t => (" " : Str) ++ t.ptx).map V.str := by rw [List.map_map]; rfl
                    rw [e] at hC
                    have lk : (("table" : Str) ++ Txt.join "" (ts.map fun t => (" " : Str) ++ t.ptx)).length ≤ 1000000 := by
                      rw [tk]
                      have : (Nt.node "table" ts).wt ≤ 1000000 := by rw [← tb]; exact wt
                      omega
                    rw [lap] at lk
                    have z0 : (("" : Str)).length = 0 := by decide +kernel
                    refine ⟨_, C, _, rfl, rfl, .inl (SqL.mk hC), by rw [z0, Nat.mul_zero]; omega, _, _, rfl, rfl, by rw [if_pos rfl]; omega, ?_⟩
                    refine ⟨some (.ref a2), ?_, sE.trans sF⟩
                    rw [if_pos rfl, if_neg (by decide), tk]
                    rfl
                · rintro σ E ⟨y2, rfl, sE⟩
                  rw [if_neg (show ¬ [V.ref a2].length = 0 from by simp)]
                  exact ⟨_, rfl, q E (sG.trans sE)⟩
      · rw [if_neg tb] at hv
        cases hv with
        | tup n ha t =>
          rename_i a xs
          cases t with
          | cons t1 t =>
            cases t1
            rename_i ys
            refine ⟨_, rfl, a, _, _, _, rfl, rfl, SqT.mk ha, atI_nat (j := 0) rfl, ?_⟩
            refine ⟨_, rfl, 1, rfl, a, _, rfl, ha, fun G c sG hc => ?_⟩
            rw [show cutV (V.str wd :: ys) (some 1) none = ys from cut_hi (V.str wd :: ys) 1] at hc
            obtain ⟨ly, hy⟩ := TgA.getD t
            rw [datas_map, List.length_map] at ly
            refine ⟨c, rfl, ⟨_, SqT.mk hc⟩, for_tup (xs := ys) (fun i σ E => ∃ y2, σ = [some (.ref a), some (.str (Txt.join " " (wd :: (Nt.ptxs ts).take i))), y2, none] ∧ Same G E) ⟨none, rfl, Same.refl G⟩ ?_ ?_ ?_⟩
            · rintro i σ E _ ⟨_, _, sE⟩
              exact SqT.mk (sE _ _ hc)
            · rintro i v' σ E hv' ⟨y2, rfl, sE⟩
              obtain ⟨dd, h1, h2⟩ := hy i v' hv'
              rw [datas_map, List.getElem?_map] at h1
              obtain ⟨t, ht, rfl⟩ := Option.map_eq_some_iff.mp h1
              have tm := List.mem_of_getElem? ht
              obtain ⟨o1, o2, o3⟩ := oks_mem ok2.2 tm
              have o4 := tbs_mem tb2.2 tm
              have sHE := sG.trans sE
              have ai := al i
              have aj := al (i + 1)
              have e : (Nt.ptxs ts)[i]? = some t.ptx := by rw [ptxs_map, List.getElem?_map, ht]; rfl
              have ej : Txt.join " " (wd :: (Nt.ptxs ts).take (i + 1)) = Txt.join " " (wd :: (Nt.ptxs ts).take i) ++ " " ++ t.ptx := by
                rw [List.take_add_one, e]
                exact join_snoc (xs := wd :: (Nt.ptxs ts).take i) (by simp)
              have lp := ptx_len o1
              cases t with
              | num n =>
                cases h2 with
                | int i' =>
                  have n3 : n < 1000 := by simpa only [Nt.Ok] using o1
                  refine ⟨_, rfl, _, _, _, _, true, rfl, .ty "int", .base (.int _), kit_ty (by decide +kernel), true, rfl, iteT ?_⟩
                  refine ⟨_, rfl, _, _, rfl, rfl, by rw [tl1]; omega, _, rfl, _, rfl, .inr ⟨_, rfl, small_log n3, _, _, rfl, rfl, ?_, ?_⟩⟩
                  · have : (Str.ofString (toString ((n : Nat) : Int))).length ≤ 3 := digs_len n3
                    rw [lap, tl1]
                    omega
                  · exact ⟨_, by rw [ej]; rfl, sE⟩
              | node w' ts' =>
                obtain ⟨a', xs', rfl, ha'⟩ : ∃ a' xs', v' = .ref a' ∧ H a' = some (.tup xs') := by
                  have e : (Nt.node w' ts').data = if w' = "table" then PyData.tuple [.str "table", .tuple (Nt.datas ts')] else .tuple (.str w' :: Nt.datas ts') := rfl
                  rw [e] at h2
                  split at h2
                  · cases h2 with
                    | tup n e t => exact ⟨_, _, rfl, e⟩
                  · cases h2 with
                    | tup n e t => exact ⟨_, _, rfl, e⟩
                refine ⟨_, rfl, _, _, _, _, false, rfl, .ty "int", .base (.tup (sHE _ _ ha')), kit_ty (by decide +kernel), false, rfl, iteF ?_⟩
                refine ⟨_, rfl, a, _, _, _, rfl, rfl, SqT.mk (sHE _ _ ha), atI_nat (j := 0) rfl, rfl, _, rfl, ?_⟩
                rw [decide_eq_false (fun z => tb (V.str.inj z))]
                refine iteF ⟨_, rfl, _, _, rfl, rfl, by rw [tl2]; omega, ?_⟩
                have ln := ntx_len o1
                refine ⟨_, rfl, _, p, w', ts', rfl, h2.same sHE, o1, by omega, by omega, o4, fun H' s' => ⟨_, _, rfl, rfl, by rw [lap, tl2]; omega, _, _, rfl, rfl, by rw [lap, lap, tl2, tl3]; omega, ?_⟩⟩
                refine ⟨some (.ref a'), ?_, sE.trans s'⟩
                have ex : Txt.join " " (wd :: (Nt.ptxs ts).take i) ++ " (" ++ ntx w' ts' ++ ")" = Txt.join " " (wd :: (Nt.ptxs ts).take (i + 1)) := by
                  rw [ej]
                  refine TL.ext_tl ?_
                  have ep : (Nt.node w' ts').ptx = ("(" : Str) ++ ntx w' ts' ++ (")" : Str) := rfl
                  rw [ep, TL.tl_append, TL.tl_append, TL.tl_append, TL.tl_append, TL.tl_append, TL.tl_append, TL.tl_append, List.append_assoc, List.append_assoc, List.append_assoc, List.append_assoc]
                  rfl
                rw [← ex]
                rfl
            · rintro σ E ⟨y2, rfl, sE⟩
              rw [ly]
              refine ⟨_, rfl, ?_⟩
              have := q E (sG.trans sE)
              have e : (Nt.ptxs ts).take ts.length = Nt.ptxs ts := List.take_of_length_le (by rw [ptxs_map, List.length_map]; exact Nat.le_refl _)
              rw [e]
              exact this
def sp__law_written (K : PySem.W.Frag) : Sp := spr__law_written 9 K
theorem ok__law_written (T : Defs K mg) (TT : Tabs T base) : FnOk P w K mg base CX0 10 T.f__law_written T.fd__law_written ["_law_thing"] (sp__law_written K) := okr__law_written T TT 9
def dpF (r : Nat) : Nat → Fm
  | 0 => .inp r
  | j + 1 => .less (dpF r j)
theorem dpF_is (r : Nat) : ∀ j, (dpF r j).dep = j + 1 ∧ (dpF r j).sz = j + 1 ∧ (dpF r j).ins = [r]
  | 0 => ⟨rfl, rfl, rfl⟩
  | j + 1 => by
    obtain ⟨a, b, c⟩ := dpF_is r j
    simp only [dpF, Fm.dep, Fm.sz, Fm.ins]
    exact ⟨by omega, by omega, c⟩
structure GdF (f : Fm) : Prop where
  dp : f.dep ≤ 8
  sz : f.sz ≤ 24
  hi : ∀ i, i ∈ f.ins → i < 6
theorem GdF.sho {f : Fm} (h : GdF f) : Sho f.data := (fm_shs h.hi).sho (by decide) (by decide) (by have := h.dp; omega) (by have := h.sz; omega)
theorem tg_ref {p : Addr → Prop} {H : Hp} {v : V} {f : Fm} (h : Tg p H v f.data) : ∃ a, v = .ref a := by
  cases f <;> (cases h; exact ⟨_, rfl⟩)
/-- what a text's promise asks of a formula -/
theorem GdF.nt {f : Fm} (h : GdF f) : ∃ w ts, f.nt = .node w ts ∧ f.txt = ntx w ts ∧ (Nt.node w ts).data = f.data ∧ (Nt.node w ts).Ok ∧ (Nt.node w ts).dep ≤ 8 ∧ (Nt.node w ts).wt ≤ 1000000 ∧ (Nt.node w ts).Tb := by
  have en := fnt_node f
  have ok := fnt_ok f h.hi
  have wt := fnt_wt f
  have ds := fnt_dep f
  have ed := fnt_data f
  have tb := fnt_tb f
  have := h.dp
  have := h.sz
  refine ⟨f.nt.wd, f.nt.sub, en, rfl, ?_⟩
  rw [← en]
  exact ⟨ed, ok, by omega, by omega, tb⟩
def sp_law {K : PySem.W.Frag} {mg : Str → Option Value} (T : Defs K mg) : Sp := fun vs H Q _ => ∃ (a : Addr) (ns : List Int), vs = [.ref a] ∧ SqL K H a (ns.map V.int) ∧ ns.length ≤ 63 ∧ (GxR.TabG H T.P_nested_text ∧ True) ∧ ∀ H', Q (.bl true) H'
theorem ok_law (T : Defs K mg) (TT : Tabs T base) : GOk P w K mg base CX0 28 T.f_law T.fd_law ["_law_script"] (sp_law T) := by
  have G__law_folded : FnOk P w K mg base CX0 1 T.f__law_folded T.fd__law_folded ["_law_script", "_law_many"] (sp__law_folded K) := ok__law_folded T TT
  have G__law_box : FnOk P w K mg base CX0 1 T.f__law_box T.fd__law_box ["_law_script", "_law_k"] (sp__law_box K) := ok__law_box T TT
  have G__law_take : FnOk P w K mg base CX0 1 T.f__law_take T.fd__law_take ["_law_box_here", "_law_many"] (sp__law_take K) := ok__law_take T TT
  have G__law_any : FnOk P w K mg base CX0 12 T.f__law_any T.fd__law_any ["_law_box_here"] (sp__law_any K) := ok__law_any T TT
  have G_formula_text : FnOk P w K mg base CX0 27 T.f_formula_text T.fd_formula_text ["formula"] (sp_formula_text T) := ok_formula_text T TT
  have G__law_written : FnOk P w K mg base CX0 10 T.f__law_written T.fd__law_written ["_law_thing"] (sp__law_written K) := ok__law_written T TT
  have G_formula_from : FnOk P w K mg base CX0 5 T.f_formula_from T.fd_formula_from ["text"] (sp_formula_from K) := ok_formula_from T TT
  refine gok_of T.F_law sc_law (fun vs H Q E h => ?_) (fun cdv A outer s H vs Q E hg hr h => ?_)
  · obtain ⟨a, ns, rfl, hS, hlen, ⟨tab, _⟩, q⟩ := h
    rfl
  · obtain ⟨a, ns, rfl, hS, hlen, ⟨tab, _⟩, q⟩ := h
    refine ⟨_, PSs.nox (pss_cons (ps_set (i := 1) sc_law.nd rfl (.inl rfl) (pe_call G__law_folded (hr.mono (by decide)) (by rfl) T.g__law_folded T.F__law_folded.kp T.b__law_folded .nil pass0 (pa_cons (pv 0) (pa_cons pe_int pa_nil))))
    (pss_cons ((ps_for PassesOwn.never rfl (pi_range1 (by rfl) T.m_range (pa_cons (pe_callB (call_max2 rfl) (by rfl) T.m_max bt_max (pa_cons pe_int (pa_cons (pe_callB call_len_seq (by rfl) T.m_len bt_len (pa_cons (pv 1) pa_nil)) pa_nil))) pa_nil)) (pg_name (i := 2) sc_law.nd rfl (.inl rfl)) (pss_cons (ps_set (i := 3) sc_law.nd rfl (.inr rfl) (pe_call G__law_box (hr.mono (by decide)) (by rfl) T.g__law_box T.F__law_box.kp T.b__law_box .nil pass0 (pa_cons (pv 1) (pa_cons (pv 2) pa_nil))))
    (pss_cons (ps_set (i := 4) sc_law.nd rfl (.inl rfl) (pe_tup (pa_cons pe_str (pa_cons (pe_call G__law_take (hr.mono (by decide)) (by rfl) T.g__law_take T.F__law_take.kp T.b__law_take .nil pass0 (pa_cons (pv 3) (pa_cons pe_int pa_nil))) pa_nil))))
    (pss_cons ((ps_for PassesOwn.never rfl (pi_range1 (by rfl) T.m_range (pa_cons pe_int pa_nil)) (pg_name (i := 5) sc_law.nd rfl (.inl rfl)) (pss_one (ps_set (i := 4) sc_law.nd rfl (.inl rfl) (pe_tup (pa_cons pe_str (pa_cons (pv 4) pa_nil)))))))
    (pss_one ((ps_for PassesOwn.never rfl (pi_list (pe_op op_cat (pe_lc (own := [("_law_turn", 5)]) (g := gName 5) (tt := tYes) rfl sc_law.nd (pi_range1 (by rfl) T.m_range (pa_cons pe_int pa_nil)) (blkOk_by (N := N_law) (sc := defScope s_law) (by decide +kernel)) (fun _ _ _ _ _ => (pg_name (i := 5) sc_law.nd rfl (.inl rfl))) (fun _ _ _ _ _ => pts_nil) (fun _ _ _ _ _ => (pe_call G__law_any (hr.mono (by decide)) (by rfl) T.g__law_any T.F__law_any.kp T.b__law_any .nil pass0 (pa_cons (pv 3) pa_nil)))) (pe_lst (pa_cons (pv 4) (pa_cons (pe_ix ix_tup (pv 4) pe_int (fun _ _ => rfl)) pa_nil))))) (pg_name (i := 6) sc_law.nd rfl (.inl rfl)) (pss_cons (ps_set (i := 7) sc_law.nd rfl (.inl rfl) (pe_callB (cr_repr hg (u65g hr)) (by rfl) T.m_repr bt_repr (pa_cons (pv 6) pa_nil)))
    (pss_cons ((ps_for PassesOwn.never rfl (pi_range1 (by rfl) T.m_range (pa_cons pe_int pa_nil)) (pg_name (i := 5) sc_law.nd rfl (.inl rfl)) (pss_cons (ps_if (pt_cmpR op_ne (pe_call G_formula_text (hr.mono (by decide)) (by rfl) T.g_formula_text T.F_formula_text.kp T.b_formula_text .nil pass0 (pa_cons (pv 6) pa_nil)) (pe_call G__law_written (hr.mono (by decide)) (by rfl) T.g__law_written T.F__law_written.kp T.b__law_written .nil pass0 (pa_cons (pv 6) pa_nil)) (nomark _)) (pss_one (ps_ret pe_bl)) pss_nil)
    (pss_one (ps_if (PW.pt (pw_or (pt_cmpR op_ne (pe_callB (cr_repr hg (u65g hr)) (by rfl) T.m_repr bt_repr (pa_cons (pe_call G_formula_from (hr.mono (by decide)) (by rfl) T.g_formula_from T.F_formula_from.kp T.b_formula_from .nil pass0 (pa_cons (pe_call G__law_written (hr.mono (by decide)) (by rfl) T.g__law_written T.F__law_written.kp T.b__law_written .nil pass0 (pa_cons (pv 6) pa_nil)) pa_nil)) pa_nil)) (pv 7) (nomark _)) (pw_or1 (pt_cmpR op_ne (pe_callB (cr_repr hg (u65g hr)) (by rfl) T.m_repr bt_repr (pa_cons (pv 6) pa_nil)) (pv 7) (nomark _))))) (pss_one (ps_ret pe_bl)) pss_nil)))))
    (pss_one (ps_if (pt_cmpR op_ne (pe_call G_formula_text (hr.mono (by decide)) (by rfl) T.g_formula_text T.F_formula_text.kp T.b_formula_text .nil pass0 (pa_cons (pe_call G_formula_from (hr.mono (by decide)) (by rfl) T.g_formula_from T.F_formula_from.kp T.b_formula_from .nil pass0 (pa_cons (pe_call G_formula_text (hr.mono (by decide)) (by rfl) T.g_formula_text T.F_formula_text.kp T.b_formula_text .nil pass0 (pa_cons (pv 6) pa_nil)) pa_nil)) pa_nil)) (pe_call G__law_written (hr.mono (by decide)) (by rfl) T.g__law_written T.F__law_written.kp T.b__law_written .nil pass0 (pa_cons (pv 6) pa_nil)) (nomark _)) (pss_one (ps_ret pe_bl)) pss_nil))))))))))))
    (pss_one (ps_ret pe_bl)))), ?_⟩
    have hsl : sizeLine = 16777216 := by decide
    refine ⟨.ref a, rfl, a, ns, 4, rfl, hS, hlen, by decide, by decide, fun H1 c cs s1 nc hc lc => ?_⟩
    have tab1 := (Sam.of s1).tabG tab
    have hn : (if (((cs.map V.int).length : Nat) : Int) > 2 then (((cs.map V.int).length : Nat) : Int) else 2) ≤ 4 ∧ 0 ≤ (if (((cs.map V.int).length : Nat) : Int) > 2 then (((cs.map V.int).length : Nat) : Int) else 2) := by
      rw [List.length_map]
      split <;> omega
    refine ⟨.ref c, rfl, c, _, rfl, .inl (SqL.mk hc), _, _, rfl, _, rfl, by omega, by omega, for_range (fun i σ H2 => ∃ y2 y3 y4 y5 y6 y7, σ = [some (.ref a), some (.ref c), y2, y3, y4, y5, y6, y7] ∧ Sam H1 H2) ⟨none, none, none, none, none, none, rfl, Sam.refl H1⟩ ?_ ?_⟩
    rotate_left
    · rintro σ H2 ⟨y2, y3, y4, y5, y6, y7, rfl, s2⟩
      exact q _
    rintro i σ H2 hi ⟨y2, y3, y4, y5, y6, y7, rfl, s2⟩
    have hi2 : i < 1000 := by omega
    refine ⟨.ref c, rfl, .int (0 + (i : Int)), rfl, c, cs, i, by rw [Int.zero_add]; rfl, SqL.mk (s2.lst hc), hi2, fun H3 b s3 nb hB => ?_⟩
    have nb1 : H1 b = none := s2.free nb
    have s13 := s2.trans (Sam.of s3)
    have tab3 := s13.tabG tab1
    refine ⟨.ref b, rfl, b, 6, 0, rfl, hB, by decide, by decide, by decide, fun F1 r c1 B1 l1 u1 => ⟨(show 2 ≤ sizeLine by decide), fun td ntd => ?_⟩⟩
    obtain ⟨r, rfl⟩ := nat_of l1
    have hr6 : r < 6 := by omega
    refine ⟨7, rfl, by decide, by decide, for_range (n := 7) (fun j σ G => ∃ y5 v, σ = [some (.ref a), some (.ref c), some (.int (0 + (i : Int))), some (.ref b), some v, y5, y6, y7] ∧ FmAt G (dpF r j) v ∧ But b H3 G ∧ Bx G b 1) ⟨_, _, rfl, ⟨td, rfl, upd_same⟩, c1.new ntd, B1.new ntd⟩ ?_ ?_⟩
    · rintro j σ G hj ⟨y5, v, rfl, hf, bG, BG⟩
      refine ⟨_, rfl, (show 2 ≤ sizeLine by decide), fun t nt => ?_⟩
      exact ⟨_, _, rfl, ⟨t, v, rfl, upd_same, hf.same (same_upd nt)⟩, bG.new nt, BG.new nt⟩
    rintro σ G ⟨y5, v, rfl, hf, bG, BG⟩
    have g7 : GdF (dpF r 7) := ⟨by rw [(dpF_is r 7).1]; decide, by rw [(dpF_is r 7).2.1]; decide, fun x hx => by rw [(dpF_is r 7).2.2] at hx; rw [List.mem_singleton.mp hx]; exact hr6⟩
    have g6 : GdF (dpF r 6) := ⟨by rw [(dpF_is r 6).1]; decide, by rw [(dpF_is r 6).2.1]; decide, fun x hx => by rw [(dpF_is r 6).2.2] at hx; rw [List.mem_singleton.mp hx]; exact hr6⟩
    obtain ⟨t7, u, rfl, h7, hu⟩ : ∃ t7 u, v = .ref t7 ∧ G t7 = some (.tup [.str "less", u]) ∧ FmAt G (dpF r 6) u := hf
    refine ⟨4, rfl, by decide, by decide, fun D nD => ?_⟩
    have nDb : D ≠ b := ne_new BG nD
    refine lc_range (fun j F => ∃ fs : List (V × Fm), fs.length = j ∧ F D = some (.lst (fs.map Prod.fst)) ∧ (∀ q, q ∈ fs → FmAt F q.2 q.1 ∧ GdF q.2) ∧ But b G F ∧ Bx F b (1 + 200 * j)) ⟨[], rfl, upd_same, fun _ z => (by cases z), (But.refl b G).new nD, BG.new nD⟩ (fun j F hj h => ?_) (fun F h => ?_)
    · obtain ⟨fs, lf, hD, hfs, cF, BF⟩ := h
      have hj4 : j < 4 := by
        have : (4 : Int).toNat = 4 := rfl
        omega
      refine ⟨rfl, yes_ite ?_⟩
      refine ⟨_, rfl, b, _, rfl, BF, by omega, fun F2 x f c2 B2 hf2 d8 s24 i6 => ?_⟩
      refine ⟨_, c2 _ _ nDb hD, by rw [List.length_map]; omega, fs ++ [(x, f)], by rw [List.length_append, lf]; rfl, by rw [upd_same, List.map_append]; rfl, fun q' hq => ?_, but_newer (cF.trans c2) nD, (B2.other nDb).mono (by omega)⟩
      have keep : ∀ t xs, F2 t = some (.tup xs) → (upd F2 D (.lst (fs.map Prod.fst ++ [x]))) t = some (.tup xs) := fun t xs e => by
        rw [upd_ne (ne_of e (c2 _ _ nDb hD) (fun z => by cases z))]
        exact e
      rcases List.mem_append.mp hq with hq | hq
      · exact ⟨((hfs q' hq).1.but BF c2).keep keep, (hfs q' hq).2⟩
      · rw [List.mem_singleton.mp hq]
        exact ⟨hf2.keep keep, ⟨d8, s24, i6⟩⟩
    obtain ⟨fs, lf, hD, hfs, cF, BF⟩ := h
    have lf : fs.length = 4 := lf
    have h7F := cF _ _ (BG.ne_tup h7) h7
    have huF := hu.but BG cF
    refine ⟨_, rfl, _, rfl, t7, _, _, _, rfl, rfl, SqT.mk h7F, atI_nat (j := 1) rfl, (show 2 ≤ sizeLine by decide), fun X nX => ?_⟩
    have sX := same_upd nX (o := .lst [.ref t7, u])
    refine ⟨D, X, _, _, rfl, rfl, sX _ _ hD, upd_same, by rw [List.length_map, lf]; show 4 + 2 ≤ sizeLine; decide, fun Z nZ => ?_⟩
    have sZ := same_upd nZ (o := .lst (fs.map Prod.fst ++ [.ref t7, u]))
    have hZ := upd_same (H := upd F X (.lst [.ref t7, u])) (a := Z) (o := .lst (fs.map Prod.fst ++ [.ref t7, u]))
    have sXZ := sX.trans sZ
    generalize upd (upd F X (.lst [.ref t7, u])) Z (.lst (fs.map Prod.fst ++ [.ref t7, u])) = G0 at sXZ hZ ⊢
    have bG0 : Bus b H3 G0 := ((Bus.of bG).trans (Bus.of cF)).trans (.sam (Sam.of sXZ))
    have tab0 := bG0.tabG hB tab3
    have all : ∀ (k : Nat) (x : V), (fs.map Prod.fst ++ [V.ref t7, u])[k]? = some x → ∃ f, FmAt G0 f x ∧ GdF f := fun k x e => by
      rcases List.mem_append.mp (List.mem_of_getElem? e) with h | h
      · obtain ⟨q', hq, rfl⟩ := List.mem_map.mp h
        exact ⟨q'.2, (hfs q' hq).1.same sXZ, (hfs q' hq).2⟩
      rcases List.mem_cons.mp h with rfl | h
      · exact ⟨dpF r 7, FmAt.same (H := F) ⟨t7, u, rfl, h7F, huF⟩ sXZ, g7⟩
      · rw [List.mem_singleton.mp h]
        exact ⟨dpF r 6, huF.same sXZ, g6⟩
    refine ⟨Z, rfl, ⟨_, SqL.mk hZ⟩, for_list (xs := fs.map Prod.fst ++ [.ref t7, u]) (fun k σ E => ∃ y5 y6 y7, σ = [some (.ref a), some (.ref c), some (.int (0 + (i : Int))), some (.ref b), some (.ref t7), y5, y6, y7] ∧ Sam G0 E) ⟨_, _, _, rfl, Sam.refl G0⟩ ?_ ?_ ?_⟩
    · rintro k σ E _ ⟨_, _, _, _, sE⟩
      exact SqL.mk (sE.lst hZ)
    · rintro k x σ E hx ⟨y5, y6, y7, rfl, sE⟩
      obtain ⟨f, hfx, gd⟩ := all k x hx
      obtain ⟨wd, ts, en, et, edt, ok, dp, wt, tb⟩ := gd.nt
      have tgA : ∀ E', Sam E E' → Tg (fun _ => False) E' x f.data := fun E' s => (tg_fm (p := fun _ => False) (fun _ _ _ z => z) hfx).sam (sE.trans s)
      obtain ⟨ax, rfl⟩ := tg_ref (tgA E (Sam.refl E))
      have tabE : ∀ E', Sam E E' → GxR.TabG E' T.P_nested_text := fun E' s => (sE.trans s).tabG tab0
      have txtA : ∀ E', Sam E E' → Tg (fun _ => False) E' (.ref ax) (Nt.node wd ts).data := fun E' s => by
        rw [edt]
        exact tgA E' s
      refine ⟨_, rfl, ax, f.data, rfl, (tgA E (Sam.refl E)).dp, gd.sho, ?_⟩
      refine ⟨2, rfl, by decide, by decide, for_range (n := 2) (fun j σ E' => ∃ y5, σ = [some (.ref a), some (.ref c), some (.int (0 + (i : Int))), some (.ref b), some (.ref t7), y5, some (.ref ax), some (.str f.data.shown)] ∧ Sam E E') ⟨_, rfl, Sam.refl E⟩ ?_ ?_⟩
      · rintro j σ E1 hj ⟨y5, rfl, s1⟩
        refine ⟨_, rfl, _, _, wd, ts, rfl, txtA E1 s1, ok, dp, wt, tabE E1 s1, fun E2 s2 => ?_⟩
        have s12 := s1.trans s2
        refine ⟨_, rfl, _, _, wd, ts, rfl, txtA E2 s12, ok, by omega, wt, tb, fun E3 s3 => ⟨rfl, _, rfl, ?_⟩⟩
        have s13 := s12.trans (Sam.of s3)
        rw [decide_eq_true rfl]
        refine iteF ?_
        refine ⟨_, rfl, _, _, wd, ts, rfl, txtA E3 s13, ok, by omega, wt, tb, fun E4 s4 => ?_⟩
        have s14 := s13.trans (Sam.of s4)
        refine ⟨f, by rw [et]; rfl, gd.hi, gd.dp, gd.sz, fun E5 v5 s5 tg5 => ?_⟩
        obtain ⟨a5, rfl⟩ := tg_ref tg5
        have s15 := s14.trans (Sam.of s5)
        refine ⟨a5, f.data, rfl, tg5.dp, gd.sho, _, rfl, rfl, _, rfl, ?_⟩
        rw [decide_eq_true rfl]
        refine iteF ⟨_, rfl, ax, f.data, rfl, (tgA E5 s15).dp, gd.sho, _, rfl, rfl, _, rfl, ?_⟩
        rw [decide_eq_true rfl]
        exact iteF ⟨_, rfl, s15⟩
      · rintro σ E1 ⟨y5, rfl, s1⟩
        refine ⟨_, rfl, _, _, wd, ts, rfl, txtA E1 s1, ok, dp, wt, tabE E1 s1, fun E2 s2 => ?_⟩
        have s12 := s1.trans s2
        refine ⟨f, by rw [et]; rfl, gd.hi, gd.dp, gd.sz, fun E3 v3 s3 tg3 => ?_⟩
        have s13 := s12.trans (Sam.of s3)
        rw [← edt] at tg3
        refine ⟨v3, _, wd, ts, rfl, tg3, ok, dp, wt, tabE E3 s13, fun E4 s4 => ?_⟩
        have s14 := s13.trans s4
        refine ⟨_, rfl, _, _, wd, ts, rfl, txtA E4 s14, ok, by omega, wt, tb, fun E5 s5 => ⟨rfl, _, rfl, ?_⟩⟩
        rw [decide_eq_true rfl]
        exact iteF ⟨_, _, _, rfl, sE.trans (s14.trans (Sam.of s5))⟩
    rintro σ E ⟨y5, y6, y7, rfl, sE⟩
    exact ⟨_, _, _, _, _, _, rfl, bus_same nb1 s13 (bG0.trans (.sam sE))⟩
end
def d_is_number : He.DefD := ⟨("is_number", none), "is_number", "is_number", defArgs s_is_number, defBody s_is_number, defScope s_is_number, [], []⟩
def d_is_within : He.DefD := ⟨("is_within", none), "is_within", "is_within", defArgs s_is_within, defBody s_is_within, defScope s_is_within, [], []⟩
def d_is_part : He.DefD := ⟨("is_part", none), "is_part", "is_part", defArgs s_is_part, defBody s_is_part, defScope s_is_part, [], []⟩
def d_sides_of : He.DefD := ⟨("sides_of", none), "sides_of", "sides_of", defArgs s_sides_of, defBody s_sides_of, defScope s_sides_of, [], []⟩
def d_is_formula : He.DefD := ⟨("is_formula", none), "is_formula", "is_formula", defArgs s_is_formula, defBody s_is_formula, defScope s_is_formula, [], []⟩
def d_part_text : He.DefD := ⟨("part_text", none), "part_text", "part_text", defArgs s_part_text, defBody s_part_text, defScope s_part_text, [], []⟩
def d_nested_text : He.DefD := ⟨("nested_text", none), "nested_text", "nested_text", defArgs s_nested_text, defBody s_nested_text, defScope s_nested_text, [], []⟩
def d_formula_text : He.DefD := ⟨("formula_text", none), "formula_text", "formula_text", defArgs s_formula_text, defBody s_formula_text, defScope s_formula_text, [], []⟩
def d_number_from : He.DefD := ⟨("number_from", none), "number_from", "number_from", defArgs s_number_from, defBody s_number_from, defScope s_number_from, [], []⟩
def d_word_from : He.DefD := ⟨("word_from", none), "word_from", "word_from", defArgs s_word_from, defBody s_word_from, defScope s_word_from, [], []⟩
def d_shaped : He.DefD := ⟨("shaped", none), "shaped", "shaped", defArgs s_shaped, defBody s_shaped, defScope s_shaped, [], []⟩
def d_nested_from : He.DefD := ⟨("nested_from", none), "nested_from", "nested_from", defArgs s_nested_from, defBody s_nested_from, defScope s_nested_from, [], []⟩
def d_formula_from : He.DefD := ⟨("formula_from", none), "formula_from", "formula_from", defArgs s_formula_from, defBody s_formula_from, defScope s_formula_from, [], []⟩
def d__law_box : He.DefD := ⟨("_law_box", none), "_law_box", "_law_box", defArgs s__law_box, defBody s__law_box, defScope s__law_box, [], []⟩
def d__law_take : He.DefD := ⟨("_law_take", none), "_law_take", "_law_take", defArgs s__law_take, defBody s__law_take, defScope s__law_take, [], []⟩
def d__law_folded : He.DefD := ⟨("_law_folded", none), "_law_folded", "_law_folded", defArgs s__law_folded, defBody s__law_folded, defScope s__law_folded, [], []⟩
def d__law_formula : He.DefD := ⟨("_law_formula", none), "_law_formula", "_law_formula", defArgs s__law_formula, defBody s__law_formula, defScope s__law_formula, [], []⟩
def d__law_any : He.DefD := ⟨("_law_any", none), "_law_any", "_law_any", defArgs s__law_any, defBody s__law_any, defScope s__law_any, [], []⟩
def d__law_written : He.DefD := ⟨("_law_written", none), "_law_written", "_law_written", defArgs s__law_written, defBody s__law_written, defScope s__law_written, [], []⟩
def d_law : He.DefD := ⟨("law", none), "law", "law", defArgs s_law, defBody s_law, defScope s_law, [], []⟩
def hfn : List He.DefD := [d_is_number, d_is_within, d_is_part, d_sides_of, d_is_formula, d_part_text, d_nested_text, d_formula_text, d_number_from, d_word_from, d_shaped, d_nested_from, d_formula_from, d__law_box, d__law_take, d__law_folded, d__law_formula, d__law_any, d__law_written, d_law]
def hfa : List He.Fa := [.glo "is_number", .glo "is_within", .glo "is_part", .glo "sides_of", .glo "is_formula", .glo "part_text", .glo "nested_text", .glo "formula_text", .glo "number_from", .glo "word_from", .glo "shaped", .glo "nested_from", .glo "formula_from", .glo "_law_box", .glo "_law_take", .glo "_law_folded", .glo "_law_formula", .glo "_law_any", .glo "_law_written", .glo "law", .free "ValueError", .free "abs", .free "bool", .free "divmod", .free "enumerate", .free "int", .free "isinstance", .free "len", .free "list", .free "max", .free "range", .free "repr", .free "str", .free "tuple", .glo "SIDES", .int "GREATEST_INPUT" 5, .int "MOST_PARTS" 24, .int "DEEPEST" 8, .int "MOST_FIGURES" 3]
def hts : List He.Tab := [((fun K => He.ga K "SIDES"), ["less", "both", "either", "oneof", "pick"])]
def htf : List He.Defn := [("nested_text", none)]
abbrev Hex (K : PySem.W.Frag) : Prop := (dicB K (He.ga K "SIDES") dl_SIDES = true)
instance (K : PySem.W.Frag) : Decidable (Hex K) := inferInstance
def hex : PySem.W.Frag → Bool := fun K => decide (Hex K)
abbrev R : PySem.W.OpenRow := PySem.W.OpenLaw.row PySem.Challenge.rw_shareones_k56_formulas_written
abbrev hk : PySem.W.Hook := He.hookX 4 hfa hfn hts htf hex
def ob (s : PySem.W.SharedT) : He.AlX := He.obsX 4 hfa hfn hts htf hex (HandSHeadRun.getT s)
theorem ob_eq (s : PySem.W.SharedT) : ob s = hk.obs s.abs := He.obsX_eq (HandSHeadRun.getT_eq s)
def loose : List Str := "is_number" :: "is_within" :: "is_part" :: "sides_of" :: "is_formula" :: "part_text" :: "nested_text" :: "formula_text" :: "number_from" :: "word_from" :: "shaped" :: "nested_from" :: "formula_from" :: "_law_box" :: "_law_take" :: "_law_folded" :: "_law_formula" :: "_law_any" :: "_law_written" :: "OnesError" :: "BadText" :: "SIDES" :: "GREATEST_INPUT" :: "MOST_PARTS" :: "DEEPEST" :: "MOST_FIGURES" :: []
theorem runF (w : World) : HandSHeadRun.RunEq R (PySem.W.view R.prog [31]) hk ob 6000 loose (w.withFollow "special-get-raises" false) := by
  intro os
  kernel_rfl
theorem runT (w : World) : HandSHeadRun.RunEq R (PySem.W.view R.prog [31]) hk ob 6000 loose (w.withFollow "special-get-raises" true) := by
  intro os
  kernel_rfl
theorem run (w : World) : HandSHeadRun.RunEq R (PySem.W.view R.prog [31]) hk ob 6000 loose w := PySem.W.byRow2 "special-get-raises" (P := fun w => HandSHeadRun.RunEq R (PySem.W.view R.prog [31]) hk ob 6000 loose w) runF runT w
theorem codeAt {K : PySem.W.Frag} {p : He.Defn} : CodeAt K (He.fAd K p) (He.cT K p).1 := fun oc od fd osl lk b e => (He.codeOf_eq lk e).symm
theorem facts {l : PySem.W.OpenLaw} {w : World} {K : PySem.W.Frag} {h : Heap} {mg : Str → Option Value} {f : Addr} (X : K.In h) (G : h.Ns mainGlobals mg) (hfa_ : mg ("law" : Str) = some (.ref f)) (cc : He.SaysX hfa hfn hts htf hex w h K) :
    ∃ (fd : FuncData) (cs : List (Addr × Addr)) (sp : Sp), (∀ q, q ∈ cs → TbAt K h q) ∧ (∀ (s : Shared) (u : Value), BindsTo s fd ⟨[u], []⟩ [("_law_script", u)]) ∧ (∀ (H : Hp) (a : Addr) (ns : List Int), ns.length ≤ 63 → (∀ q, q ∈ cs → H q.2 = some (.tbl #[])) → SqL K H a (ns.map V.int) → sp [.ref a] H (fun v _ => v = .bl true) fun _ _ _ => False) ∧ ∀ base : Heap, K.In base → base.Ns mainGlobals mg → (∀ q, q ∈ cs → GxR.TabB base mg q.1 q.2) → GOk l.prog w K mg base CX0 28 f fd ["_law_script"] sp := by
  have c : He.SaysD hfa hfn K := congrArg (fun z : He.AlT => z.1) cc.t
  obtain ⟨fd_is_number, F_is_number⟩ := c.def_ 0 (d := d_is_number) rfl
  obtain ⟨fd_is_within, F_is_within⟩ := c.def_ 1 (d := d_is_within) rfl
  obtain ⟨fd_is_part, F_is_part⟩ := c.def_ 2 (d := d_is_part) rfl
  obtain ⟨fd_sides_of, F_sides_of⟩ := c.def_ 3 (d := d_sides_of) rfl
  obtain ⟨fd_is_formula, F_is_formula⟩ := c.def_ 4 (d := d_is_formula) rfl
  obtain ⟨fd_part_text, F_part_text⟩ := c.def_ 5 (d := d_part_text) rfl
  obtain ⟨fd_nested_text, F_nested_text⟩ := c.def_ 6 (d := d_nested_text) rfl
  obtain ⟨fd_formula_text, F_formula_text⟩ := c.def_ 7 (d := d_formula_text) rfl
  obtain ⟨fd_number_from, F_number_from⟩ := c.def_ 8 (d := d_number_from) rfl
  obtain ⟨fd_word_from, F_word_from⟩ := c.def_ 9 (d := d_word_from) rfl
  obtain ⟨fd_shaped, F_shaped⟩ := c.def_ 10 (d := d_shaped) rfl
  obtain ⟨fd_nested_from, F_nested_from⟩ := c.def_ 11 (d := d_nested_from) rfl
  obtain ⟨fd_formula_from, F_formula_from⟩ := c.def_ 12 (d := d_formula_from) rfl
  obtain ⟨fd__law_box, F__law_box⟩ := c.def_ 13 (d := d__law_box) rfl
  obtain ⟨fd__law_take, F__law_take⟩ := c.def_ 14 (d := d__law_take) rfl
  obtain ⟨fd__law_folded, F__law_folded⟩ := c.def_ 15 (d := d__law_folded) rfl
  obtain ⟨fd__law_formula, F__law_formula⟩ := c.def_ 16 (d := d__law_formula) rfl
  obtain ⟨fd__law_any, F__law_any⟩ := c.def_ 17 (d := d__law_any) rfl
  obtain ⟨fd__law_written, F__law_written⟩ := c.def_ 18 (d := d__law_written) rfl
  obtain ⟨fd_law, F_law⟩ := c.def_ 19 (d := d_law) rfl
  have e := hfa_.symm.trans (He.glo_ok X G (c.fact 19 (f := .glo "law") rfl))
  cases e
  have b := FunD.bindsA (ps := ["_law_script"]) F_law fun _ _ _ _ _ _ us hl => match us, hl with | [_], _ => rfl
  have hm : Hex K := of_decide_eq_true cc.more
  have h0 := hm
  haveI : DW K w := ⟨cc.t.tab 0 rfl, h0⟩
  let T : Defs K mg := ⟨_, fd_is_number, F_is_number, (He.glo_ok X G (c.fact 0 (f := .glo "is_number") rfl)), (FunD.bindsN F_is_number fun _ _ _ _ _ _ us hl => match us, hl with | [_], _ => rfl), _, fd_is_within, F_is_within, (He.glo_ok X G (c.fact 1 (f := .glo "is_within") rfl)), (FunD.bindsN F_is_within fun _ _ _ _ _ _ us hl => match us, hl with | [_, _, _], _ => rfl), _, fd_is_part, F_is_part, (He.glo_ok X G (c.fact 2 (f := .glo "is_part") rfl)), (FunD.bindsN F_is_part fun _ _ _ _ _ _ us hl => match us, hl with | [_], _ => rfl), _, fd_sides_of, F_sides_of, (He.glo_ok X G (c.fact 3 (f := .glo "sides_of") rfl)), (FunD.bindsN F_sides_of fun _ _ _ _ _ _ us hl => match us, hl with | [_], _ => rfl), _, fd_is_formula, F_is_formula, (He.glo_ok X G (c.fact 4 (f := .glo "is_formula") rfl)), (FunD.bindsN F_is_formula fun _ _ _ _ _ _ us hl => match us, hl with | [_], _ => rfl), _, fd_part_text, F_part_text, (He.glo_ok X G (c.fact 5 (f := .glo "part_text") rfl)), (FunD.bindsN F_part_text fun _ _ _ _ _ _ us hl => match us, hl with | [_], _ => rfl), _, fd_nested_text, F_nested_text, (He.glo_ok X G (c.fact 6 (f := .glo "nested_text") rfl)), (FunD.bindsN F_nested_text fun _ _ _ _ _ _ us hl => match us, hl with | [_], _ => rfl), _, fd_formula_text, F_formula_text, (He.glo_ok X G (c.fact 7 (f := .glo "formula_text") rfl)), (FunD.bindsN F_formula_text fun _ _ _ _ _ _ us hl => match us, hl with | [_], _ => rfl), _, fd_number_from, F_number_from, (He.glo_ok X G (c.fact 8 (f := .glo "number_from") rfl)), (FunD.bindsN F_number_from fun _ _ _ _ _ _ us hl => match us, hl with | [_], _ => rfl), _, fd_word_from, F_word_from, (He.glo_ok X G (c.fact 9 (f := .glo "word_from") rfl)), (FunD.bindsN F_word_from fun _ _ _ _ _ _ us hl => match us, hl with | [_], _ => rfl), _, fd_shaped, F_shaped, (He.glo_ok X G (c.fact 10 (f := .glo "shaped") rfl)), (FunD.bindsN F_shaped fun _ _ _ _ _ _ us hl => match us, hl with | [_], _ => rfl), _, fd_nested_from, F_nested_from, (He.glo_ok X G (c.fact 11 (f := .glo "nested_from") rfl)), (FunD.bindsN F_nested_from fun _ _ _ _ _ _ us hl => match us, hl with | [_], _ => rfl), _, fd_formula_from, F_formula_from, (He.glo_ok X G (c.fact 12 (f := .glo "formula_from") rfl)), (FunD.bindsN F_formula_from fun _ _ _ _ _ _ us hl => match us, hl with | [_], _ => rfl), _, fd__law_box, F__law_box, (He.glo_ok X G (c.fact 13 (f := .glo "_law_box") rfl)), (FunD.bindsN F__law_box fun _ _ _ _ _ _ us hl => match us, hl with | [_, _], _ => rfl), _, fd__law_take, F__law_take, (He.glo_ok X G (c.fact 14 (f := .glo "_law_take") rfl)), (FunD.bindsN F__law_take fun _ _ _ _ _ _ us hl => match us, hl with | [_, _], _ => rfl), _, fd__law_folded, F__law_folded, (He.glo_ok X G (c.fact 15 (f := .glo "_law_folded") rfl)), (FunD.bindsN F__law_folded fun _ _ _ _ _ _ us hl => match us, hl with | [_, _], _ => rfl), _, fd__law_formula, F__law_formula, (He.glo_ok X G (c.fact 16 (f := .glo "_law_formula") rfl)), (FunD.bindsN F__law_formula fun _ _ _ _ _ _ us hl => match us, hl with | [_, _, _, _], _ => rfl), _, fd__law_any, F__law_any, (He.glo_ok X G (c.fact 17 (f := .glo "_law_any") rfl)), (FunD.bindsN F__law_any fun _ _ _ _ _ _ us hl => match us, hl with | [_], _ => rfl), _, fd__law_written, F__law_written, (He.glo_ok X G (c.fact 18 (f := .glo "_law_written") rfl)), (FunD.bindsN F__law_written fun _ _ _ _ _ _ us hl => match us, hl with | [_], _ => rfl), _, fd_law, F_law, (He.glo_ok X G (c.fact 19 (f := .glo "law") rfl)), (FunD.bindsN F_law fun _ _ _ _ _ _ us hl => match us, hl with | [_], _ => rfl), (He.cT K ("nested_text", none)).1, (He.cT K ("nested_text", none)).2, codeAt, _, (He.glo_ok X G (c.fact 34 (f := .glo "SIDES") rfl)), rfl, (He.free_ok X G (c.fact 20 (f := .free "ValueError") rfl)), (He.free_ok X G (c.fact 21 (f := .free "abs") rfl)), (He.free_ok X G (c.fact 22 (f := .free "bool") rfl)), (He.free_ok X G (c.fact 23 (f := .free "divmod") rfl)), (He.free_ok X G (c.fact 24 (f := .free "enumerate") rfl)), (He.free_ok X G (c.fact 25 (f := .free "int") rfl)), (He.free_ok X G (c.fact 26 (f := .free "isinstance") rfl)), (He.free_ok X G (c.fact 27 (f := .free "len") rfl)), (He.free_ok X G (c.fact 28 (f := .free "list") rfl)), (He.free_ok X G (c.fact 29 (f := .free "max") rfl)), (He.free_ok X G (c.fact 30 (f := .free "range") rfl)), (He.free_ok X G (c.fact 31 (f := .free "repr") rfl)), (He.free_ok X G (c.fact 32 (f := .free "str") rfl)), (He.free_ok X G (c.fact 33 (f := .free "tuple") rfl)), (He.int_ok X G (c.fact 35 (f := .int "GREATEST_INPUT" 5) rfl)), (He.int_ok X G (c.fact 36 (f := .int "MOST_PARTS" 24) rfl)), (He.int_ok X G (c.fact 37 (f := .int "DEEPEST" 8) rfl)), (He.int_ok X G (c.fact 38 (f := .int "MOST_FIGURES" 3) rfl))⟩
  refine ⟨fd_law, htf.map (He.cT K), sp_law T, fun p hp => ?_, fun s v => b s [v] rfl, fun H a ns hl hH hS => ⟨a, ns, rfl, hS, hl, ?_, fun _ => rfl⟩, fun base _ _ TB => ok_law T ?_⟩
  · obtain ⟨q, hq, rfl⟩ := List.mem_map.mp hp
    exact ⟨cc.empty q hq, cc.out q hq, PySem.W.codeHd_of_K X (cc.hd q hq)⟩
  · exact ⟨⟨#[], hH _ (List.mem_map.mpr ⟨_, List.mem_cons_self, rfl⟩), trip0⟩, trivial⟩
  · exact ⟨⟨(TB _ (List.mem_map.mpr ⟨_, List.mem_cons_self, rfl⟩)).code, (TB _ (List.mem_map.mpr ⟨_, List.mem_cons_self, rfl⟩)).bm, (TB _ (List.mem_map.mpr ⟨_, List.mem_cons_self, rfl⟩)).gP⟩⟩
end Fq
open PySem PySem.W PySem.Calls PyProof.Rows
set_option maxHeartbeats 0 in
theorem PySem.Challenge.cw_shareones_k56_formulas_written_holds : PySem.Challenge.rw_shareones_k56_formulas_written.Holds := by
  w_on; o_law
  refine HandSHeadRun.head_any (r := OpenLaw.row PySem.Challenge.rw_shareones_k56_formulas_written) (q := view (OpenLaw.row PySem.Challenge.rw_shareones_k56_formulas_written).prog [31]) (H := Fq.hk) (ob := Fq.ob) (M := 6000) (loose := Fq.loose) (d := HandSHeadRun.topDef (OpenLaw.row PySem.Challenge.rw_shareones_k56_formulas_written).prog 31) (kwd := []) Fq.ob_eq
    (by kernel_rfl) (fun s => by kernel_rfl) Fq.run (by kernel_rfl) (by kernel_rfl) (by kernel_rfl) (by rfl) (by first | assumption | decide +kernel) (by decide +kernel) ⟨rfl, rfl, rfl, rfl, rfl, by decide +kernel⟩ ?hw ?hc
  case hw => w_witness2
  case hc =>
    refine Fq.walk_ofGT (l := PySem.Challenge.rw_shareones_k56_formulas_written) (n := 63) (k := 28) (x := "_law_script") rfl (by decide) (by kernel_rfl) ⟨rfl, by decide, by decide⟩ ?F
    intro w mg fa h Y G hmg0
    obtain ⟨K, KX, c⟩ := Y
    have hmg : mg ("law" : PySem.Str) = some (.ref fa) := by
      have e : (HandSHeadRun.topDef (OpenLaw.row PySem.Challenge.rw_shareones_k56_formulas_written).prog 31).name = ("law" : PySem.Str) := by kernel_rfl
      rw [← e]
      exact hmg0
    obtain ⟨fd, cs, sp, a1, a2, a3, a4⟩ := Fq.facts (l := PySem.Challenge.rw_shareones_k56_formulas_written) KX G hmg c
    exact ⟨K, fd, cs, sp, KX, a1, a2, a3, a4⟩
