import PyProof.Rows.All
import Wide.All
import OpenK.AllK
import Wide.FinOn
import KE.KStateDown
import Lean
import HandS.ForMost
import HandS.Wide
import HandS.WideBits
import HandS.IsInst
import HandS.Walk
import HandS.Evl
import HandS.Style
import HandS.NoneIn
import HandS.Defaults
import HandS.Head0
import HandS.Head1
import HandS.Head2
import HandS.HeadEnd
import HandS.HeadHook1
import HandS.HeadHook2
import HandS.AnyAll
import HandS.Conv
import HandS.Dict
import HandS.EndTab
import HandS.Flow
import HandS.HeadHook3
import HandS.HeadHook4
import HandS.HeadWalk
import HandS.More
import HandS.Set
import HandS.SetBool
import HandS.SetFor
import HandS.Small
import HandS.SortInts
import HandS.SortKw
import HandS.Strs
import HandS.Style
import HandS.TupAny
import HandS.TupMul
import HandS.Zip
import KE.DataMinMax
import KE.GoesEnum
import KE.GoesMore
import KE.GoesSet
import KE.GoesZip
import KE.KDictWalk
import KE.KNest
import PyProof.GenCompT
import PyProof.ReprLen
import PyProof.ReprRoads
import PyProof.Rows.MatchSeqLen
import PyProof.RulesMatch
import PyProof.RulesMatchSeq
import PyProof.TupleOfGen
import HandS.Deep
import PySem.Challenge.RW_shareones_k33_formulas_or_not
set_option Elab.async false
set_option pp.maxSteps 250
set_option linter.all false
set_option maxRecDepth 100000
set_option maxHeartbeats 4000000
namespace Fq
open PySem PySem.Spec PyProof.Rows L2
/-! a dict of the program's top, texts to numbers -/
def entI (e : DictEntry) : Option (Str × Int) := match e.key, e.val with
  | .str x _, .int i _ => some (x, i)
  | _, _ => none
def dicB (K : PySem.W.Frag) (a : Addr) (kvs : List (Str × Int)) : Bool := match K.lookup a with
  | some ⟨_, _, .dict es _, _⟩ => decide (es.toList.map entI = kvs.map some)
  | _ => false
def dl_SIDES : List (Str × Int) := [("less", 1), ("both", 2), ("either", 2), ("oneof", 2), ("pick", 3)]
class DW (K : PySem.W.Frag) (w : World) : Prop where
  k_SIDES : ∃ es n, KDict K w (He.ga K "SIDES") es n
  v_SIDES : dicB K (He.ga K "SIDES") dl_SIDES = true
section
variable {P : Program} {w : World} {K : PySem.W.Frag} {mg : Str → Option Value} {base : Heap} [DW K w]
def topS (i : Nat) : Stmt := PySem.Challenge.pw_shareones_k33_formulas_or_not.main.body.getD i (.Pass ⟨0, 0, 0, 0⟩)
abbrev FnP (K : PySem.W.Frag) (x : Str) (st : Stmt) (f : Addr) (fd : FuncData) : Prop := FunD K x x (defArgs st) (defBody st) (defScope st) [] [] f fd
abbrev s_is_number : Stmt := topS 1
abbrev N_is_number : List Str := ["thing"]
theorem sc_is_number : FnScope N_is_number ["thing"] (defScope s_is_number) := ⟨rfl, rfl, rfl, by decide +kernel, rfl, by decide +kernel, by decide +kernel⟩
abbrev s_is_within : Stmt := topS 2
abbrev N_is_within : List Str := ["thing", "least", "greatest"]
theorem sc_is_within : FnScope N_is_within ["thing", "least", "greatest"] (defScope s_is_within) := ⟨rfl, rfl, rfl, by decide +kernel, rfl, by decide +kernel, by decide +kernel⟩
abbrev s_is_part : Stmt := topS 8
abbrev N_is_part : List Str := ["thing"]
theorem sc_is_part : FnScope N_is_part ["thing"] (defScope s_is_part) := ⟨rfl, rfl, rfl, by decide +kernel, rfl, by decide +kernel, by decide +kernel⟩
abbrev s_sides_of : Stmt := topS 9
abbrev N_sides_of : List Str := ["part"]
theorem sc_sides_of : FnScope N_sides_of ["part"] (defScope s_sides_of) := ⟨rfl, rfl, rfl, by decide +kernel, rfl, by decide +kernel, by decide +kernel⟩
abbrev s_is_formula : Stmt := topS 10
abbrev N_is_formula : List Str := ["thing", "waiting", "parts", "part", "depth", "side"]
theorem sc_is_formula : FnScope N_is_formula ["thing"] (defScope s_is_formula) := ⟨rfl, rfl, rfl, by decide +kernel, rfl, by decide +kernel, by decide +kernel⟩
abbrev s__law_box : Stmt := topS 12
abbrev N__law_box : List Str := ["_law_script", "_law_k", "_law_cell"]
theorem sc__law_box : FnScope N__law_box ["_law_script", "_law_k"] (defScope s__law_box) := ⟨rfl, rfl, rfl, by decide +kernel, rfl, by decide +kernel, by decide +kernel⟩
abbrev s__law_take : Stmt := topS 13
abbrev N__law_take : List Str := ["_law_box_here", "_law_many", "_law_found", "_law_once"]
theorem sc__law_take : FnScope N__law_take ["_law_box_here", "_law_many"] (defScope s__law_take) := ⟨rfl, rfl, rfl, by decide +kernel, rfl, by decide +kernel, by decide +kernel⟩
abbrev s__law_folded : Stmt := topS 14
abbrev N__law_folded : List Str := ["_law_script", "_law_many", "_law_cells", "_law_k", "_law_cell"]
theorem sc__law_folded : FnScope N__law_folded ["_law_script", "_law_many"] (defScope s__law_folded) := ⟨rfl, rfl, rfl, by decide +kernel, rfl, by decide +kernel, by decide +kernel⟩
abbrev s__law_formula : Stmt := topS 15
abbrev N__law_formula : List Str := ["_law_box_here", "_law_deep", "_law_many", "_law_wide", "_law_way", "_law_left", "_law_word", "_law_turn"]
theorem sc__law_formula : FnScope N__law_formula ["_law_box_here", "_law_deep", "_law_many", "_law_wide"] (defScope s__law_formula) := ⟨rfl, rfl, rfl, by decide +kernel, rfl, by decide +kernel, by decide +kernel⟩
abbrev s__law_any : Stmt := topS 16
abbrev N__law_any : List Str := ["_law_box_here", "_law_great", "_law_wide"]
theorem sc__law_any : FnScope N__law_any ["_law_box_here"] (defScope s__law_any) := ⟨rfl, rfl, rfl, by decide +kernel, rfl, by decide +kernel, by decide +kernel⟩
abbrev s__law_measure : Stmt := topS 17
abbrev N__law_measure : List Str := ["_law_thing", "_law_sides", "_law_fine", "_law_some", "_law_part", "_law_one"]
theorem sc__law_measure : FnScope N__law_measure ["_law_thing"] (defScope s__law_measure) := ⟨rfl, rfl, rfl, by decide +kernel, rfl, by decide +kernel, by decide +kernel⟩
abbrev s__law_is_right : Stmt := topS 18
abbrev N__law_is_right : List Str := ["_law_thing", "_law_found"]
theorem sc__law_is_right : FnScope N__law_is_right ["_law_thing"] (defScope s__law_is_right) := ⟨rfl, rfl, rfl, by decide +kernel, rfl, by decide +kernel, by decide +kernel⟩
abbrev s__law_odd : Stmt := topS 19
abbrev N__law_odd : List Str := ["_law_box_here", "_law_some"]
theorem sc__law_odd : FnScope N__law_odd ["_law_box_here"] (defScope s__law_odd) := ⟨rfl, rfl, rfl, by decide +kernel, rfl, by decide +kernel, by decide +kernel⟩
abbrev s__law_otherwise : Stmt := topS 20
abbrev N__law_otherwise : List Str := ["_law_box_here", "_law_thing", "_law_way", "_law_odd_here", "_law_at", "_law_sign", "_law_other", "_law_row"]
theorem sc__law_otherwise : FnScope N__law_otherwise ["_law_box_here", "_law_thing"] (defScope s__law_otherwise) := ⟨rfl, rfl, rfl, by decide +kernel, rfl, by decide +kernel, by decide +kernel⟩
abbrev s__law_asked : Stmt := topS 21
abbrev N__law_asked : List Str := ["_law_thing", "_law_kept_text", "_law_found"]
theorem sc__law_asked : FnScope N__law_asked ["_law_thing"] (defScope s__law_asked) := ⟨rfl, rfl, rfl, by decide +kernel, rfl, by decide +kernel, by decide +kernel⟩
abbrev s_law : Stmt := topS 22
abbrev N_law : List Str := ["_law_script", "_law_cells", "_law_k", "_law_box_here", "_law_good", "_law_more", "_law_deep", "_law_turn", "_law_wide", "_law_twice", "_law_thing"]
theorem sc_law : FnScope N_law ["_law_script"] (defScope s_law) := ⟨rfl, rfl, rfl, by decide +kernel, rfl, by decide +kernel, by decide +kernel⟩
theorem pe_globI {X : Cx} {x : Str} {i : Int} {pos : Pos} (hg : Gl X x) (hm : ∃ t, X.mg x = some (.int i t)) (hd : (x == ("__debug__" : Str)) = false := by decide) : PE X (.Name x pos) (tC (.int i)) := by
  obtain ⟨t, h⟩ := hm
  exact pe_glob hg h ⟨_, rfl⟩ hd
structure Defs (K : PySem.W.Frag) (mg : Str → Option Value) where
  f_is_number : Addr
  fd_is_number : FuncData
  F_is_number : FnP K "is_number" s_is_number f_is_number fd_is_number
  g_is_number : mg "is_number" = some (.ref f_is_number)
  b_is_number : Binds K fd_is_number ["thing"] []
  f_is_within : Addr
  fd_is_within : FuncData
  F_is_within : FnP K "is_within" s_is_within f_is_within fd_is_within
  g_is_within : mg "is_within" = some (.ref f_is_within)
  b_is_within : Binds K fd_is_within ["thing", "least", "greatest"] []
  f_is_part : Addr
  fd_is_part : FuncData
  F_is_part : FnP K "is_part" s_is_part f_is_part fd_is_part
  g_is_part : mg "is_part" = some (.ref f_is_part)
  b_is_part : Binds K fd_is_part ["thing"] []
  f_sides_of : Addr
  fd_sides_of : FuncData
  F_sides_of : FnP K "sides_of" s_sides_of f_sides_of fd_sides_of
  g_sides_of : mg "sides_of" = some (.ref f_sides_of)
  b_sides_of : Binds K fd_sides_of ["part"] []
  f_is_formula : Addr
  fd_is_formula : FuncData
  F_is_formula : FnP K "is_formula" s_is_formula f_is_formula fd_is_formula
  g_is_formula : mg "is_formula" = some (.ref f_is_formula)
  b_is_formula : Binds K fd_is_formula ["thing"] []
  f__law_box : Addr
  fd__law_box : FuncData
  F__law_box : FnP K "_law_box" s__law_box f__law_box fd__law_box
  g__law_box : mg "_law_box" = some (.ref f__law_box)
  b__law_box : Binds K fd__law_box ["_law_script", "_law_k"] []
  f__law_take : Addr
  fd__law_take : FuncData
  F__law_take : FnP K "_law_take" s__law_take f__law_take fd__law_take
  g__law_take : mg "_law_take" = some (.ref f__law_take)
  b__law_take : Binds K fd__law_take ["_law_box_here", "_law_many"] []
  f__law_folded : Addr
  fd__law_folded : FuncData
  F__law_folded : FnP K "_law_folded" s__law_folded f__law_folded fd__law_folded
  g__law_folded : mg "_law_folded" = some (.ref f__law_folded)
  b__law_folded : Binds K fd__law_folded ["_law_script", "_law_many"] []
  f__law_formula : Addr
  fd__law_formula : FuncData
  F__law_formula : FnP K "_law_formula" s__law_formula f__law_formula fd__law_formula
  g__law_formula : mg "_law_formula" = some (.ref f__law_formula)
  b__law_formula : Binds K fd__law_formula ["_law_box_here", "_law_deep", "_law_many", "_law_wide"] []
  f__law_any : Addr
  fd__law_any : FuncData
  F__law_any : FnP K "_law_any" s__law_any f__law_any fd__law_any
  g__law_any : mg "_law_any" = some (.ref f__law_any)
  b__law_any : Binds K fd__law_any ["_law_box_here"] []
  f__law_measure : Addr
  fd__law_measure : FuncData
  F__law_measure : FnP K "_law_measure" s__law_measure f__law_measure fd__law_measure
  g__law_measure : mg "_law_measure" = some (.ref f__law_measure)
  b__law_measure : Binds K fd__law_measure ["_law_thing"] []
  f__law_is_right : Addr
  fd__law_is_right : FuncData
  F__law_is_right : FnP K "_law_is_right" s__law_is_right f__law_is_right fd__law_is_right
  g__law_is_right : mg "_law_is_right" = some (.ref f__law_is_right)
  b__law_is_right : Binds K fd__law_is_right ["_law_thing"] []
  f__law_odd : Addr
  fd__law_odd : FuncData
  F__law_odd : FnP K "_law_odd" s__law_odd f__law_odd fd__law_odd
  g__law_odd : mg "_law_odd" = some (.ref f__law_odd)
  b__law_odd : Binds K fd__law_odd ["_law_box_here"] []
  f__law_otherwise : Addr
  fd__law_otherwise : FuncData
  F__law_otherwise : FnP K "_law_otherwise" s__law_otherwise f__law_otherwise fd__law_otherwise
  g__law_otherwise : mg "_law_otherwise" = some (.ref f__law_otherwise)
  b__law_otherwise : Binds K fd__law_otherwise ["_law_box_here", "_law_thing"] []
  f__law_asked : Addr
  fd__law_asked : FuncData
  F__law_asked : FnP K "_law_asked" s__law_asked f__law_asked fd__law_asked
  g__law_asked : mg "_law_asked" = some (.ref f__law_asked)
  b__law_asked : Binds K fd__law_asked ["_law_thing"] []
  f_law : Addr
  fd_law : FuncData
  F_law : FnP K "law" s_law f_law fd_law
  g_law : mg "law" = some (.ref f_law)
  b_law : Binds K fd_law ["_law_script"] []
  C_SIDES : Addr
  g_SIDES : mg "SIDES" = some (.ref C_SIDES)
  e_SIDES : C_SIDES = He.ga K "SIDES"
  m_abs : mg "abs" = none
  m_bool : mg "bool" = none
  m_divmod : mg "divmod" = none
  m_enumerate : mg "enumerate" = none
  m_int : mg "int" = none
  m_isinstance : mg "isinstance" = none
  m_len : mg "len" = none
  m_list : mg "list" = none
  m_max : mg "max" = none
  m_range : mg "range" = none
  m_repr : mg "repr" = none
  m_str : mg "str" = none
  m_sum : mg "sum" = none
  m_tuple : mg "tuple" = none
  i_GREATEST_INPUT : ∃ t, mg "GREATEST_INPUT" = some (.int 5 t)
  i_MOST_PARTS : ∃ t, mg "MOST_PARTS" = some (.int 24 t)
  i_DEEPEST : ∃ t, mg "DEEPEST" = some (.int 8 t)
theorem bt_abs : bootBuiltins "abs" = some (.builtin "abs") := by decide +kernel
theorem bt_bool : bootBuiltins "bool" = some (.type "bool") := by decide +kernel
theorem bt_divmod : bootBuiltins "divmod" = some (.builtin "divmod") := by decide +kernel
theorem bt_enumerate : bootBuiltins "enumerate" = some (.type "enumerate") := by decide +kernel
theorem bt_int : bootBuiltins "int" = some (.type "int") := by decide +kernel
theorem bt_isinstance : bootBuiltins "isinstance" = some (.builtin "isinstance") := by decide +kernel
theorem bt_len : bootBuiltins "len" = some (.builtin "len") := by decide +kernel
theorem bt_list : bootBuiltins "list" = some (.type "list") := by decide +kernel
theorem bt_max : bootBuiltins "max" = some (.builtin "max") := by decide +kernel
theorem bt_range : bootBuiltins "range" = some (.type "range") := by decide +kernel
theorem bt_repr : bootBuiltins "repr" = some (.builtin "repr") := by decide +kernel
theorem bt_str : bootBuiltins "str" = some (.type "str") := by decide +kernel
theorem bt_sum : bootBuiltins "sum" = some (.builtin "sum") := by decide +kernel
theorem bt_tuple : bootBuiltins "tuple" = some (.type "tuple") := by decide +kernel
def frT (t b : Int) : Int := (b.sign * t) / (Int.gcd t b : Int)
def frB (t b : Int) : Int := (b.natAbs : Int) / (Int.gcd t b : Int)
theorem fr_ex (t : Int) {b : Int} (hb : b ≠ 0) : ∃ (g : Nat) (x y : Int), 0 < g ∧ Int.gcd t b = g ∧ t = (g : Int) * x ∧ b = (g : Int) * y ∧ y ≠ 0 ∧ Int.gcd x y = 1 := by
  have hg : 0 < Int.gcd t b := Int.gcd_pos_of_ne_zero_right t hb
  obtain ⟨x, hx⟩ := Int.gcd_dvd_left t b
  obtain ⟨y, hy⟩ := Int.gcd_dvd_right t b
  refine ⟨Int.gcd t b, x, y, hg, rfl, hx, hy, fun e => hb (by rw [hy, e, Int.mul_zero]), ?_⟩
  generalize eg : Int.gcd t b = g at hg hx hy
  have e : g = g * Int.gcd x y := by
    rw [← eg]
    conv => lhs; rw [hx, hy, Int.gcd_mul_left]
    rw [Int.natAbs_natCast, eg]
  exact Nat.eq_of_mul_eq_mul_left hg (by rw [← e, Nat.mul_one])
theorem sgn {b : Int} {g : Nat} {y : Int} (hg : 0 < g) (hb : b = (g : Int) * y) : b.sign = y.sign := by
  rw [hb, Int.sign_mul, Int.sign_eq_one_of_pos (by omega), Int.one_mul]
theorem fr_vals {t b : Int} {g : Nat} {x y : Int} (hg : 0 < g) (eg : Int.gcd t b = g) (ht : t = (g : Int) * x) (hb : b = (g : Int) * y) : frT t b = y.sign * x ∧ frB t b = (y.natAbs : Int) := by
  have g0 : (g : Int) ≠ 0 := by omega
  constructor
  · unfold frT
    rw [eg, sgn hg hb, ht, show y.sign * ((g : Int) * x) = (g : Int) * (y.sign * x) by rw [Int.mul_left_comm]]
    exact Int.mul_ediv_cancel_left _ g0
  · unfold frB
    rw [eg, hb, Int.natAbs_mul, Int.natAbs_natCast, Int.natCast_mul]
    exact Int.mul_ediv_cancel_left _ g0
theorem sgn_abs {y : Int} (hy : y ≠ 0) : y.sign.natAbs = 1 := Int.natAbs_sign_of_ne_zero hy
theorem fr_pos (t : Int) {b : Int} (hb : b ≠ 0) : 0 < frB t b := by
  obtain ⟨g, x, y, hg, eg, ht, hy, hy0, h1⟩ := fr_ex t hb
  rw [(fr_vals hg eg ht hy).2]
  omega
theorem fr_gcd (t : Int) {b : Int} (hb : b ≠ 0) : Int.gcd (frT t b) (frB t b) = 1 := by
  obtain ⟨g, x, y, hg, eg, ht, hy, hy0, h1⟩ := fr_ex t hb
  rw [(fr_vals hg eg ht hy).1, (fr_vals hg eg ht hy).2]
  show Nat.gcd (y.sign * x).natAbs ((y.natAbs : Int)).natAbs = 1
  rw [Int.natAbs_mul, sgn_abs hy0, Nat.one_mul, Int.natAbs_natCast]
  exact h1
theorem fr_eq (t : Int) {b : Int} (hb : b ≠ 0) : frT t b * b = t * frB t b := by
  obtain ⟨g, x, y, hg, eg, ht, hy, hy0, h1⟩ := fr_ex t hb
  rw [(fr_vals hg eg ht hy).1, (fr_vals hg eg ht hy).2]
  rw [ht, hy]
  have e : y * y.sign = (y.natAbs : Int) := Int.mul_sign_self y
  rw [← e]
  simp only [Int.mul_comm, Int.mul_left_comm, Int.mul_assoc]
theorem fr_absT (t : Int) {b : Int} (hb : b ≠ 0) : (frT t b).natAbs ≤ t.natAbs := by
  obtain ⟨g, x, y, hg, eg, ht, hy, hy0, h1⟩ := fr_ex t hb
  rw [(fr_vals hg eg ht hy).1, ht, Int.natAbs_mul, sgn_abs hy0, Nat.one_mul, Int.natAbs_mul, Int.natAbs_natCast]
  exact Nat.le_mul_of_pos_left _ hg
theorem fr_absB (t : Int) {b : Int} (hb : b ≠ 0) : (frB t b).natAbs ≤ b.natAbs := by
  obtain ⟨g, x, y, hg, eg, ht, hy, hy0, h1⟩ := fr_ex t hb
  rw [(fr_vals hg eg ht hy).2, hy, Int.natAbs_mul, Int.natAbs_natCast, Int.natAbs_natCast]
  exact Nat.le_mul_of_pos_left _ hg
theorem fr_negT (t b : Int) : frT (-t) (-b) = frT t b := by
  unfold frT
  rw [Int.sign_neg, Int.neg_mul_neg, Int.gcd_neg, Int.neg_gcd]
theorem fr_negB (t b : Int) : frB (-t) (-b) = frB t b := by
  unfold frB
  rw [Int.natAbs_neg, Int.gcd_neg, Int.neg_gcd]
/-- what the program's two ways reckon -/
theorem fd_pos {g : Nat} {x : Int} (hg : 0 < g) : ((g : Int) * x).fdiv (g : Int) = x := by
  rw [Int.fdiv_eq_ediv_of_nonneg _ (by omega)]
  exact Int.mul_ediv_cancel_left _ (by omega)
theorem fd_neg {g : Nat} {x : Int} (hg : 0 < g) : ((g : Int) * x).fdiv (-(g : Int)) = -x := by
  rw [show (g : Int) * x = -(g : Int) * (-x) by rw [Int.neg_mul_neg]]
  exact Int.mul_fdiv_cancel_left _ (by omega)
theorem fr_lt (t : Int) {b : Int} (hb : b < 0) : t.fdiv (-(Int.gcd t b : Int)) = frT t b ∧ b.fdiv (-(Int.gcd t b : Int)) = frB t b := by
  obtain ⟨g, x, y, hg, eg, ht, hy, hy0, h1⟩ := fr_ex t (show b ≠ 0 by omega)
  rw [(fr_vals hg eg ht hy).1, (fr_vals hg eg ht hy).2, eg]
  have yn : y < 0 := by
    rw [hy] at hb
    exact Int.neg_of_mul_neg_right hb (by omega)
  constructor
  · conv => lhs; rw [ht]
    rw [fd_neg hg, Int.sign_eq_neg_one_of_neg yn]
    omega
  · conv => lhs; rw [hy]
    rw [fd_neg hg]
    omega
theorem fr_ge (t : Int) {b : Int} (hb : 0 < b) : t.fdiv (Int.gcd t b : Int) = frT t b ∧ b.fdiv (Int.gcd t b : Int) = frB t b := by
  obtain ⟨g, x, y, hg, eg, ht, hy, hy0, h1⟩ := fr_ex t (show b ≠ 0 by omega)
  rw [(fr_vals hg eg ht hy).1, (fr_vals hg eg ht hy).2, eg]
  have yn : 0 < y := by
    rw [hy] at hb
    exact Int.pos_of_mul_pos_right hb (by omega)
  constructor
  · conv => lhs; rw [ht]
    rw [fd_pos hg, Int.sign_eq_one_of_pos yn]
    omega
  · conv => lhs; rw [hy]
    rw [fd_pos hg]
    omega
/-! sizes -/
def S (n : Nat) (x : Int) : Prop := x.natAbs < 2 ^ n
theorem S.mono {n m : Nat} {x : Int} (h : S n x) (l : n ≤ m) : S m x := Nat.lt_of_lt_of_le h (Nat.pow_le_pow_right (by decide) l)
theorem S.mul {n m : Nat} {x y : Int} (h : S n x) (k : S m y) : S (n + m) (x * y) := by
  unfold S at *
  rw [Int.natAbs_mul, Nat.pow_add]
  exact Nat.mul_lt_mul'' h k
theorem S.add {n : Nat} {x y : Int} (h : S n x) (k : S n y) : S (n + 1) (x + y) := by
  unfold S at *
  rw [Nat.pow_succ]
  omega
theorem S.sub {n : Nat} {x y : Int} (h : S n x) (k : S n y) : S (n + 1) (x - y) := by
  unfold S at *
  rw [Nat.pow_succ]
  omega
theorem S.frT {n : Nat} {t b : Int} (h : S n t) (hb : b ≠ 0) : S n (frT t b) := Nat.lt_of_le_of_lt (fr_absT t hb) h
theorem S.frB {n : Nat} {t b : Int} (h : S n b) (hb : b ≠ 0) : S n (frB t b) := Nat.lt_of_le_of_lt (fr_absB t hb) h
theorem abs_eq (i : Int) : (if i < 0 then -i else i) = (i.natAbs : Int) := by
  split <;> omega
/-! the same rules with the written part by its name: for the inside of comprehensions -/
theorem pg_tupK {X : Cx} {K : PySem.W.Frag} {es : List Expr} {k n : Nat} {pos : Pos} {t : TGs} (h : X.K = K) (hc : X.calm = true) (hg : PGs X es t) (hn : (assignEach es X.env).length = n := by rfl) (hst : (assignEach es X.env).findIdx? (·.1) = none := by rfl) : PG X (.Tuple es k pos) (gTup K n t) := by
  subst h
  exact pg_tup hc hg hn hst
theorem isiK {X : Cx} {K : PySem.W.Frag} (h : X.K = K) : CallR X (.builtin "isinstance") (rIsi K) := by
  subst h
  exact call_isi
theorem ixlK {X : Cx} {K : PySem.W.Frag} (h : X.K = K) : IxR X (rIxL K) := by
  subst h
  exact ix_list
theorem ixtK {X : Cx} {K : PySem.W.Frag} (h : X.K = K) : IxR X (rIxT K) := by
  subst h
  exact ix_tup
theorem lenK {X : Cx} {K : PySem.W.Frag} (h : X.K = K) : CallR X (.builtin "len") (fun xs H Q => ∃ p ys, xs = [.ref p] ∧ (SqL K H p ys ∨ SqT K H p ys) ∧ Q (.int ys.length) H) := by
  subst h
  exact call_len_seq
theorem sumK {X : Cx} {K : PySem.W.Frag} (h : X.K = K) (hc : X.calm = true) : CallR X (.builtin "sum") (rSum K) := by
  subst h
  exact cr_sum hc
theorem yes_ite {σ : L2.St} {H : Hp} {A B : Hp → Prop} (h : A H) : tYes σ H (fun b H3 => if b = true then A H3 else B H3) := by
  show if true = true then A H else B H
  rw [if_pos rfl]
  exact h
/-! heaps -/
theorem same_upd {H : Hp} {p : Addr} {o : HO} (h : H p = none) : Same H (upd H p o) := fun b x e => by
  rw [upd_ne (ne_of_none e h)]
  exact e
def But (p : Addr) (H H' : Hp) : Prop := ∀ b o, b ≠ p → H b = some o → H' b = some o
theorem But.trans {p : Addr} {H H1 H2 : Hp} (a : But p H H1) (b : But p H1 H2) : But p H H2 := fun c o n e => b c o n (a c o n e)
theorem But.refl (p : Addr) (H : Hp) : But p H H := fun _ _ _ e => e
theorem But.put {p : Addr} {H H' : Hp} {o : HO} (a : But p H H') : But p H (L2.upd H' p o) := fun c x n e => by
  rw [upd_ne n]
  exact a c x n e
theorem same_but {p : Addr} {H H' : Hp} (a : Same H H') : But p H H' := fun c x _ e => a c x e
theorem But.new {p q : Addr} {H H' : Hp} {o : HO} (a : But p H H') (n : H' q = none) : But p H (upd H' q o) := fun c x hn e => by
  have e2 := a c x hn e
  rw [upd_ne (ne_of_none e2 n)]
  exact e2
/-- objects made since H may change: what H has stays -/
theorem same_newer {H H' : Hp} {q : Addr} {o : HO} (a : Same H H') (n : H q = none) : Same H (upd H' q o) := fun c x e => by
  rw [upd_ne (ne_of_none e n)]
  exact a c x e
theorem But.same {p : Addr} {H H1 H2 : Hp} (n : H p = none) (a : Same H H1) (b : But p H1 H2) : Same H H2 := fun c x e =>
  b c x (ne_of_none e n) (a c x e)
/-- the box: a rest, a begin, how often -/
def Bx (H : Hp) (p : Addr) (n : Nat) : Prop := ∃ a b c : Int, H p = some (.lst [.int a, .int b, .int c]) ∧ 0 ≤ a ∧ 0 ≤ b ∧ b < 2147483647 ∧ 0 ≤ c ∧ c ≤ n
theorem Bx.same {H H' : Hp} {p : Addr} {n : Nat} (h : Bx H p n) (s : Same H H') : Bx H' p n := by
  obtain ⟨a, b, c, hp, r⟩ := h
  exact ⟨a, b, c, s _ _ hp, r⟩
theorem Bx.mono {H : Hp} {p : Addr} {n m : Nat} (h : Bx H p n) (l : n ≤ m) : Bx H p m := by
  obtain ⟨a, b, c, hp, h1, h2, h3, h4, h5⟩ := h
  exact ⟨a, b, c, hp, h1, h2, h3, h4, by omega⟩
theorem Bx.new {H : Hp} {p q : Addr} {n : Nat} {o : HO} (h : Bx H p n) (nq : H q = none) : Bx (L2.upd H q o) p n := h.same (same_upd nq)
theorem Bx.ne_tup {H : Hp} {p q : Addr} {n : Nat} {xs : List V} (h : Bx H p n) (e : H q = some (.tup xs)) : q ≠ p := by
  obtain ⟨a, b, c, hp, _⟩ := h
  exact ne_of e hp (fun z => by cases z)
/-- an item of a menu of numbers -/
theorem at_menu {Pr : Int → Prop} {xs : List Int} {r : Int} (h0 : 0 ≤ r) (h1 : r < xs.length) (hx : ∀ x, x ∈ xs → Pr x) : ∃ v, atI (xs.map V.int) r = some (V.int v) ∧ Pr v := by
  obtain ⟨j, rfl⟩ := Int.eq_ofNat_of_zero_le h0
  have hj : j < xs.length := by omega
  refine ⟨xs[j], atI_nat (by rw [List.getElem?_map, List.getElem?_eq_getElem hj]; rfl), hx _ (List.getElem_mem hj)⟩
theorem SqL.mk {K : PySem.W.Frag} {H : Hp} {a : Addr} {xs : List V} (h : H a = some (.lst xs)) : SqL K H a xs := .inl (.inl h)
theorem SqT.mk {K : PySem.W.Frag} {H : Hp} {a : Addr} {xs : List V} (h : H a = some (.tup xs)) : SqT K H a xs := .inl (.inl h)
theorem same_tup {K : PySem.W.Frag} {H H' : Hp} {a : Addr} {xs : List V} (e : Same H H') (h : SqT K H a xs) : SqT K H' a xs := by
  rcases h with (h | ⟨o, h⟩) | h
  · exact .inl (.inl (e _ _ h))
  · exact .inl (.inr ⟨o, e _ _ h⟩)
  · exact .inr h
theorem ixn {n j : Nat} (hj : j < n) : ixN n (j : Int) = some j := by
  unfold ixN
  rw [if_pos (by omega), if_pos (by omega)]
  simp
theorem cdivP {a m : Int} (h0 : 0 < m) (h1 : m < 2 ^ 60) : CDivP a m := ⟨h0, PyProof.noPylong_of_log2 (wide_div (i := a) (b := 60) h0 (by omega) (by decide) (by decide)).2⟩
theorem i01 {c : Prop} [Decidable c] : -(2 ^ 64) < (if c then (1 : Int) else 0) ∧ (if c then (1 : Int) else 0) < 2 ^ 64 := by
  split <;> decide
theorem i01n {c : Prop} [Decidable c] : 0 ≤ (if c then (1 : Int) else 0) := by
  split <;> decide
theorem absn (i : Int) : 0 ≤ (if i < 0 then -i else i) := by
  split <;> omega
/-! the box of a cell -/
def sp__law_box (K : PySem.W.Frag) : Sp := fun vs H Q _ => ∃ (a : Addr) (ns : List Int) (k : Nat), vs = [.ref a, .int (k : Nat)] ∧ SqL K H a (ns.map V.int) ∧ k < 1000 ∧
  ∀ H' p, Same H H' → H p = none → Bx H' p 0 → Q (.ref p) H'
theorem ok__law_box (T : Defs K mg) : FnOk P w K mg base CX0 1 T.f__law_box T.fd__law_box ["_law_script", "_law_k"] (sp__law_box K) := by
  refine T.F__law_box.ok sc__law_box (fun vs H Q E h => ?_) (fun cdv A outer s H vs Q E hr h => ?_)
  · obtain ⟨a, ns, k, rfl, hS, hk, q⟩ := h
    rfl
  · obtain ⟨a, ns, k, rfl, hS, hk, q⟩ := h
    refine ⟨_, PSs.nox (pss_cons (ps_set (i := 2) sc__law_box.nd rfl (.inl rfl) pe_int)
    (pss_cons (ps_if (pt_cmpR op_lt (pv 1) (pe_callB call_len_seq (by rfl) T.m_len bt_len (pa_cons (pv 0) pa_nil)) (nomark _)) (pss_one (ps_set (i := 2) sc__law_box.nd rfl (.inl rfl) (pe_ix ix_list (pv 0) (pv 1) (fun _ _ => rfl)))) pss_nil)
    (pss_one (ps_ret (pe_lst (pa_cons (pe_op op_mul (pe_callB call_abs (by rfl) T.m_abs bt_abs (pa_cons (pv 2) pa_nil)) (pe_callTy call_int1 (by rfl) T.m_int bt_int (pa_cons (pe_cmpR op_ge (pe_callB call_abs (by rfl) T.m_abs bt_abs (pa_cons (pv 2) pa_nil)) (pe_op op_pow pe_int pe_int) (nomark _)) pa_nil))) (pa_cons (pe_op op_mod (pe_op op_add (pv 2) (pe_op op_mul (pe_op op_mul pe_int (pv 1)) (pv 1))) pe_int) (pa_cons pe_int pa_nil)))))))), ?_⟩
    refine ⟨.int k, rfl, .ref a, rfl, a, _, rfl, .inl hS, _, _, rfl, rfl, _, rfl, ite2 (fun e => ?_) (fun e => ?_)⟩
    · have hl : (k : Int) < ((ns.map V.int).length : Nat) := of_decide_eq_true e
      rw [List.length_map] at hl
      have hj : k < ns.length := by omega
      refine ⟨.ref a, rfl, .int k, rfl, a, _, _, .int ns[k], rfl, rfl, hS, atI_nat (by rw [List.getElem?_map, List.getElem?_eq_getElem hj]; rfl), ?_⟩
      refine ⟨_, rfl, _, rfl, _, rfl, _, rfl, _, _, rfl, rfl, ⟨by decide, by decide, by decide⟩, _, _, rfl, rfl, .inr ⟨_, rfl, _, _, rfl, rfl, .inr i01, _, rfl, .int k, rfl, _, _, rfl, rfl, .inl ⟨by decide, by decide⟩, .int k, rfl, _, _, rfl, rfl, .inr ⟨by omega, by omega⟩, _, _, rfl, rfl, _, _, rfl, rfl, (show (0 : Int) < 2147483647 by decide), (show 3 ≤ sizeLine by decide), fun p np => ?_⟩⟩
      refine q _ p (same_upd np) np ⟨_, _, _, upd_same, ?_, Int.emod_nonneg _ (by decide), Int.emod_lt_of_pos _ (by decide), Int.le_refl 0, Int.le_refl 0⟩
      exact Int.mul_nonneg (absn _) i01n
    · refine ⟨_, rfl, _, rfl, _, rfl, _, rfl, _, _, rfl, rfl, ⟨by decide, by decide, by decide⟩, _, _, rfl, rfl, .inr ⟨_, rfl, _, _, rfl, rfl, .inr i01, _, rfl, .int k, rfl, _, _, rfl, rfl, .inl ⟨by decide, by decide⟩, .int k, rfl, _, _, rfl, rfl, .inr ⟨by omega, by omega⟩, _, _, rfl, rfl, _, _, rfl, rfl, (show (0 : Int) < 2147483647 by decide), (show 3 ≤ sizeLine by decide), fun p np => ?_⟩⟩
      refine q _ p (same_upd np) np ⟨_, _, _, upd_same, ?_, Int.emod_nonneg _ (by decide), Int.emod_lt_of_pos _ (by decide), Int.le_refl 0, Int.le_refl 0⟩
      exact Int.mul_nonneg (absn _) i01n
/-! one number taken -/
def sp__law_take (K : PySem.W.Frag) : Sp := fun vs H Q _ => ∃ (p : Addr) (m : Int) (n : Nat), vs = [.ref p, .int m] ∧ Bx H p n ∧ 0 < m ∧ m < 2 ^ 60 ∧ n < 1000000000000 ∧
  ∀ H' r, But p H H' → Bx H' p (n + 1) → 0 ≤ r → r < m → Q (.int r) H'
theorem ok__law_take (T : Defs K mg) : FnOk P w K mg base CX0 1 T.f__law_take T.fd__law_take ["_law_box_here", "_law_many"] (sp__law_take K) := by
  refine T.F__law_take.ok sc__law_take (fun vs H Q E h => ?_) (fun cdv A outer s H vs Q E hr h => ?_)
  · obtain ⟨p, m, n, rfl, ⟨a, b, c, hp, ha, hb, hb2, hc, hc2⟩, h0, h1, hn, q⟩ := h
    rfl
  · obtain ⟨p, m, n, rfl, ⟨a, b, c, hp, ha, hb, hb2, hc, hc2⟩, h0, h1, hn, q⟩ := h
    refine ⟨_, PSs.nox (pss_cons (ps_if (pt_cmpR op_gt (pe_ix ix_list (pv 0) pe_int (fun _ _ => rfl)) pe_int (nomark _)) (pss_cons (ps_asg (pe_callB call_divmodW (by rfl) T.m_divmod bt_divmod (pa_cons (pe_ix ix_list (pv 0) pe_int (fun _ _ => rfl)) (pa_cons (pv 1) pa_nil))) (pg_tup rfl (pgs_cons (pg_sub (pv 0) pe_int set_list) (pgs_cons (pg_name (i := 2) sc__law_take.nd rfl (.inl rfl)) pgs_nil))))
    (pss_one (ps_ret (pv 2)))) pss_nil)
    (pss_cons (ps_asg (pe_op op_add (pe_ix ix_list (pv 0) pe_int (fun _ _ => rfl)) pe_int) (pg_sub (pv 0) pe_int set_list))
    (pss_cons (ps_set (i := 3) sc__law_take.nd rfl (.inl rfl) (pe_op op_mod (pe_op op_pow (pe_op op_add (pe_ix ix_list (pv 0) pe_int (fun _ _ => rfl)) (pe_op op_mul pe_int (pe_ix ix_list (pv 0) pe_int (fun _ _ => rfl)))) pe_int) pe_int))
    (pss_one (ps_ret (pe_op op_mod (pe_op op_fdiv (pe_op op_mod (pe_op op_add (pe_op op_mul (pv 3) pe_int) (pe_op op_mul (pe_op op_mul (pe_ix ix_list (pv 0) pe_int (fun _ _ => rfl)) (pe_ix ix_list (pv 0) pe_int (fun _ _ => rfl))) pe_int)) pe_int) pe_int) (pv 1))))))), ?_⟩
    have SQ : SqL K H p [.int a, .int b, .int c] := SqL.mk hp
    refine ⟨.ref p, rfl, p, _, 0, _, rfl, rfl, SQ, atI_nat (j := 0) rfl, _, _, rfl, rfl, _, rfl, ite2 (fun e => ?_) (fun e => ?_)⟩
    · refine ⟨.ref p, rfl, p, _, 0, _, rfl, rfl, SQ, atI_nat (j := 0) rfl, .int m, rfl, a, m, rfl, cdivP h0 h1, fun t nt => ?_⟩
      have hp1 : (upd H t (.tup [.int (a / m), .int (a % m)])) p = some (.lst [.int a, .int b, .int c]) := by
        rw [upd_ne (ne_of_none hp nt)]
        exact hp
      refine ⟨t, _, rfl, SqT.mk upd_same, rfl, _, _, rfl, .ref p, rfl, p, _, 0, 0, rfl, rfl, hp1, rfl, _, _, rfl, rfl, _, rfl, ?_⟩
      refine q _ _ ((But.refl p H).new nt).put ⟨_, _, _, upd_same, Int.ediv_nonneg ha (by omega), hb, hb2, hc, by omega⟩ (Int.emod_nonneg _ (by omega)) (Int.emod_lt_of_pos _ h0)
    · refine ⟨.ref p, rfl, p, _, 2, _, rfl, rfl, SQ, atI_nat (j := 2) rfl, _, _, rfl, rfl, .ref p, rfl, p, _, 2, 2, rfl, rfl, hp, rfl, ?_⟩
      have SQ1 : SqL K (upd H p (.lst [.int a, .int b, .int (c + 1)])) p [.int a, .int b, .int (c + 1)] := SqL.mk upd_same
      refine ⟨.ref p, rfl, p, _, 1, _, rfl, rfl, SQ1, atI_nat (j := 1) rfl, .ref p, rfl, p, _, 2, _, rfl, rfl, SQ1, atI_nat (j := 2) rfl, _, _, rfl, rfl, .inl ⟨by decide, by decide⟩, _, _, rfl, rfl, _, _, rfl, rfl, ⟨by decide, by decide, by omega⟩, _, _, rfl, rfl, (show (0 : Int) < 2147483647 by decide), ?_⟩
      refine ⟨_, rfl, _, _, rfl, rfl, .inr ⟨by decide, by decide⟩, .ref p, rfl, p, _, 2, _, rfl, rfl, SQ1, atI_nat (j := 2) rfl, .ref p, rfl, p, _, 2, _, rfl, rfl, SQ1, atI_nat (j := 2) rfl, _, _, rfl, rfl, .inl ⟨by omega, by omega⟩, _, _, rfl, rfl, .inr ⟨by decide, by decide⟩, _, _, rfl, rfl, _, _, rfl, rfl, (show (0 : Int) < 2147483629 by decide), _, _, rfl, rfl, ⟨by decide, by decide⟩, .int m, rfl, _, _, rfl, rfl, h0, ?_⟩
      refine q _ _ (But.refl p H).put ⟨_, _, _, upd_same, ha, hb, hb2, by omega, by omega⟩ (Int.emod_nonneg _ (by omega)) (Int.emod_lt_of_pos _ h0)
/-! the folded cells -/
theorem cut_take (ns : List Int) (m : Nat) : cutV (ns.map V.int) none (some (m : Int)) = (ns.take m).map V.int := by
  unfold cutV
  rw [HT.sIx_none, HT.sIx_nat, List.drop_zero, List.length_map, Nat.sub_zero, ← List.map_take]
  congr 1
  by_cases h : m ≤ ns.length
  · rw [Nat.min_eq_left h]
  · rw [Nat.min_eq_right (by omega), List.take_length, List.take_of_length_le (by omega)]
theorem cut_rest (ns : List Int) (m k : Nat) : ∃ ms : List Int, cutV (ns.map V.int) (some (m : Int)) (some (k : Int)) = ms.map V.int ∧ (0 < ms.length → m < ns.length) ∧ ms.length ≤ ns.length := by
  unfold cutV
  rw [HT.sIx_nat, HT.sIx_nat, List.length_map]
  refine ⟨(ns.drop (min m ns.length)).take (min k ns.length - min m ns.length), ?_, fun h => ?_, ?_⟩
  · rw [List.map_take, List.map_drop]
  · rw [List.length_take, List.length_drop] at h
    omega
  · rw [List.length_take, List.length_drop]
    omega
theorem cut_fr2 (ns : List Int) (m : Nat) : ∃ ms : List Int, cutV (ns.map V.int) (some (m : Int)) none = ms.map V.int ∧ ms.length ≤ ns.length := by
  unfold cutV
  rw [HT.sIx_none, HT.sIx_nat, List.length_map]
  refine ⟨(ns.drop (min m ns.length)).take (ns.length - min m ns.length), ?_, ?_⟩
  · rw [List.map_take, List.map_drop]
  · rw [List.length_take, List.length_drop]
    omega
def sp__law_folded (K : PySem.W.Frag) : Sp := fun vs H Q _ => ∃ (a : Addr) (ns : List Int) (m : Nat), vs = [.ref a, .int (m : Nat)] ∧ SqL K H a (ns.map V.int) ∧ ns.length ≤ 63 ∧ 0 < m ∧ m < 64 ∧
  ∀ H' p (cs : List Int), Same H H' → H p = none → H' p = some (.lst (cs.map V.int)) → cs.length ≤ m + 2 → Q (.ref p) H'
theorem ok__law_folded (T : Defs K mg) : FnOk P w K mg base CX0 1 T.f__law_folded T.fd__law_folded ["_law_script", "_law_many"] (sp__law_folded K) := by
  refine T.F__law_folded.ok sc__law_folded (fun vs H Q E h => ?_) (fun cdv A outer s H vs Q E hr h => ?_)
  · obtain ⟨a, ns, m, rfl, hS, hlen, hm, hm2, q⟩ := h
    rfl
  · obtain ⟨a, ns, m, rfl, hS, hlen, hm, hm2, q⟩ := h
    refine ⟨_, PSs.nox (pss_cons (ps_set (i := 2) sc__law_folded.nd rfl (.inl rfl) (pe_callTy call_list_of (by rfl) T.m_list bt_list (pa_cons (pe_slice sl_list (pv 0) po_none (po_some (pv 1))) pa_nil)))
    (pss_cons ((ps_for PassesOwn.never rfl (pi_enum (by rfl) T.m_enumerate (pa_cons (pe_slice sl_list (pv 0) (po_some (pv 1)) (po_some pe_int)) pa_nil)) (pg_tup rfl (pgs_cons (pg_name (i := 3) sc__law_folded.nd rfl (.inl rfl)) (pgs_cons (pg_name (i := 4) sc__law_folded.nd rfl (.inl rfl)) pgs_nil))) (pss_one (ps_asg (pe_op op_add (pe_ix ix_list (pv 2) (pe_op op_mod (pv 3) (pv 1)) (fun _ _ => rfl)) (pe_op op_mul (pv 4) (pe_op op_add (pv 3) pe_int))) (pg_sub (pv 2) (pe_op op_mod (pv 3) (pv 1)) set_list)))))
    (pss_one (ps_ret (pe_op op_cat (pv 2) (pe_slice sl_list (pe_lst (pa_cons pe_int (pa_cons pe_int pa_nil))) (po_some (pe_callB call_len_seq (by rfl) T.m_len bt_len (pa_cons (pv 2) pa_nil))) po_none)))))), ?_⟩
    refine ⟨.ref a, rfl, .int m, rfl, m, rfl, a, _, rfl, hS, fun c nc => ?_⟩
    rw [cut_take]
    have s1 : Same H (upd H c (.lst ((ns.take m).map V.int))) := same_upd nc
    refine ⟨c, _, rfl, .inl (SqL.mk upd_same), fun l nl => ?_⟩
    have s2 := s1.trans (same_upd nl (o := .lst ((ns.take m).map V.int)))
    refine ⟨.ref a, rfl, .int m, rfl, m, rfl, 63, rfl, a, _, rfl, s2.seq hS, fun d nd => ?_⟩
    obtain ⟨ms, em, hms, hms2⟩ := cut_rest ns m 63
    rw [show (63 : Int) = ((63 : Nat) : Int) from rfl, em]
    have nl0 : H l = none := s1.free nl
    have nd0 : H d = none := s2.free nd
    have ndl : l ≠ d := fun e => by
      rw [← e, upd_same] at nd
      cases nd
    refine ⟨d, _, rfl, SqL.mk upd_same, for_it (walk_enum (xs := ms.map V.int)) (fun i σ H3 => ∃ y3 y4, ∃ cs : List Int, σ = [some (.ref a), some (.int m), some (.ref l), y3, y4] ∧ Same H H3 ∧ H3 l = some (.lst (cs.map V.int)) ∧ cs.length = (ns.take m).length ∧ H3 d = some (.lst (ms.map V.int))) ⟨none, none, ns.take m, rfl, s2.trans (same_upd nd), ?_, rfl, upd_same⟩ ?_ ?_ ?_⟩
    · rw [upd_ne ndl, upd_same]
    · rintro i σ H3 hi ⟨y3, y4, cs, rfl, s3, hl, hc, hd⟩
      exact SqL.mk hd
    · rintro i x σ H3 H4 hi ⟨y3, y4, cs, rfl, s3, hl, hc, hd⟩ ⟨t, x1, x2, rfl, nt, rfl, e1, e2⟩
      rw [List.length_map] at hi
      have lm : m < ns.length := hms (by omega)
      have lc : cs.length = m := by
        rw [hc, List.length_take]
        omega
      have ex1 : x1 = .int (i : Nat) := (Option.some.inj e1).symm
      have ex2 : x2 = .int ms[i] := by
        have e2 : (ms.map V.int)[i]? = some x2 := e2
        rw [List.getElem?_map, List.getElem?_eq_getElem hi] at e2
        exact (Option.some.inj e2).symm
      subst ex1 ex2
      have hl1 : (upd H3 t (.tup [.int (i : Nat), .int ms[i]])) l = some (.lst (cs.map V.int)) := by
        rw [upd_ne (ne_of_none hl nt)]
        exact hl
      have him : i % m < cs.length := by
        rw [lc]
        exact Nat.mod_lt _ hm
      have eim : ((i : Int) % (m : Int)) = ((i % m : Nat) : Int) := by omega
      refine ⟨t, _, rfl, SqT.mk upd_same, rfl, _, _, rfl, _, _, rfl, rfl, ?_⟩
      refine ⟨.ref l, rfl, .int (i : Nat), rfl, .int m, rfl, _, _, rfl, rfl, (show (0 : Int) < (m : Int) by omega), l, _, _, .int cs[i % m], rfl, rfl, SqL.mk hl1, ?_, .int ms[i], rfl, .int (i : Nat), rfl, _, _, rfl, rfl, _, _, rfl, rfl, .inr ⟨by omega, by omega⟩, _, _, rfl, rfl, .ref l, rfl, .int (i : Nat), rfl, .int m, rfl, _, _, rfl, rfl, (show (0 : Int) < (m : Int) by omega), l, _, _, i % m, rfl, rfl, hl1, ?_, ?_⟩
      · rw [eim]
        exact atI_nat (by rw [List.getElem?_map, List.getElem?_eq_getElem him]; rfl)
      · rw [eim]
        exact ixn (by rw [List.length_map]; exact him)
      · refine ⟨_, _, cs.set (i % m) (cs[i % m] + ms[i] * ((i : Int) + 2)), rfl, same_newer (s3.trans (same_upd nt)) nl0, ?_, by rw [List.length_set, hc], ?_⟩
        · rw [upd_same, List.map_set]
        · rw [upd_ne ndl.symm, upd_ne (ne_of_none hd nt)]
          exact hd
    · rintro σ H3 ⟨y3, y4, cs, rfl, s3, hl, hc, hd⟩
      obtain ⟨ms2, em2, l2⟩ := cut_fr2 ([5, 8] : List Int) cs.length
      refine ⟨.ref l, rfl, (show 2 ≤ sizeLine by decide), fun e ne => ?_⟩
      have hl1 := (same_upd ne (o := .lst [.int 5, .int 8])) _ _ hl
      refine ⟨.ref l, rfl, l, _, rfl, .inl (SqL.mk hl1), _, rfl, e, _, rfl, SqL.mk upd_same, fun g ng => ?_⟩
      rw [List.length_map, show [V.int 5, V.int 8] = ([5, 8] : List Int).map V.int from rfl, em2]
      have hsl : sizeLine = 16777216 := by decide
      have lt := List.length_take (l := ns) (i := m)
      refine ⟨l, g, _, _, rfl, rfl, (same_upd ng) _ _ hl1, upd_same, ?_, fun r nr => ?_⟩
      · rw [List.length_map, List.length_map]
        have : ms2.length ≤ 2 := l2
        omega
      refine q _ r (cs ++ ms2) ((s3.trans (same_upd ne)).trans ((same_upd ng).trans (same_upd nr))) ?_ ?_ ?_
      · exact s3.free ((same_upd ne).free ((same_upd ng).free nr))
      · rw [upd_same, List.map_append]
      · rw [List.length_append]
        have : ms2.length ≤ 2 := l2
        omega
/-! match x: case (word, names ..) -/
abbrev TCs := Addr → List V → TS
structure PCs (X : Cx) (cs : List MatchCase) (t : TCs) : Prop where
  run : ∀ (pins : List (Addr × Obj)) (s : Shared) (σ : L2.St) (H : Hp) (D : L2.Ends) (a : Addr) (xs : List V) (first : Bool), Inv X pins σ H s → SqT X.K H a xs → t a xs D σ H →
    wpAny (model X.prog X.w) X.A (matchCases cs X.env (.ref a) first) (SP X pins D) X.xe s
def tMatch (K : PySem.W.Frag) (te : TE) (tc : TCs) : TS := fun D σ H => te σ H fun v H1 => ∃ a xs, v = .ref a ∧ SqT K H1 a xs ∧ tc a xs D σ H1
theorem ps_match {X : Cx} {e : Expr} {cs : List MatchCase} {pos : Pos} {te : TE} {tc : TCs} (he : PE X e te) (hc : PCs X cs tc) : PS X (.Match e cs pos) (tMatch X.K te tc) := by
  refine ⟨fun pins s σ H D I h => ?_⟩
  refine wpAny_Match (thn (he.run pins s σ H _ I h) fun v s1 ⟨x, H1, I1, r1, a, xs, e1, hq, q⟩ => ?_)
  subst e1
  cases r1
  exact hc.run pins s1 σ H1 D a xs true I1 hq q
theorem pcs_nil {X : Cx} : PCs X [] (fun _ _ D σ H => D.nx σ H) := ⟨fun _ _ σ H _ _ _ _ I _ h => wpAny_matchCases_nil ⟨σ, H, I, h⟩⟩
theorem pcs_any {X : Cx} {body : List Stmt} {rest : List MatchCase} {pos : Pos} {tb : TS} (hb : PSs X body tb) : PCs X (⟨.MatchAs none none pos, none, body⟩ :: rest) (fun _ _ => tb) := by
  refine ⟨fun pins s σ H D a xs first I hq h => wpAny_matchCases_cons (wpAny_matchPattern_Capture ?_)⟩
  exact wpAny_assignInOrder_none (hb.run pins s σ H D I h)
/-- the slots i .. get the values .. in turn -/
def sets (σ : L2.St) : List Nat → List V → L2.St
  | i :: is, v :: vs => sets (σ.set i (some v)) is vs
  | _, _ => σ
structure PCap (X : Cx) (ps : List Pattern) (ns : List (Nat × Str)) : Prop where
  each : ∀ (s : Shared) (us : List Value) (Q : Option (List (Str × Value)) → Shared → Prop), us.length = ns.length → Q (some (List.zipWith (fun n u => (n.2, u)) ns us)) s → wpAny (model X.prog X.w) X.A (matchEach ps X.env us) Q X.xe s
  slot : ∀ n, n ∈ ns → X.N[n.1]? = some n.2 ∧ Loc X.env.scope n.2 ∧ (X.fn n.2 = true ∨ X.env.scope.names.lookup n.2 = some .local)
  len : ps.length = ns.length
theorem pcap_nil {X : Cx} : PCap X [] [] := ⟨fun s us Q hl h => wpAny_matchEach_nil (by
  rw [show us = [] from List.eq_nil_of_length_eq_zero hl] at h
  exact h), fun n hn => (by cases hn), rfl⟩
theorem pcap_cons {X : Cx} {i : Nat} {x : Str} {pos : Pos} {ps : List Pattern} {ns : List (Nat × Str)} (hi : X.N[i]? = some x) (hx : Loc X.env.scope x) (h : PCap X ps ns) (hf : X.fn x = true ∨ X.env.scope.names.lookup x = some .local := by first | exact .inl rfl | exact .inr rfl | assumption) :
    PCap X (.MatchAs none (some x) pos :: ps) ((i, x) :: ns) := by
  refine ⟨fun s us Q hl hQ => ?_, fun n hn => ?_, ?_⟩
  · match us, hl with
    | u :: us, hl =>
      refine wpAny_matchEach_cons (wpAny_matchPattern_Capture ?_)
      refine h.each s us _ (Nat.succ.inj hl) ?_
      exact hQ
  · rcases List.mem_cons.mp hn with rfl | hn
    · exact ⟨hi, hx, hf⟩
    · exact h.slot n hn
  · rw [List.length_cons, List.length_cons, h.len]
theorem bind_all {X : Cx} {pins : List (Addr × Obj)} {H : Hp} (hN : X.N.Nodup) : ∀ (ns : List (Nat × Str)) (us : List Value) (vs : List V) (σ : L2.St) (s : Shared) (Q : Unit → Shared → Prop),
    (∀ n, n ∈ ns → X.N[n.1]? = some n.2 ∧ Loc X.env.scope n.2 ∧ (X.fn n.2 = true ∨ X.env.scope.names.lookup n.2 = some .local)) → us.length = ns.length → Vals vs us → Inv X pins σ H s → (∀ s', Inv X pins (sets σ (ns.map Prod.fst) vs) H s' → Q () s') →
    wpAny (model X.prog X.w) X.A (assignInOrder ((List.zipWith (fun (n : Nat × Str) u => (n.2, u)) ns us).map fun (n, _) => bindName X.env n) ((List.zipWith (fun (n : Nat × Str) u => (n.2, u)) ns us).map (·.2))) Q X.xe s
  | [], us, vs, σ, s, Q, _, hl, r, I, q => by
    have e : us = [] := List.eq_nil_of_length_eq_zero hl
    subst e
    cases r
    exact wpAny_assignInOrder_none (q s I)
  | n :: ns, us, vs, σ, s, Q, hs, hl, r, I, q => by
    match us, vs, hl, r with
    | u :: us, v :: vs, hl, .cons r1 r2 =>
      obtain ⟨h1, h2, h3⟩ := hs n List.mem_cons_self
      refine wpAny_assignInOrder_more (wpAny_bindName (store_ok I hN h1 h2 r1 (fun s1 I1 => ?_) h3))
      exact bind_all hN ns us vs _ s1 Q (fun m hm => hs m (List.mem_cons_of_mem _ hm)) (Nat.succ.inj hl) r2 I1 q
def tCase (word : Str) (is : List Nat) (tb : TS) (rest : TCs) : TCs := fun a xs D σ H =>
  (xs.length ≠ is.length + 1 ∧ rest a xs D σ H) ∨ ∃ z ys, xs = .str z :: ys ∧ ys.length = is.length ∧ ((z = word ∧ tb D (sets σ is ys) H) ∨ (z ≠ word ∧ rest a xs D σ H))
theorem pcs_seq {X : Cx} {e : Expr} {word : Str} {vp sp : Pos} {ps : List Pattern} {ns : List (Nat × Str)} {body : List Stmt} {rest : List MatchCase} {tb : TS} {tr : TCs} (hc : X.calm = true) (hN : X.N.Nodup) (hw : PE X e (tC (.str word))) (hcap : PCap X ps ns) (hb : PSs X body tb) (hr : PCs X rest tr)
    (hstar : (.MatchValue e vp :: ps).findIdx? (·.isStar) = none := by rfl) (hwild : ((.MatchValue e vp :: ps).all fun p => p.isWildcard || (p.isStar && p.names.isEmpty)) = false := by rfl) :
    PCs X (⟨.MatchSequence (.MatchValue e vp :: ps) sp, none, body⟩ :: rest) (tCase word (ns.map Prod.fst) tb tr) := by
  refine ⟨fun pins s σ H D a xs first I hq h => ?_⟩
  obtain ⟨its, rv, ht, hz⟩ := I.tuple hq
  have hl := rv.length
  have hsl : sizeLine = 16777216 := by decide
  have hfit : ((its.toArray.size : Nat) : Int) < 2 ^ 63 := by
    rw [List.size_toArray]
    omega
  have lp := hcap.len
  have miss : ∀ s', Inv X pins σ H s' → tr a xs D σ H → wpAny (model X.prog X.w) X.A (matchCases rest X.env (.ref a) false) (SP X pins D) X.xe s' := fun s' I' q => hr.run pins s' σ H D a xs false I' hq q
  refine wpAny_matchCases_cons ?_
  rcases h with ⟨hn, h⟩ | ⟨z, ys, rfl, hn, h⟩
  · rw [List.length_map] at hn
    refine matchSeq_tuple_miss ht hfit (by rw [List.size_toArray, List.length_cons]; omega) ?_ hstar hwild
    exact miss _ (I.kept (t' := s.toks + 1 + 1) fun b o q => q) h
  · rw [List.length_map] at hn
    rw [List.length_cons] at hl
    refine matchSeq_tuple_hit ht hfit (by rw [List.size_toArray, List.length_cons]; omega) ?_ hstar hwild
    have e1 : (Pattern.MatchValue e vp :: ps).length = its.toArray.size := by
      rw [List.size_toArray, List.length_cons]
      omega
    have key : ∀ s2 : Shared, Inv X pins σ H s2 → wpAny (model X.prog X.w) X.A (matchEach (.MatchValue e vp :: ps) X.env its) (fun r s₁ => match r with
        | none => wpAny (model X.prog X.w) X.A (matchCases rest X.env (.ref a) false) (SP X pins D) X.xe s₁
        | some bs => wpAny (model X.prog X.w) X.A (assignInOrder (bs.map fun (n, _) => bindName X.env n) (bs.map (·.2))) (fun _ s₂ => wpAny (model X.prog X.w) X.A (execs body X.env) (SP X pins D) X.xe s₂) X.xe s₁) X.xe s2 := fun s2 I1 => by
      clear e1 hfit hz ht
      match its, rv, hl with
      | u :: us, .cons r1 r2, hl =>
        refine wpAny_matchEach_cons (wpAny_matchPattern_Value ?_)
        refine thn (hw.run pins s2 σ H (fun v H' => v = .str word ∧ H' = H) I1 ⟨rfl, rfl⟩) fun c s3 ⟨x, H3, I3, r3, e3, e4⟩ => ?_
        subst e3 e4
        refine thn (op_eq pins s3 σ H3 (.str z) (.str word) u c (fun v H' => v = .bl (decide (V.str z = V.str word)) ∧ H' = H3) I3 r1 r3 ⟨rfl, rfl, rfl⟩) fun d s4 ⟨y, H4, I4, r4, e5, e6⟩ => ?_
        subst e5 e6
        obtain rfl : d = Value.bool (decide (V.str z = V.str word)) := r4
        refine wpAny_truthy_bool ?_
        rcases h with ⟨rfl, h⟩ | ⟨ne, h⟩
        · rw [if_pos (decide_eq_true rfl)]
          have ul : us.length = ns.length := by
            have := r2.length
            omega
          refine hcap.each s4 us _ ul ?_
          show wpAny _ _ (assignInOrder _ _) _ _ s4
          exact bind_all hN ns us ys σ s4 _ hcap.slot ul r2 I4 fun s5 I5 => hb.run pins s5 _ H4 D I5 h
        · rw [if_neg (fun y => ne (V.str.inj (of_decide_eq_true y)))]
          exact miss s4 I4 h
    rw [e1]
    refine unpackItems_tuple (I.ok.hd hc) ht fun h' hx => ?_
    have I1 : Inv X pins σ H { s with heap := h', toks := s.toks + 1 + 1 } := I.kept (t' := s.toks + 1 + 1) fun b o q => hx b o (Nat.ne_of_lt (Heap.lt_size q)) q
    refine key _ ?_
    exact I1
theorem nat_of {x : Int} (h : 0 ≤ x) : ∃ m : Nat, x = (m : Nat) := Int.eq_ofNat_of_zero_le h
/-! where a number stands first -/
theorem flat_ints (xs : List Int) : (xs.map V.int).all flatV = true := by
  rw [List.all_eq_true]
  intro x hx
  obtain ⟨i, _, rfl⟩ := List.mem_map.mp hx
  rfl
theorem in_ints (xs : List Int) (k : Int) : inV (.int k) (xs.map V.int) = decide (k ∈ xs) := by
  unfold inV
  rw [Bool.eq_iff_iff, List.any_eq_true, decide_eq_true_iff]
  constructor
  · rintro ⟨y, hy, e⟩
    obtain ⟨i, hi, rfl⟩ := List.mem_map.mp hy
    have : i = k := by
      have e : (i == k) = true := e
      exact eq_of_beq e
    rw [← this]
    exact hi
  · intro h
    exact ⟨_, List.mem_map.mpr ⟨k, h, rfl⟩, show (k == k) = true from beq_self_eq_true k⟩
theorem first_of {xs : List Int} {k : Int} : k ∈ xs → ∃ j : Nat, xs[j]? = some k ∧ ∀ m, m < j → xs[m]? ≠ some k := by
  induction xs with
  | nil => intro h; cases h
  | cons x r ih =>
    intro h
    by_cases e : x = k
    · exact ⟨0, by rw [e]; rfl, fun m hm => by omega⟩
    · rcases List.mem_cons.mp h with h | h
      · exact absurd h.symm e
      · obtain ⟨j, h1, h2⟩ := ih h
        refine ⟨j + 1, h1, fun m hm => ?_⟩
        cases m with
        | zero => exact fun z => e (Option.some.inj z)
        | succ m => exact h2 m (by omega)
theorem u1 {k : Nat} {A : Around} (r : Room k A) : A.units + 1 < cLine := by
  have := r.un
  omega
theorem lcK {X : Cx} {K : PySem.W.Frag} (h : X.K = K) : MtR X "list.count" (rCntI K) := by
  subst h
  exact mt_lcount
theorem pe_bmK {X : Cx} {K : PySem.W.Frag} {T id : String} {name : Str} {r : V → List V → Hp → VK → Prop} {o e : Expr} {es : List Expr} {to : TE} {t : TA} {apos cpos : Pos} (pa : PlainAttrs T) (slot : Slot T name id) (hty : typeOf (.builtin id) = pure (.type "method_descriptor")) (hm : MtR X id r) (ho : PE X o to) (ha : PA X (e :: es) t) (hk : X.K = K := by rfl)
    (hbase : attributeBase o name X.env (eval o X.env) = eval o X.env := by rfl)
    (hfew : ((backTo cpos (starEach (e :: es) X.env)).all (fun x => !x.1) && (backToKw cpos (keywordEach [] X.env)).all (fun x => x.1.isSome) && decide ((e :: es).length + ([] : List Keyword).length + (if ([] : List Keyword).isEmpty then 0 else 1) < 30)) = true := by rfl)
    (hline : (apos.endLine == cpos.line) = true := by rfl) (hs : starEach (e :: es) X.env = (false, eval e X.env) :: starEach es X.env := by rfl) (hplain : (backTo cpos (starEach es X.env)).any (·.1) = false := by rfl) :
    PE X (.Call (.Attribute o name apos) (e :: es) [] cpos) (tBM K T r to t) := by
  subst hk
  exact pe_bm pa slot hty hm ho ha hbase hfew hline hs hplain
/-! heaps with tables -/
theorem trip0 : TriplesOk (#[] : Array Value).toList := trivial
structure Sam (H H' : Hp) : Prop where
  obj : ∀ b o, (∀ ps, o ≠ .tbl ps) → H b = some o → H' b = some o
  tab : ∀ b ps, H b = some (.tbl ps) → ∃ ps', H' b = some (.tbl ps') ∧ (TriplesOk ps.toList → TriplesOk ps'.toList)
theorem Sam.of {H H' : Hp} (s : Same H H') : Sam H H' := ⟨fun b o _ e => s b o e, fun b ps e => ⟨ps, s b _ e, fun z => z⟩⟩
theorem Sam.refl (H : Hp) : Sam H H := .of (Same.refl H)
theorem Sam.trans {H H1 H2 : Hp} (a : Sam H H1) (b : Sam H1 H2) : Sam H H2 := ⟨fun c o n e => b.obj c o n (a.obj c o n e), fun c ps e => by
  obtain ⟨p1, e1, t1⟩ := a.tab c ps e
  obtain ⟨p2, e2, t2⟩ := b.tab c p1 e1
  exact ⟨p2, e2, fun z => t2 (t1 z)⟩⟩
theorem Sam.tabG {H H' : Hp} {P : Addr} (a : Sam H H') (t : GxR.TabG H P) : GxR.TabG H' P := by
  obtain ⟨ps, e, z⟩ := t
  obtain ⟨p1, e1, t1⟩ := a.tab P ps e
  exact ⟨p1, e1, t1 z⟩
theorem Sam.tup {H H' : Hp} {a : Addr} {xs : List V} (s : Sam H H') (h : H a = some (.tup xs)) : H' a = some (.tup xs) := s.obj _ _ (fun _ z => by cases z) h
theorem Sam.lst {H H' : Hp} {a : Addr} {xs : List V} (s : Sam H H') (h : H a = some (.lst xs)) : H' a = some (.lst xs) := s.obj _ _ (fun _ z => by cases z) h
theorem Sam.free {H H' : Hp} (s : Sam H H') {l : Addr} (h : H' l = none) : H l = none := by
  cases q : H l with
  | none => rfl
  | some o =>
    cases o with
    | tbl ps =>
      obtain ⟨p1, e1, _⟩ := s.tab l ps q
      rw [e1] at h
      cases h
    | _ =>
      rw [s.obj l _ (fun _ z => by cases z) q] at h
      cases h
theorem Sam.tabbed {P : Addr} {H H' : Hp} (g : GxR.TabG H P) (t : GxR.Tabbed P H H') : Sam H H' := by
  obtain ⟨⟨p1, e1, z1⟩, k⟩ := t
  obtain ⟨p0, e0, _⟩ := g
  refine ⟨fun b o n e => ?_, fun b ps e => ?_⟩
  · by_cases hb : b = P
    · rw [hb, e0] at e
      exact absurd (Option.some.inj e).symm (n p0)
    · rw [k b hb]
      exact e
  · by_cases hb : b = P
    · rw [hb]
      exact ⟨p1, e1, fun _ => z1⟩
    · exact ⟨ps, by rw [k b hb]; exact e, fun z => z⟩
theorem sam_newer {H H' : Hp} {q : Addr} {o : HO} (a : Sam H H') (n : H q = none) : Sam H (upd H' q o) := ⟨fun c x hx e => by
    rw [upd_ne (ne_of_none e n)]
    exact a.obj c x hx e, fun c ps e => by
    obtain ⟨p1, e1, t1⟩ := a.tab c ps e
    exact ⟨p1, by rw [upd_ne (ne_of_none e n)]; exact e1, t1⟩⟩
/-- all but the box stays, tables grow -/
structure Bus (p : Addr) (H H' : Hp) : Prop where
  obj : ∀ b o, b ≠ p → (∀ ps, o ≠ .tbl ps) → H b = some o → H' b = some o
  tab : ∀ b ps, b ≠ p → H b = some (.tbl ps) → ∃ ps', H' b = some (.tbl ps') ∧ (TriplesOk ps.toList → TriplesOk ps'.toList)
theorem Bus.of {p : Addr} {H H' : Hp} (s : But p H H') : Bus p H H' := ⟨fun b o n _ e => s b o n e, fun b ps n e => ⟨ps, s b _ n e, fun z => z⟩⟩
theorem Bus.sam {p : Addr} {H H' : Hp} (s : Sam H H') : Bus p H H' := ⟨fun b o _ n e => s.obj b o n e, fun b ps _ e => s.tab b ps e⟩
theorem Bus.refl (p : Addr) (H : Hp) : Bus p H H := .of (But.refl p H)
theorem Bus.trans {p : Addr} {H H1 H2 : Hp} (a : Bus p H H1) (b : Bus p H1 H2) : Bus p H H2 := ⟨fun c o h n e => b.obj c o h n (a.obj c o h n e), fun c ps h e => by
  obtain ⟨p1, e1, t1⟩ := a.tab c ps h e
  obtain ⟨p2, e2, t2⟩ := b.tab c p1 h e1
  exact ⟨p2, e2, fun z => t2 (t1 z)⟩⟩
theorem Bus.tup {p : Addr} {H H' : Hp} {n : Nat} {a : Addr} {xs : List V} (s : Bus p H H') (B : Bx H p n) (h : H a = some (.tup xs)) : H' a = some (.tup xs) := s.obj _ _ (B.ne_tup h) (fun _ z => by cases z) h
theorem Bus.lst {p : Addr} {H H' : Hp} {a : Addr} {xs : List V} (s : Bus p H H') (ne : a ≠ p) (h : H a = some (.lst xs)) : H' a = some (.lst xs) := s.obj _ _ ne (fun _ z => by cases z) h
theorem Bus.tabG {p : Addr} {H H' : Hp} {n : Nat} {P : Addr} (s : Bus p H H') (B : Bx H p n) (t : GxR.TabG H P) : GxR.TabG H' P := by
  obtain ⟨ps, e, z⟩ := t
  obtain ⟨a, b, c, hp, _⟩ := B
  obtain ⟨p1, e1, t1⟩ := s.tab P ps (ne_of e hp (fun z => by cases z)) e
  exact ⟨p1, e1, t1 z⟩
theorem Bus.new {p q : Addr} {H H' : Hp} {o : HO} (a : Bus p H H') (n : H' q = none) : Bus p H (upd H' q o) := a.trans (.of ((But.refl p H').new n))
/-- a thing made since H may change -/
theorem bus_newer {p q : Addr} {H H' : Hp} {o : HO} (a : Bus p H H') (n : H q = none) : Bus p H (upd H' q o) := ⟨fun c x h hx e => by
    rw [upd_ne (ne_of_none e n)]
    exact a.obj c x h hx e, fun c ps h e => by
    obtain ⟨p1, e1, t1⟩ := a.tab c ps h e
    exact ⟨p1, by rw [upd_ne (ne_of_none e n)]; exact e1, t1⟩⟩
theorem Bus.free {p : Addr} {H H' : Hp} {n : Nat} (s : Bus p H H') (B : Bx H p n) (B' : ∃ m, Bx H' p m) {l : Addr} (h : H' l = none) : H l = none := by
  cases q : H l with
  | none => rfl
  | some o =>
    have nl : l ≠ p := fun z => by
      obtain ⟨m, _, _, _, hp, _⟩ := B'
      rw [z, hp] at h
      cases h
    cases o with
    | tbl ps =>
      obtain ⟨p1, e1, _⟩ := s.tab l ps nl q
      rw [e1] at h
      cases h
    | _ =>
      rw [s.obj l _ nl (fun _ z => by cases z) q] at h
      cases h
theorem Bx.sam {H H' : Hp} {p : Addr} {n : Nat} (h : Bx H p n) (s : Sam H H') : Bx H' p n := by
  obtain ⟨a, b, c, hp, r⟩ := h
  exact ⟨a, b, c, s.lst hp, r⟩
theorem bus_same {p : Addr} {H H1 H2 : Hp} (n : H p = none) (a : Sam H H1) (b : Bus p H1 H2) : Sam H H2 := ⟨fun c x h e => b.obj c x (ne_of_none e n) h (a.obj c x h e), fun c ps e => by
  obtain ⟨p1, e1, t1⟩ := a.tab c ps e
  obtain ⟨p2, e2, t2⟩ := b.tab c p1 (ne_of_none e n) e1
  exact ⟨p2, e2, fun z => t2 (t1 z)⟩⟩
theorem ne_new {H : Hp} {p q : Addr} {n : Nat} (B : Bx H p n) (nq : H q = none) : q ≠ p := fun e => by
  obtain ⟨_, _, _, hp, _⟩ := B
  rw [e, hp] at nq
  cases nq
/-! a tuple so many times -/
theorem tuple_once (l : Addr) (items : Array Value) (n : Nat) (dd : Option Addr) (sl : Array (Option Value)) (u : Tok) :
    Meets (Builtin.«tuple.__mul__» ⟨[.ref l, .int 1 u], []⟩) (fun _ R s => s.heap.get? l = some { cls := .type "tuple", dict := dd, data := .seq items n, slots := sl } ∧ R (.ok (.ret (Value.ref l))) { s with toks := s.toks }) :=
  .of_wp fun prog w A R s h => by
    obtain ⟨hp, g, d, tk, os⟩ := s
    obtain ⟨hl, h⟩ := h
    have f1 := AutoSeq1.idx_int
    have c1 : (items.isEmpty || (1 : Int) == 1) = true := by simp
    wp_walk using wpAny_loadPart' hl
    repeat (first
      | (refine wpAny_ite_true (decide_eq_true c1) ?_; wp_walk using wpAny_loadPart' hl)
      | (refine wpAny_ite_false (decide_eq_false (by decide)) ?_; wp_walk using wpAny_loadPart' hl))
    exact ⟨_, rfl, h⟩
def rRepA (K : PySem.W.Frag) : R2 := fun x y H Q => ∃ (l : Addr) (k : Nat) (xs : List V), x = .ref l ∧ y = .int (k : Nat) ∧ SqT K H l xs ∧ xs ≠ [] ∧ 1 ≤ k ∧ xs.length * k ≤ 1000000 ∧ (k = 1 → Q (.ref l) H) ∧
  (2 ≤ k → ∀ p, H p = none → Q (.ref p) (upd H p (.tup (List.replicate k xs).flatten)))
theorem op_repA {X : Cx} : OpR X (binaryOp .Mult) (rRepA X.K) := by
  intro pins s σ H x y v u Q I rx ry h
  obtain ⟨l, k, xs, rfl, rfl, hT, hne, h1, hz, q1, q2⟩ := h
  cases rx
  obtain ⟨t, rfl⟩ := ry
  obtain ⟨its, r, ⟨⟨cls, dd, data, sl⟩, ho, hc, n, hd⟩, hs⟩ := I.tuple hT
  simp only at hc hd
  subst hc hd
  have lx : 0 < xs.length := List.length_pos_iff.mpr hne
  have le : its.length = xs.length := r.length.symm
  have ke : k * xs.length ≤ 1000000 := by
    rw [Nat.mul_comm]
    exact hz
  have kl : k ≤ 1000000 := Nat.le_trans (Nat.le_mul_of_pos_right k lx) ke
  have ne : its.toArray.isEmpty = false := by
    cases its with
    | nil =>
      rw [← le] at lx
      cases lx
    | cons a b => rfl
  by_cases k1 : k = 1
  · subst k1
    refine wpAny_binaryOp_repeat_ref (T := "tuple") (U := "int") (by decide) ⟨_, ho, rfl⟩ (fun s' => typeIs_int s' _ t) noFill_tuple_mul F.fills_int_mul F.slot_int_rmul repeat_tuple F.slot_int_index.lookup
      (call_meets F.slot_int_rmul (typeIs_int s _ t) F.entry_int_rmul (F.args_int_rmul_2 _ _) (int_rmul_tuple _ t l its.toArray n dd sl)
        ⟨ho, rfl, ⟨_, ho, rfl⟩, call_meets F.slot_tuple_mul ⟨_, ho, rfl⟩ F.entry_tuple_mul (F.args_tuple_mul_2 _ _) (tuple_once l its.toArray n dd sl t) ⟨ho, ?_⟩⟩)
    exact ⟨.ref l, H, I, rfl, q1 rfl⟩
  · have k2 : 2 ≤ k := by omega
    have sz : its.toArray.size = xs.length := by rw [List.size_toArray, le]
    have pr : ((its.toArray.size : Nat) : Int) * (k : Int) ≤ 1000000 := by
      rw [sz, ← Int.natCast_mul]
      omega
    have fl : (List.replicate k its).flatten.length ≤ sizeLine := by
      rw [PyProof.Rows.lm_len_rep_flat, le, sizeLine_eq]
      omega
    have d0 : (decide ((k : Int) < -(2 ^ 63)) || decide ((k : Int) ≥ 2 ^ 63)) = false := by
      rw [decide_eq_false (show ¬ (k : Int) < -(2 ^ 63) by omega), decide_eq_false (show ¬ (k : Int) ≥ 2 ^ 63 by omega)] <;> rfl
    have d1 : (its.toArray.isEmpty || (k : Int) == 1) = false := by
      rw [ne, Bool.false_or]
      exact beq_eq_false_iff_ne.mpr (by omega)
    have d2 : (decide ((k : Int) ≤ 0) || its.toArray.isEmpty) = false := by
      rw [ne, Bool.or_false]
      exact decide_eq_false (by omega)
    have d4 : Builtin.Tuple.tupleTooMany (((its.toArray.size : Nat) : Int) * (k : Int)) = false := by
      unfold Builtin.Tuple.tupleTooMany
      rw [sizeLine_eq]
      exact decide_eq_false (by omega)
    refine wpAny_binaryOp_repeat_ref (T := "tuple") (U := "int") (by decide) ⟨_, ho, rfl⟩ (fun s' => typeIs_int s' _ t) noFill_tuple_mul F.fills_int_mul F.slot_int_rmul repeat_tuple F.slot_int_index.lookup
      (call_meets F.slot_int_rmul (typeIs_int s _ t) F.entry_int_rmul (F.args_int_rmul_2 _ _) (int_rmul_tuple _ t l its.toArray n dd sl)
        ⟨ho, rfl, ⟨_, ho, rfl⟩, call_meets F.slot_tuple_mul ⟨_, ho, rfl⟩ F.entry_tuple_mul (F.args_tuple_mul_2 _ _) (tuple_mulW l its.toArray n dd sl (k : Int) t d0 d1 d2 (by omega) d4 (by rw [Int.toNat_natCast, size_rep, List.size_toArray]; exact fl)) ⟨ho, ?_⟩⟩)
    rw [Int.toNat_natCast, size_rep]
    refine ⟨.ref s.heap.objs.size, _, I.laid (t' := s.toks) (o := .tup (List.replicate k xs).flatten) (fun b ob q => Heap.get?_push_of_some _ q) (Nat.le_refl _) ⟨?_, _, r.rep k, IsTup.new _ _⟩, rfl, q2 k2 _ (I.hok.fresh (Nat.le_refl _))⟩
    rw [PyProof.Rows.lm_len_rep_flat, sizeLine_eq]
    omega
/-! the law's own rows -/
def Bits (rs : List Int) : Prop := ∀ x, x ∈ rs → x = 0 ∨ x = 1
theorem Bits.snoc {rs : List Int} {x : Int} (h : Bits rs) (hx : x = 0 ∨ x = 1) : Bits (rs ++ [x]) := fun y hy => by
  rcases List.mem_append.mp hy with hy | hy
  · exact h y hy
  · rw [List.mem_singleton] at hy
    rw [hy]
    exact hx
theorem but_newer {p q : Addr} {H H' : Hp} {o : HO} (a : But p H H') (n : H q = none) : But p H (upd H' q o) := fun c x hn e => by
  rw [upd_ne (ne_of_none e n)]
  exact a c x hn e
theorem Bx.other {H : Hp} {p q : Addr} {n : Nat} {o : HO} (h : Bx H p n) (nq : q ≠ p) : Bx (L2.upd H q o) p n := by
  obtain ⟨a, b, c, hp, r⟩ := h
  exact ⟨a, b, c, by rw [upd_ne (Ne.symm nq)]; exact hp, r⟩
def PV (p D : Addr) (HX : Hp) (k i : Nat) (H1 : Hp) : Prop := ∃ rs : List Int, rs.length = i ∧ Bits rs ∧ But p HX H1 ∧ Bx H1 p (k + i) ∧ H1 D = some (.lst (rs.map V.int))
theorem pv_start {p D : Addr} {HX : Hp} {k : Nat} (nD : HX D = none) (B : Bx HX p k) : PV p D HX k 0 (upd HX D (.lst [])) := ⟨[], rfl, fun _ h => (by cases h), (But.refl p HX).new nD, B.new nD, upd_same⟩
theorem pv_step {p D : Addr} {HX H1 H4 : Hp} {k i : Nat} {x : Int} (nD : HX D = none) (Dp : D ≠ p) (h : PV p D HX k i H1) (b : But p H1 H4) (B : Bx H4 p (k + (i + 1))) (hi : i < 100000) (hx : x = 0 ∨ x = 1) :
    ∃ acc, H4 D = some (.lst acc) ∧ acc.length < sizeLine ∧ PV p D HX k (i + 1) (upd H4 D (.lst (acc ++ [.int x]))) := by
  obtain ⟨rs, hl, hb, b1, _, hD⟩ := h
  have hsl : sizeLine = 16777216 := by decide
  refine ⟨_, b _ _ Dp hD, by rw [List.length_map]; omega, rs ++ [x], by rw [List.length_append, hl]; rfl, hb.snoc hx, but_newer (b1.trans b) nD, B.other Dp, ?_⟩
  rw [upd_same, List.map_append]
  rfl
theorem rep_one (m : Nat) (x : Int) : (List.replicate m [V.int x]).flatten = (List.replicate m x).map V.int := by
  rw [List.map_replicate]
  induction m with
  | zero => rfl
  | succ m ih => rw [List.replicate_succ, List.flatten_cons, ih, List.replicate_succ]; rfl
/-! a tuple no times, too -/
theorem tuple_nought (l : Addr) (items : Array Value) (n : Nat) (dd : Option Addr) (sl : Array (Option Value)) (u : Tok) (hi : items.isEmpty = false) :
    Meets (Builtin.«tuple.__mul__» ⟨[.ref l, .int 0 u], []⟩) (fun _ R s => s.heap.get? l = some { cls := .type "tuple", dict := dd, data := .seq items n, slots := sl } ∧ R (.ok (.ret (Value.ref s.heap.objs.size))) { s with heap := s.heap.push { cls := Value.type "tuple", data := Data.seq #[] }, toks := s.toks }) :=
  .of_wp fun prog w A R s h => by
    obtain ⟨hp, g, d, tk, os⟩ := s
    obtain ⟨hl, h⟩ := h
    have f1 := AutoSeq1.idx_int
    have c1 : (items.isEmpty || (0 : Int) == 1) = false := by rw [hi]; rfl
    have c2 : (decide ((0 : Int) ≤ 0) || items.isEmpty) = true := by simp
    wp_walk using wpAny_loadPart' hl
    repeat (first
      | (refine wpAny_ite_false (decide_eq_false (by rw [c1]; exact Bool.false_ne_true)) ?_; wp_walk using wpAny_loadPart' hl)
      | (refine wpAny_ite_true (decide_eq_true c2) ?_; wp_walk using wpAny_loadPart' hl)
      | (refine wpAny_ite_false (decide_eq_false (by decide)) ?_; wp_walk using wpAny_loadPart' hl))
    exact ⟨_, rfl, h⟩
def rRepB (K : PySem.W.Frag) : R2 := fun x y H Q => ∃ (l : Addr) (k : Nat) (xs : List V), x = .ref l ∧ y = .int (k : Nat) ∧ SqT K H l xs ∧ xs ≠ [] ∧ xs.length * k ≤ 1000000 ∧ (k = 1 → Q (.ref l) H) ∧
  (k ≠ 1 → ∀ p, H p = none → Q (.ref p) (upd H p (.tup (List.replicate k xs).flatten)))
theorem op_repB {X : Cx} : OpR X (binaryOp .Mult) (rRepB X.K) := by
  intro pins s σ H x y v u Q I rx ry h
  obtain ⟨l, k, xs, rfl, rfl, hT, hne, hz, q1, q2⟩ := h
  by_cases k0 : k = 0
  · subst k0
    cases rx
    obtain ⟨t, rfl⟩ := ry
    obtain ⟨its, r, ⟨⟨cls, dd, data, sl⟩, ho, hc, n, hd⟩, hs⟩ := I.tuple hT
    simp only at hc hd
    subst hc hd
    have le : its.length = xs.length := r.length.symm
    have ne : its.toArray.isEmpty = false := by
      cases its with
      | nil => exact absurd (List.eq_nil_of_length_eq_zero le.symm) hne
      | cons a b => rfl
    refine wpAny_binaryOp_repeat_ref (T := "tuple") (U := "int") (by decide) ⟨_, ho, rfl⟩ (fun s' => typeIs_int s' _ t) noFill_tuple_mul F.fills_int_mul F.slot_int_rmul repeat_tuple F.slot_int_index.lookup
      (call_meets F.slot_int_rmul (typeIs_int s _ t) F.entry_int_rmul (F.args_int_rmul_2 _ _) (int_rmul_tuple _ t l its.toArray n dd sl)
        ⟨ho, rfl, ⟨_, ho, rfl⟩, call_meets F.slot_tuple_mul ⟨_, ho, rfl⟩ F.entry_tuple_mul (F.args_tuple_mul_2 _ _) (tuple_nought l its.toArray n dd sl t ne) ⟨ho, ?_⟩⟩)
    exact ⟨.ref s.heap.objs.size, _, I.laid (t' := s.toks) (o := .tup []) (fun b ob q => Heap.get?_push_of_some _ q) (Nat.le_refl _) ⟨Nat.zero_le _, [], .nil, IsTup.new _ _⟩, rfl, q2 (by decide) _ (I.hok.fresh (Nat.le_refl _))⟩
  · exact op_repA pins s σ H _ _ v u Q I rx ry ⟨l, k, xs, rfl, rfl, hT, hne, by omega, hz, q1, fun z => q2 (by omega)⟩
/-- (x,) so many times -/
theorem rep_go {K : PySem.W.Frag} {H : Hp} {t : Addr} {x v : Int} {k : Nat} {Q : VK} (hv : v = (k : Nat)) (ht : H t = some (.tup [.int x])) (hk : k ≤ 100000) (q : ∀ H' p, Same H H' → H' p = some (.tup ((List.replicate k x).map V.int)) → Q (.ref p) H') : rRepB K (.ref t) (.int v) H Q := by
  subst hv
  refine ⟨t, k, _, rfl, rfl, SqT.mk ht, by simp, (show 1 * k ≤ 1000000 by omega), fun z => ?_, fun z p np => ?_⟩
  · subst z
    exact q H t (Same.refl H) ht
  · exact q _ p (same_upd np) (by rw [upd_same, rep_one])
theorem cat_go {K : PySem.W.Frag} {H : Hp} {a b : Addr} {rs ss : List Int} {Q : VK} (ha : H a = some (.tup (rs.map V.int))) (hb : H b = some (.tup (ss.map V.int))) (hl : rs.length + ss.length ≤ 100000)
    (q : ∀ H' p, Same H H' → H' p = some (.tup ((rs ++ ss).map V.int)) → Q (.ref p) H') : rCatA K (.ref a) (.ref b) H Q := by
  have hsl : sizeLine = 16777216 := by decide
  refine ⟨a, b, _, _, rfl, rfl, SqT.mk ha, SqT.mk hb, by rw [List.length_map, List.length_map]; omega, fun z => ?_, fun _ z => ?_, fun _ _ p np => ?_⟩
  · rw [List.map_eq_nil_iff.mp z] at q
    exact q H b (Same.refl H) hb
  · rw [List.map_eq_nil_iff.mp z] at q
    exact q H a (Same.refl H) (by rw [List.append_nil]; exact ha)
  · exact q _ p (same_upd np) (by rw [upd_same, List.map_append])
theorem catK {X : Cx} {K : PySem.W.Frag} (h : X.K = K) : OpR X (binaryOp .Add) (rCatA K) := by
  subst h
  exact op_catA
theorem zipAK {X : Cx} {K : PySem.W.Frag} {e e2 : Expr} {ta : TA} {p pos tpos : Pos} {elts : List Expr} {kk : Nat} (h : X.K = K) (hg : Gl X "zip") (hm : X.mg "zip" = none) (ha : PA X [e, e2] ta)
    (hs : starEach [e, e2] X.env = (false, eval e X.env) :: starEach [e2] X.env := by rfl) (hpl : (backTo pos (starEach [e2] X.env)).any (·.1) = false := by rfl) :
    PI X (.Tuple elts kk tpos) (.Call (.Name "zip" p) [e, e2] [] pos) (RZ.iZipA K ta) := by
  subst h
  exact RZ.pi_zipA hg hm ha hs hpl
theorem listK {X : Cx} {K : PySem.W.Frag} {tg e : Expr} {t : TE} (h : X.K = K) (he : PE X e t) : PI X tg e (iList K t) := by
  subst h
  exact pi_list he
theorem nx_via {t u : TS} {D : Ends} {r : VK} {k c : L2.St → Hp → Prop} {σ : L2.St} {H : Hp} (R : L2.St → Hp → Prop) (h1 : ∀ N : L2.St → Hp → Prop, (∀ σ H, R σ H → N σ H) → t { D with nx := N } σ H) (h2 : ∀ σ H, R σ H → u D σ H) : Ends.nx { nx := tSeq t u D, rt := r, bk := k, ct := c } σ H := h1 _ h2
theorem seq_via {t u : TS} {D : Ends} {σ : L2.St} {H : Hp} (R : L2.St → Hp → Prop) (h1 : ∀ N : L2.St → Hp → Prop, (∀ σ H, R σ H → N σ H) → t { D with nx := N } σ H) (h2 : ∀ σ H, R σ H → u D σ H) : tSeq t u D σ H := h1 _ h2
def dot (rs ss : List Int) : Int := (List.zipWith (fun x y => x * y) rs ss).sum
def allRows : Nat → List (List Int)
  | 0 => [[]]
  | k + 1 => (allRows k).map (· ++ [0]) ++ (allRows k).map (· ++ [1])
theorem all_sound : ∀ (k : Nat) (r : List Int), r ∈ allRows k → r.length = k ∧ Bits r
  | 0, r, h => by
    rw [show r = [] from List.mem_singleton.mp h]
    exact ⟨rfl, fun x hx => by cases hx⟩
  | k + 1, r, h => by
    have aux : ∀ (b : Int), (b = 0 ∨ b = 1) → r ∈ (allRows k).map (· ++ [b]) → r.length = k + 1 ∧ Bits r := fun b hb hm => by
      obtain ⟨q, hq, rfl⟩ := List.mem_map.mp hm
      obtain ⟨h1, h2⟩ := all_sound k q hq
      refine ⟨by rw [List.length_append, h1]; rfl, fun x hx => ?_⟩
      rcases List.mem_append.mp hx with hx | hx
      · exact h2 x hx
      · rw [List.mem_singleton.mp hx]
        exact hb
    rcases List.mem_append.mp h with h | h
    · exact aux 0 (.inl rfl) h
    · exact aux 1 (.inr rfl) h
theorem all_full : ∀ (k : Nat) (r : List Int), r.length = k → Bits r → r ∈ allRows k
  | 0, r, h, _ => by
    rw [List.eq_nil_of_length_eq_zero h]
    exact List.mem_singleton.mpr rfl
  | k + 1, r, h, hb => by
    have hne : r ≠ [] := fun z => by
      rw [z] at h
      cases h
    have e := List.dropLast_concat_getLast hne
    have m1 : r.dropLast ∈ allRows k := all_full k _ (by rw [List.length_dropLast, h]; rfl) fun x hx => hb x (List.dropLast_subset r hx)
    rcases hb _ (List.getLast_mem hne) with z | z
    · rw [z] at e
      exact List.mem_append.mpr (.inl (List.mem_map.mpr ⟨_, m1, e⟩))
    · rw [z] at e
      exact List.mem_append.mpr (.inr (List.mem_map.mpr ⟨_, m1, e⟩))
theorem all_len : ∀ k, (allRows k).length = 2 ^ k
  | 0 => rfl
  | k + 1 => by
    show ((allRows k).map (· ++ [0]) ++ (allRows k).map (· ++ [1])).length = _
    rw [List.length_append, List.length_map, List.length_map, all_len k, Nat.pow_succ]
    omega
theorem bits_sum : ∀ (r : List Int), Bits r → 0 ≤ r.sum ∧ r.sum ≤ r.length
  | [], _ => ⟨Int.le_refl 0, Int.le_refl 0⟩
  | x :: r, h => by
    have ih := bits_sum r fun y hy => h y (List.mem_cons_of_mem _ hy)
    have hx := h x List.mem_cons_self
    rw [List.sum_cons, List.length_cons]
    omega
theorem sum_rep (k : Nat) (x : Int) : (List.replicate k x).sum = k * x := by
  induction k with
  | zero => simp
  | succ k ih =>
    rw [List.replicate_succ, List.sum_cons, ih, Int.natCast_add, Int.add_mul]
    omega
theorem sum_split (r : List Int) (a : Nat) : r.sum = (r.take a).sum + (r.drop a).sum := by
  conv => lhs; rw [← List.take_append_drop a r, List.sum_append]
theorem dot_zero (k : Nat) : ∀ r : List Int, dot (List.replicate k 0) r = 0 := by
  unfold dot
  induction k with
  | zero => intro r; simp
  | succ k ih =>
    intro r
    cases r with
    | nil => simp
    | cons x r =>
      rw [List.replicate_succ, List.zipWith_cons_cons, List.sum_cons, ih]
      omega
theorem dot_one : ∀ (a k : Nat) (r : List Int), r.length = a + k → dot (List.replicate a 1 ++ List.replicate k 0) r = (r.take a).sum
  | 0, k, r, _ => by
    rw [List.replicate_zero, List.nil_append, dot_zero]
    rfl
  | a + 1, k, [], h => by
    simp at h
    omega
  | a + 1, k, x :: r, h => by
    have ih := dot_one a k r (by rw [List.length_cons] at h; omega)
    unfold dot at *
    rw [List.replicate_succ, List.cons_append, List.zipWith_cons_cons, List.sum_cons, ih, List.take_succ_cons, List.sum_cons]
    omega
def nearR (n b : Nat) : List Int := List.replicate b 1 ++ List.replicate (n - b) 0
def farR (n b : Nat) : List Int := List.replicate (n - b) 0 ++ List.replicate b 1
theorem near_bits (n b : Nat) : Bits (nearR n b) := fun x hx => by
  rcases List.mem_append.mp hx with h | h
  · exact .inr (List.eq_of_mem_replicate h)
  · exact .inl (List.eq_of_mem_replicate h)
theorem far_bits (n b : Nat) : Bits (farR n b) := fun x hx => by
  rcases List.mem_append.mp hx with h | h
  · exact .inl (List.eq_of_mem_replicate h)
  · exact .inr (List.eq_of_mem_replicate h)
theorem near_len {n b : Nat} (h : b ≤ n) : (nearR n b).length = n := by
  unfold nearR
  rw [List.length_append, List.length_replicate, List.length_replicate]
  omega
theorem far_len {n b : Nat} (h : b ≤ n) : (farR n b).length = n := by
  unfold farR
  rw [List.length_append, List.length_replicate, List.length_replicate]
  omega
theorem near_sum (n b : Nat) : (nearR n b).sum = b := by
  unfold nearR
  rw [List.sum_append, sum_rep, sum_rep]
  omega
theorem far_sum (n b : Nat) : (farR n b).sum = b := by
  unfold farR
  rw [List.sum_append, sum_rep, sum_rep]
  omega
theorem near_take (n a b : Nat) : ((nearR n b).take a).sum = (min a b : Nat) := by
  unfold nearR
  rw [List.take_append, List.sum_append, List.take_replicate, List.take_replicate, sum_rep, sum_rep]
  omega
theorem far_take {n a b : Nat} (hb : b ≤ n) (ha : a ≤ n) : ((farR n b).take a).sum = (a + b - n : Nat) := by
  unfold farR
  rw [List.take_append, List.sum_append, List.take_replicate, List.take_replicate, sum_rep, sum_rep, List.length_replicate]
  omega
/-- how far the first a bits of a row may go -/
theorem take_ends {n a b : Nat} {r : List Int} (hl : r.length = n) (hb : Bits r) (hs : r.sum = b) (ha : a ≤ n) : (a + b - n : Nat) ≤ (r.take a).sum ∧ (r.take a).sum ≤ (min a b : Nat) := by
  have e := sum_split r a
  have h1 := bits_sum (r.take a) fun x hx => hb x (List.mem_of_mem_take hx)
  have h2 := bits_sum (r.drop a) fun x hx => hb x (List.mem_of_mem_drop hx)
  rw [List.length_take] at h1
  rw [List.length_drop] at h2
  omega
/-! sums over the first places -/
def Sm (f : Nat → Int) : Nat → Int
  | 0 => 0
  | n + 1 => Sm f n + f n
theorem Sm_congr {f g : Nat → Int} : ∀ {n : Nat}, (∀ i, i < n → f i = g i) → Sm f n = Sm g n
  | 0, _ => rfl
  | n + 1, h => by
    show Sm f n + f n = Sm g n + g n
    rw [Sm_congr (n := n) fun i hi => h i (by omega), h n (by omega)]
theorem Sm_plus (f g : Nat → Int) : ∀ n, Sm (fun i => f i + g i) n = Sm f n + Sm g n
  | 0 => rfl
  | n + 1 => by
    show Sm _ n + (f n + g n) = (Sm f n + f n) + (Sm g n + g n)
    rw [Sm_plus f g n]
    omega
theorem Sm_mul (c : Int) (f : Nat → Int) : ∀ n, Sm (fun i => c * f i) n = c * Sm f n
  | 0 => by
    show (0 : Int) = c * 0
    rw [Int.mul_zero]
  | n + 1 => by
    show Sm _ n + c * f n = c * (Sm f n + f n)
    rw [Sm_mul c f n, Int.mul_add]
theorem Sm_const (c : Int) : ∀ n, Sm (fun _ => c) n = n * c
  | 0 => by
    show (0 : Int) = ((0 : Nat) : Int) * c
    omega
  | n + 1 => by
    show Sm _ n + c = ((n + 1 : Nat) : Int) * c
    rw [Sm_const c n, Int.natCast_add, Int.add_mul]
    omega
theorem Sm_comm (f : Nat → Nat → Int) (m : Nat) : ∀ n, Sm (fun j => Sm (fun i => f i j) m) n = Sm (fun i => Sm (f i) n) m
  | 0 => by
    show (0 : Int) = Sm (fun _ => (0 : Int)) m
    rw [Sm_const]
    omega
  | n + 1 => by
    show Sm _ n + Sm (fun i => f i n) m = Sm (fun i => Sm (f i) n + f i n) m
    rw [Sm_comm f m n, Sm_plus]
theorem Sm_split (f : Nat → Int) (m : Nat) : ∀ k, Sm f (m + k) = Sm f m + Sm (fun j => f (m + j)) k
  | 0 => by
    show Sm f m = Sm f m + 0
    omega
  | k + 1 => by
    show Sm f (m + k) + f (m + k) = Sm f m + (Sm _ k + f (m + k))
    rw [Sm_split f m k]
    omega
theorem Sm_head (f : Nat → Int) : ∀ n, Sm f (n + 1) = f 0 + Sm (fun j => f (j + 1)) n
  | 0 => by
    show (0 : Int) + f 0 = f 0 + 0
    omega
  | n + 1 => by
    show Sm f (n + 1) + f (n + 1) = f 0 + (Sm _ n + f (n + 1))
    rw [Sm_head f n]
    omega
theorem Sm_rev (f : Nat → Int) : ∀ m, Sm (fun k => f (m - 1 - k)) m = Sm f m
  | 0 => rfl
  | m + 1 => by
    rw [Sm_head]
    show f (m + 1 - 1 - 0) + _ = Sm f m + f m
    rw [show m + 1 - 1 - 0 = m by omega, ← Sm_rev f m]
    rw [Sm_congr (f := fun j => f (m + 1 - 1 - (j + 1))) (g := fun k => f (m - 1 - k)) fun i hi => by rw [show m + 1 - 1 - (i + 1) = m - 1 - i by omega]]
    omega
theorem Sm_turn (f : Nat → Int) {i n : Nat} (hi : i < n) : Sm (fun b => f ((i + n - b) % n)) n = Sm f n := by
  have e : n = (i + 1) + (n - i - 1) := by omega
  have h1 : Sm (fun b => f ((i + n - b) % n)) (i + 1) = Sm f (i + 1) := by
    rw [← Sm_rev f (i + 1)]
    refine Sm_congr fun b hb => ?_
    rw [show i + n - b = (i + 1 - 1 - b) + n by omega, Nat.add_mod_right, Nat.mod_eq_of_lt (by omega)]
  have h2 : Sm (fun j => f ((i + n - (i + 1 + j)) % n)) (n - i - 1) = Sm (fun j => f (i + 1 + j)) (n - i - 1) := by
    rw [← Sm_rev (fun j => f (i + 1 + j)) (n - i - 1)]
    refine Sm_congr fun b hb => ?_
    rw [Nat.mod_eq_of_lt (by omega), show i + n - (i + 1 + b) = i + 1 + (n - i - 1 - 1 - b) by omega]
  have s1 := Sm_split (fun b => f ((i + n - b) % n)) (i + 1) (n - i - 1)
  have s2 := Sm_split f (i + 1) (n - i - 1)
  rw [← e] at s1 s2
  rw [s1, s2, h1, h2]
theorem Sm_list : ∀ (xs : List Int), xs.sum = Sm (fun i => xs.getD i 0) xs.length
  | [] => rfl
  | x :: r => by
    rw [List.sum_cons, List.length_cons, Sm_head, Sm_list r]
    rfl
theorem Sm_map (v : Nat → Int) : ∀ n, ((List.range n).map v).sum = Sm v n
  | 0 => rfl
  | n + 1 => by
    rw [List.range_succ, List.map_append, List.sum_append, Sm_map v n]
    show _ + (v n + 0) = Sm v n + v n
    omega
theorem Sm_filter (p : Nat → Bool) (v : Nat → Int) : ∀ n, (((List.range n).filter p).map v).sum = Sm (fun i => if p i = true then v i else 0) n
  | 0 => rfl
  | n + 1 => by
    rw [List.range_succ, List.filter_append, List.map_append, List.sum_append, Sm_filter p v n]
    show _ + (([n].filter p).map v).sum = Sm _ n + (if p n = true then v n else 0)
    by_cases h : p n = true
    · rw [List.filter_cons_of_pos h, if_pos h]
      show _ + (v n + 0) = _
      omega
    · rw [List.filter_cons_of_neg h, if_neg h]
      rfl
theorem Sm_count (p : Nat → Bool) : ∀ n, (((List.range n).filter p).length : Int) = Sm (fun i => if p i = true then 1 else 0) n
  | 0 => rfl
  | n + 1 => by
    rw [List.range_succ, List.filter_append, List.length_append, Int.natCast_add, Sm_count p n]
    show _ + ((([n].filter p).length : Nat) : Int) = Sm _ n + (if p n = true then 1 else 0)
    by_cases h : p n = true
    · rw [List.filter_cons_of_pos h, if_pos h]
      rfl
    · rw [List.filter_cons_of_neg h, if_neg h]
      rfl
/-! rows that meet, one late -/
def mt (rs ss : List Int) (b : Nat) : Int := Sm (fun i => rs.getD i 0 * ss.getD ((i + rs.length - b) % rs.length) 0) rs.length
theorem dot_Sm : ∀ (rs ss : List Int), rs.length = ss.length → dot rs ss = Sm (fun i => rs.getD i 0 * ss.getD i 0) rs.length
  | [], [], _ => rfl
  | x :: r, y :: t, h => by
    have ih := dot_Sm r t (by simpa using h)
    unfold dot at *
    rw [List.zipWith_cons_cons, List.sum_cons, List.length_cons, Sm_head, ih]
    rfl
theorem dot_mt {rs ss : List Int} (h : rs.length = ss.length) : dot rs ss = mt rs ss 0 := by
  rw [dot_Sm rs ss h]
  unfold mt
  refine Sm_congr fun i hi => ?_
  rw [Nat.sub_zero, Nat.add_mod_right, Nat.mod_eq_of_lt hi]
/-- all together -/
theorem mt_all {rs ss : List Int} (h : rs.length = ss.length) : Sm (mt rs ss) rs.length = rs.sum * ss.sum := by
  unfold mt
  rw [Sm_comm]
  rw [Sm_congr (g := fun i => ss.sum * rs.getD i 0) fun i hi => by
    rw [Sm_mul (rs.getD i 0) (fun b => ss.getD ((i + rs.length - b) % rs.length) 0), Sm_turn (fun j => ss.getD j 0) hi, Sm_list ss, ← h, Int.mul_comm]]
  rw [Sm_mul, ← Sm_list, Int.mul_comm]
def LS (rs ss : List Int) : List Int := (List.range rs.length).map fun b => rs.length * mt rs ss b - rs.sum * ss.sum
theorem LS_len (rs ss : List Int) : (LS rs ss).length = rs.length := by
  unfold LS
  rw [List.length_map, List.length_range]
theorem LS_sum {rs ss : List Int} (h : rs.length = ss.length) : (LS rs ss).sum = 0 := by
  unfold LS
  rw [Sm_map]
  have e : Sm (fun b => (rs.length : Int) * mt rs ss b - rs.sum * ss.sum) rs.length = Sm (fun b => (rs.length : Int) * mt rs ss b + -(rs.sum * ss.sum)) rs.length := Sm_congr fun i _ => by omega
  rw [e, Sm_plus, Sm_mul, mt_all h, Sm_const, Int.mul_neg]
  omega
theorem LS_at {rs ss : List Int} {b : Nat} (hb : b < rs.length) : (LS rs ss)[b]? = some (rs.length * mt rs ss b - rs.sum * ss.sum) := by
  unfold LS
  rw [List.getElem?_map, List.getElem?_range hb]
  rfl
theorem bit_mul {x y : Int} (hx : x = 0 ∨ x = 1) : (if decide (x = 1) = true then y else 0) = x * y := by
  rcases hx with rfl | rfl
  · rw [if_neg (by decide), Int.zero_mul]
  · rw [if_pos (by decide), Int.one_mul]
theorem bits_at {rs : List Int} (h : Bits rs) (i : Nat) : rs.getD i 0 = 0 ∨ rs.getD i 0 = 1 := by
  rw [List.getD_eq_getElem?_getD]
  cases e : rs[i]? with
  | none => exact .inl rfl
  | some x => exact h x (List.mem_of_getElem? e)
def places (rs : List Int) (n : Nat) : List Nat := (List.range n).filter fun i => decide (rs.getD i 0 = 1)
theorem places_mt {rs ss : List Int} (h : Bits rs) (b : Nat) : ((places rs rs.length).map fun i => ss.getD ((i + rs.length - b) % rs.length) 0).sum = mt rs ss b := by
  unfold places mt
  rw [Sm_filter]
  exact Sm_congr fun i _ => bit_mul (bits_at h i)
theorem count_mt {rs ss : List Int} (h : Bits rs) (h2 : Bits ss) (b : Nat) : (((List.range rs.length).filter fun i => decide (rs.getD i 0 = 1) && decide (ss.getD ((i + rs.length - b) % rs.length) 0 = 1)).length : Int) = mt rs ss b := by
  rw [Sm_count]
  unfold mt
  refine Sm_congr fun i _ => ?_
  show _ = rs.getD i 0 * ss.getD ((i + rs.length - b) % rs.length) 0
  rcases bits_at h i with e | e <;> rcases bits_at h2 ((i + rs.length - b) % rs.length) with e2 | e2 <;> rw [e, e2] <;> decide
theorem getD_at {rs : List Int} {i : Nat} (h : i < rs.length) : rs[i]? = some (rs.getD i 0) := by
  rw [List.getD_eq_getElem?_getD, List.getElem?_eq_getElem h]
  rfl
/-! set(xs) of a list of numbers, with all that sorted() asks of it -/
abbrev noSet (w : World) : Obj := { cls := .type "set", dict := none, data := .set #[] 0 (.fresh 0 0 (!w.params.followText "set-order")) }
section
variable {P : Program} {w : World} {A : Around} {E : Value → Shared → Prop} {s : Shared}
theorem two_off {z l b : Nat} {h : Heap} {o : Obj} (hz : h.objs.size = z) (hb : b < z) : b ∉ [z, (h.push o).objs.size] := by
  rw [Heap.size_push, hz]
  intro hm
  rcases List.mem_cons.mp hm with e | hm
  · omega
  · have := List.mem_singleton.mp hm
    omega
set_option maxRecDepth 100000 in
set_option maxHeartbeats 3200000 in
theorem set_of_list {l : Addr} {xs : Array Value} (ns : List Int) {Q : Value → Shared → Prop} (hA : A.handled = none) (hl : s.heap.IsList l xs) (hi : IntsAre xs.toList ns) (hn : ns.length + 1 < scanBound)
    (fin : ∀ (h' : Heap) (tk c : Nat), SetR w h' s.heap.objs.size (fun j => decide (j ∈ ns)) c → c ≤ ns.length → (∀ b o, s.heap.get? b = some o → h'.get? b = some o) → Q (.ref s.heap.objs.size) { s with heap := h', toks := tk }) :
    wpAny (model P w) A (call (.type "set") [.ref l]) Q E s := by
  have size_eq : xs.size = ns.length := by
    have e := IntsAre.length hi
    rw [Array.length_toList] at e
    exact e
  obtain ⟨c₀, rest, mro₀⟩ := PySem.F.called_set.mro
  have made₀ := PySem.F.called_set.made
  have sub₀ := PySem.F.called_set.sub
  refine wpAny_call (codeAny_of_tree ?_)
  show wpAny _ _ (callAny (.type "set") _) _ _ _
  refine wpAny_pure ⟨Code.quiet_builtin _ (by decide +kernel), codeAny_builtin PySem.F.entry_type_call ?_⟩
  rw [Around.under_plain (weight_type_call_type "set" [.ref l] []) rfl]
  have nt₀ := PySem.F.called_set.notType
  have cc₀ := PySem.F.called_set.canCreate
  have tc₀ := PySem.F.typeCall_set_1 (.ref l)
  repeat (any_goals (first | assumption | wp_step))
  refine codeAny_mono (code_set_led1 (.ref l) (E := E) (Q₁ := fun obj t₁ => obj = .ref s.heap.objs.size ∧ t₁ = { s with heap := s.heap.push (noSet w) }) ⟨rfl, rfl⟩) fun r t₁ out => ?_
  cases r with
  | error e => exact out
  | ok fl =>
    cases fl with
    | ret obj =>
      obtain ⟨rfl, rfl⟩ := out
      have at₀ : (s.heap.push (noSet w)).get? s.heap.objs.size = some (noSet w) := Heap.get?_push_size _ rfl
      have ty₀ : Shared.TypeIs { s with heap := s.heap.push (noSet w) } (.ref s.heap.objs.size) "set" := ⟨_, at₀, rfl⟩
      have lk₀ := PySem.F.called_set.init.lookup
      have bd₀ := PySem.F.called_set.init.bind (.ref s.heap.objs.size)
      repeat (any_goals (first | assumption | wp_step))
      refine codeAny_mono (codeAny_call_builtin (R := wants (fun r t₂ => r = .none ∧ ∃ h' tk c, t₂ = { s with heap := h', toks := tk } ∧ SetR w h' s.heap.objs.size (fun j => decide (j ∈ ns)) c ∧ c ≤ ns.length ∧ (∀ b o, s.heap.get? b = some o → h'.get? b = some o)) E)
        PySem.F.called_set.init.plain PySem.F.entry_set_init (check_set_init_1 ty₀ ?_)) fun r₂ t₂ out₂ => ?_
      · obtain ⟨⟨kc, kd, kt, ks⟩, gl, cl, nl, dl⟩ := hl
        simp only at cl dl
        subst cl
        subst dl
        have lS : l < s.heap.objs.size := Heap.lt_size gl
        have gl' : (s.heap.push (noSet w)).get? l = some { cls := .type "list", dict := kd, data := .seq xs nl, slots := ks } := Heap.get?_push_of_some _ gl
        have no1 := PySem.F.sub_list_set
        have no2 := PySem.F.sub_list_frozenset
        have no3 : (Value.type "list" == Value.type "dict") = false := by decide
        have il : (s.heap.push (noSet w)).IsList l xs := ⟨_, gl', rfl, nl, rfl⟩
        unfold Builtin.«set.__init__» noKeywords Builtin.Frozenset.updateFrom
        generalize hPI : pyIter = PI
        wp_walk
        subst hPI
        refine wpAny_pyIter_list il (wpAny_bind (wpAny_runValue ?_))
        have hA3 : A.in1.in1.in1.handled = none := by simp [hA]
        have lI : l ≠ (s.heap.push (noSet w)).objs.size := by
          rw [Heap.size_push]
          exact Nat.ne_of_lt (Nat.lt_succ_of_lt lS)
        have offS : s.heap.objs.size ∉ [(s.heap.push (noSet w)).objs.size, l] := by
          rw [Heap.size_push]
          intro hm
          rcases List.mem_cons.mp hm with e | hm
          · exact absurd e (Nat.ne_of_lt (Nat.lt_succ_self _))
          · exact absurd (List.mem_singleton.mp hm) (Nat.ne_of_gt lS)
        have vals : ∀ (i : Nat) (v : Value), xs[i]? = some v → ∃ k t, ns[i]? = some k ∧ v = .int k t := fun i v hv => by
          have lt : i < ns.length := by
            rw [← size_eq]
            exact (Array.getElem?_eq_some_iff.mp hv).1
          obtain ⟨t, e⟩ := IntsAre.int_at hi i v (by rw [Array.getElem?_toList]; exact hv)
          exact ⟨ns.getD i 0, t, getD_at lt, e⟩
        refine set_update_ints ((Walks.list hA3 _ l lI xs).toS) s.heap.objs.size offS ns size_eq hn vals (xs.size - 0) 0 _ (by omega) (Nat.zero_le _) ⟨⟨_, Heap.get?_push_size _ rfl, rfl, rfl⟩, (il.push _)⟩
          ⟨0, Nat.le_refl 0, setR_new_at (Heap.get?_push_of_some _ at₀)⟩ fun t' c' moved small R' => ?_
        obtain ⟨h', g', d', tk', os'⟩ := t'
        have e1 : g' = s.gens := moved.gens
        have e2 : d' = s.drawn := moved.drawn
        have e3 : os' = s.os := moved.os
        subst e1
        subst e2
        subst e3
        show wpAny _ _ _ _ _ _
        refine wpAny_pure ?_
        show wpAny _ _ (ret Value.none) _ _ _
        rw [size_eq] at small
        exact wpAny_pure ⟨rfl, h', tk', c', rfl, R', small, fun b o e => moved.heap b o (two_off (l := l) rfl (Heap.lt_size e)) (Heap.get?_push_of_some _ (Heap.get?_push_of_some _ e))⟩
      · cases r₂ with
        | error e => exact out₂
        | ok fl₂ =>
          cases fl₂ with
          | ret r =>
            obtain ⟨rfl, h', tk, c', rfl, R', small, kept⟩ := out₂
            repeat (any_goals (first | assumption | wp_step))
            exact fin _ _ _ R' small kept
          | _ => exact out₂.elim
    | _ => exact out.elim
end
def rSetL (K : PySem.W.Frag) (w : World) : List V → Hp → VK → Prop := fun vs H Q => ∃ (l : Addr) (ns : List Int), vs = [V.ref l] ∧ SqL K H l (ns.map V.int) ∧ ns.length ≤ 1000 ∧ ∀ (p : Addr) (c : Nat), H p = none → c ≤ ns.length → Q (.ref p) (upd H p (SetO w p (fun j => decide (j ∈ ns)) c))
theorem cr_setL {X : Cx} (hc : X.calm = true) : CallR X (.type "set") (rSetL X.K X.w) := by
  intro pins s σ H xs us Q I r h
  obtain ⟨l, ns, rfl, hq, hl, q⟩ := h
  rw [Vals.ref1 r]
  obtain ⟨its, rv, pl, _⟩ := I.list hq
  refine set_of_list ns (I.ok.hd hc) pl.isList (by simpa using intsAre_of rv) (by unfold scanBound; omega) fun h' tk c R small kept => ?_
  exact ⟨.ref _, upd H s.heap.objs.size (SetO X.w s.heap.objs.size (fun j => decide (j ∈ ns)) c), I.laid (t' := tk) kept (Nat.le_refl _) (setO_new R), rfl, q _ c (I.hok.fresh (Nat.le_refl _)) small⟩
theorem setLW {X : Cx} {K : PySem.W.Frag} {w : World} (hK : X.K = K) (hw : X.w = w) (hc : X.calm = true) : CallR X (.type "set") (rSetL K w) := by
  subst hK hw
  exact cr_setL hc
theorem sortedW {X : Cx} {w : World} (hw : X.w = w) (hc : X.calm = true) : CallR X (.builtin "sorted") (rSortedSet w) := by
  subst hw
  exact cr_sortedSet hc
/-! formulas -/
inductive Fm where
  | inp (i : Nat)
  | less (f : Fm)
  | both (f g : Fm)
  | either (f g : Fm)
  | oneof (f g : Fm)
  | pick (f g h : Fm)
namespace Fm
def word : Fm → Str
  | inp _ => "in"
  | less _ => "less"
  | both _ _ => "both"
  | either _ _ => "either"
  | oneof _ _ => "oneof"
  | pick _ _ _ => "pick"
def sds : Fm → List Fm
  | inp _ => []
  | less f => [f]
  | both f g => [f, g]
  | either f g => [f, g]
  | oneof f g => [f, g]
  | pick f g h => [f, g, h]
def dep : Fm → Nat
  | inp _ => 1
  | less f => f.dep + 1
  | both f g => max f.dep g.dep + 1
  | either f g => max f.dep g.dep + 1
  | oneof f g => max f.dep g.dep + 1
  | pick f g h => max f.dep (max g.dep h.dep) + 1
def sz : Fm → Nat
  | inp _ => 1
  | less f => f.sz + 1
  | both f g => f.sz + g.sz + 1
  | either f g => f.sz + g.sz + 1
  | oneof f g => f.sz + g.sz + 1
  | pick f g h => f.sz + g.sz + h.sz + 1
def ins : Fm → List Nat
  | inp i => [i]
  | less f => f.ins
  | both f g => f.ins ++ g.ins
  | either f g => f.ins ++ g.ins
  | oneof f g => f.ins ++ g.ins
  | pick f g h => f.ins ++ (g.ins ++ h.ins)
theorem sz_pos (f : Fm) : 1 ≤ f.sz := by
  cases f <;> simp [sz]
theorem dep_pos (f : Fm) : 1 ≤ f.dep := by
  cases f <;> simp [dep]
theorem ins_len : ∀ f : Fm, 1 ≤ f.ins.length ∧ f.ins.length ≤ f.sz
  | inp i => ⟨Nat.le_refl 1, Nat.le_refl 1⟩
  | less f => by
    have := ins_len f
    simp only [ins, sz]
    omega
  | both f g => by
    have := ins_len f
    have := ins_len g
    simp only [ins, sz, List.length_append]
    omega
  | either f g => by
    have := ins_len f
    have := ins_len g
    simp only [ins, sz, List.length_append]
    omega
  | oneof f g => by
    have := ins_len f
    have := ins_len g
    simp only [ins, sz, List.length_append]
    omega
  | pick f g h => by
    have := ins_len f
    have := ins_len g
    have := ins_len h
    simp only [ins, sz, List.length_append]
    omega
theorem sds_dep {f g : Fm} (h : g ∈ f.sds) : g.dep < f.dep ∧ g.sz < f.sz := by
  cases f <;> simp only [sds, List.mem_cons, List.not_mem_nil, or_false] at h
  · subst h
    simp only [dep, sz]
    omega
  all_goals
    simp only [dep, sz]
    rcases h with rfl | h
    · omega
  · subst h; omega
  · subst h; omega
  · subst h; omega
  · rcases h with rfl | rfl <;> omega
theorem sds_ins {f : Fm} (h : f.word ≠ "in") : (f.sds.map ins).flatten = f.ins := by
  cases f with
  | inp i => exact absurd rfl h
  | _ => simp [sds, ins]
theorem sds_mem {f g : Fm} {i : Nat} (h : g ∈ f.sds) (hi : i ∈ g.ins) : i ∈ f.ins := by
  cases f <;> simp only [sds, List.mem_cons, List.not_mem_nil, or_false] at h
  · subst h
    exact hi
  all_goals
    simp only [ins, List.mem_append]
  · rcases h with rfl | rfl
    · exact .inl hi
    · exact .inr hi
  · rcases h with rfl | rfl
    · exact .inl hi
    · exact .inr hi
  · rcases h with rfl | rfl
    · exact .inl hi
    · exact .inr hi
  · rcases h with rfl | rfl | rfl
    · exact .inl hi
    · exact .inr (.inl hi)
    · exact .inr (.inr hi)
end Fm
def FmAt (H : Hp) : Fm → V → Prop
  | .inp i, v => ∃ a, v = .ref a ∧ H a = some (.tup [.str "in", .int (i : Nat)])
  | .less f, v => ∃ a u, v = .ref a ∧ H a = some (.tup [.str "less", u]) ∧ FmAt H f u
  | .both f g, v => ∃ a u x, v = .ref a ∧ H a = some (.tup [.str "both", u, x]) ∧ FmAt H f u ∧ FmAt H g x
  | .either f g, v => ∃ a u x, v = .ref a ∧ H a = some (.tup [.str "either", u, x]) ∧ FmAt H f u ∧ FmAt H g x
  | .oneof f g, v => ∃ a u x, v = .ref a ∧ H a = some (.tup [.str "oneof", u, x]) ∧ FmAt H f u ∧ FmAt H g x
  | .pick f g h, v => ∃ a u x y, v = .ref a ∧ H a = some (.tup [.str "pick", u, x, y]) ∧ FmAt H f u ∧ FmAt H g x ∧ FmAt H h y
theorem FmAt.keep {H H' : Hp} (k : ∀ a xs, H a = some (.tup xs) → H' a = some (.tup xs)) : ∀ {f : Fm} {v : V}, FmAt H f v → FmAt H' f v
  | .inp i, v, ⟨a, e, h⟩ => ⟨a, e, k _ _ h⟩
  | .less f, v, ⟨a, u, e, h, h1⟩ => ⟨a, u, e, k _ _ h, FmAt.keep k h1⟩
  | .both f g, v, ⟨a, u, x, e, h, h1, h2⟩ => ⟨a, u, x, e, k _ _ h, FmAt.keep k h1, FmAt.keep k h2⟩
  | .either f g, v, ⟨a, u, x, e, h, h1, h2⟩ => ⟨a, u, x, e, k _ _ h, FmAt.keep k h1, FmAt.keep k h2⟩
  | .oneof f g, v, ⟨a, u, x, e, h, h1, h2⟩ => ⟨a, u, x, e, k _ _ h, FmAt.keep k h1, FmAt.keep k h2⟩
  | .pick f g h, v, ⟨a, u, x, y, e, h0, h1, h2, h3⟩ => ⟨a, u, x, y, e, k _ _ h0, FmAt.keep k h1, FmAt.keep k h2, FmAt.keep k h3⟩
theorem FmAt.same {H H' : Hp} {f : Fm} {v : V} (h : FmAt H f v) (s : Same H H') : FmAt H' f v := h.keep fun _ _ e => s _ _ e
theorem FmAt.but {H H' : Hp} {f : Fm} {v : V} {p : Addr} {n : Nat} (h : FmAt H f v) (B : Bx H p n) (s : But p H H') : FmAt H' f v := h.keep fun _ _ e => s _ _ (B.ne_tup e) e
/-- the sides of a part, as they stand -/
def FsAt (H : Hp) (fs : List Fm) (us : List V) : Prop := us.length = fs.length ∧ ∀ (i : Nat) (f : Fm) (u : V), fs[i]? = some f → us[i]? = some u → FmAt H f u
theorem FsAt.keep {H H' : Hp} {fs : List Fm} {us : List V} (h : FsAt H fs us) (k : ∀ a xs, H a = some (.tup xs) → H' a = some (.tup xs)) : FsAt H' fs us := ⟨h.1, fun i f u e1 e2 => (h.2 i f u e1 e2).keep k⟩
theorem FsAt.same {H H' : Hp} {fs : List Fm} {us : List V} (h : FsAt H fs us) (s : Same H H') : FsAt H' fs us := h.keep fun _ _ e => s _ _ e
theorem FmAt.shape {H : Hp} {f : Fm} {v : V} (h : FmAt H f v) : (∃ i a, f = .inp i ∧ v = .ref a ∧ H a = some (.tup [.str "in", .int (i : Nat)])) ∨ ∃ a us, v = .ref a ∧ H a = some (.tup (.str f.word :: us)) ∧ f.word ≠ "in" ∧ FsAt H f.sds us := by
  cases f with
  | inp i =>
    obtain ⟨a, e, h⟩ := h
    exact .inl ⟨i, a, rfl, e, h⟩
  | less f =>
    obtain ⟨a, u, e, h, h1⟩ := h
    refine .inr ⟨a, [u], e, h, by simp only [Fm.word]; decide +kernel, rfl, fun i g x e1 e2 => ?_⟩
    match i with
    | 0 => cases e1; cases e2; exact h1
    | i + 1 => cases e1
  | both f g =>
    obtain ⟨a, u, x, e, h, h1, h2⟩ := h
    refine .inr ⟨a, [u, x], e, h, by simp only [Fm.word]; decide +kernel, rfl, fun i g x e1 e2 => ?_⟩
    match i with
    | 0 => cases e1; cases e2; exact h1
    | 1 => cases e1; cases e2; exact h2
    | i + 2 => cases e1
  | either f g =>
    obtain ⟨a, u, x, e, h, h1, h2⟩ := h
    refine .inr ⟨a, [u, x], e, h, by simp only [Fm.word]; decide +kernel, rfl, fun i g x e1 e2 => ?_⟩
    match i with
    | 0 => cases e1; cases e2; exact h1
    | 1 => cases e1; cases e2; exact h2
    | i + 2 => cases e1
  | oneof f g =>
    obtain ⟨a, u, x, e, h, h1, h2⟩ := h
    refine .inr ⟨a, [u, x], e, h, by simp only [Fm.word]; decide +kernel, rfl, fun i g x e1 e2 => ?_⟩
    match i with
    | 0 => cases e1; cases e2; exact h1
    | 1 => cases e1; cases e2; exact h2
    | i + 2 => cases e1
  | pick f g h' =>
    obtain ⟨a, u, x, y, e, h, h1, h2, h3⟩ := h
    refine .inr ⟨a, [u, x, y], e, h, by simp only [Fm.word]; decide +kernel, rfl, fun i g x e1 e2 => ?_⟩
    match i with
    | 0 => cases e1; cases e2; exact h1
    | 1 => cases e1; cases e2; exact h2
    | 2 => cases e1; cases e2; exact h3
    | i + 3 => cases e1
theorem FsAt.get {H : Hp} {fs : List Fm} {us : List V} (h : FsAt H fs us) {i : Nat} {u : V} (hu : us[i]? = some u) : ∃ f, fs[i]? = some f ∧ f ∈ fs ∧ FmAt H f u := by
  have hi := (List.getElem?_eq_some_iff.mp hu).1
  have hi2 : i < fs.length := by rw [← h.1]; exact hi
  exact ⟨fs[i], List.getElem?_eq_getElem hi2, List.getElem_mem hi2, h.2 i _ u (List.getElem?_eq_getElem hi2) hu⟩
theorem cut_tail (v : V) (us : List V) : cutV (v :: us) (some 1) none = us := by
  unfold cutV
  rw [show (1 : Int) = ((1 : Nat) : Int) from rfl, HT.sIx_nat, HT.sIx_none]
  have e : min 1 (v :: us).length = 1 := by simp
  rw [e, List.drop_succ_cons, List.drop_zero, List.length_cons]
  exact List.take_of_length_le (by omega)
/-! formulas drawn -/
structure Fm.Ok (f : Fm) (d m w : Nat) : Prop where
  dp : f.dep ≤ max d 1
  sz : f.sz ≤ m
  ins : ∀ i, i ∈ f.ins → i < w
def spr__law_formula (d : Nat) (_ : PySem.W.Frag) : Sp := fun vs H Q _ => ∃ (p : Addr) (n de ma wi : Nat), vs = [.ref p, .int (de : Nat), .int (ma : Nat), .int (wi : Nat)] ∧ Bx H p n ∧ n + 4 * ma < 100000000 ∧ de < d ∧ 1 ≤ ma ∧ ma ≤ 100 ∧ 1 ≤ wi ∧ wi ≤ 100 ∧
  ∀ H' v f, But p H H' → Bx H' p (n + 4 * ma) → FmAt H' f v → f.Ok de ma wi → Q v H'
theorem no__law_formula {K : PySem.W.Frag} {vs : List V} {H : Hp} {Q : VK} {E : XK} (h : spr__law_formula 0 K vs H Q E) : False := by
  obtain ⟨p, n, de, ma, wi, _, _, _, z, _⟩ := h
  exact Nat.not_lt_zero _ z
/-- three formulas drawn so far -/
def F3 (p D : Addr) (X : Hp) (n l de wi : Nat) (i : Nat) (G : Hp) : Prop := ∃ fs : List (V × Fm), fs.length = i ∧ G D = some (.lst (fs.map Prod.fst)) ∧ (∀ q, q ∈ fs → FmAt G q.2 q.1 ∧ q.2.Ok de l wi) ∧ But p X G ∧ Bx G p (n + 4 * l * i)
theorem okr__law_formula (T : Defs K mg) : ∀ d : Nat, FnOk P w K mg base CX0 (2 + d) T.f__law_formula T.fd__law_formula ["_law_box_here", "_law_deep", "_law_many", "_law_wide"] (spr__law_formula d K)
  | 0 => ⟨fun _ _ _ _ z => (no__law_formula z).elim, fun _ _ _ _ _ _ _ _ _ _ _ _ _ z => (no__law_formula z).elim⟩
  | d + 1 => by
    have G__law_take : FnOk P w K mg base CX0 1 T.f__law_take T.fd__law_take ["_law_box_here", "_law_many"] (sp__law_take K) := ok__law_take T
    have G__law_formula : FnOk P w K mg base CX0 (2 + d) T.f__law_formula T.fd__law_formula ["_law_box_here", "_law_deep", "_law_many", "_law_wide"] (spr__law_formula d K) := okr__law_formula T d
    show FnOk P w K mg base CX0 ((2 + d) + 1) T.f__law_formula T.fd__law_formula ["_law_box_here", "_law_deep", "_law_many", "_law_wide"] (spr__law_formula (d + 1) K)
    refine T.F__law_formula.ok sc__law_formula (fun vs H Q E h => ?_) (fun cdv A outer s H vs Q E hr h => ?_)
    · obtain ⟨p, n, de, ma, wi, rfl, hB, hn, hd, m1, m2, w1, w2, q⟩ := h
      rfl
    · obtain ⟨p, n, de, ma, wi, rfl, hB, hn, hd, m1, m2, w1, w2, q⟩ := h
      refine ⟨_, PSs.nox (pss_cons (ps_set (i := 4) sc__law_formula.nd rfl (.inl rfl) (pe_call G__law_take (hr.mono (by omega)) (by rfl) T.g__law_take T.F__law_take.kp T.b__law_take .nil pass0 (pa_cons (pv 0) (pa_cons pe_int pa_nil))))
    (pss_cons (ps_if (PW.pt (pw_or (pt_cmpR op_lt (pv 1) pe_int (nomark _)) (pw_or (pt_cmpR op_lt (pv 2) pe_int (nomark _)) (pw_or1 (pt_cmpR op_eq (pv 4) pe_int (nomark _)))))) (pss_one (ps_ret (pe_tup (pa_cons pe_str (pa_cons (pe_call G__law_take (hr.mono (by omega)) (by rfl) T.g__law_take T.F__law_take.kp T.b__law_take .nil pass0 (pa_cons (pv 0) (pa_cons (pv 3) pa_nil))) pa_nil))))) pss_nil)
    (pss_cons (ps_if (PW.pt (pw_or (pt_cmpR op_eq (pv 4) pe_int (nomark _)) (pw_or1 (pt_cmpR op_lt (pv 2) pe_int (nomark _))))) (pss_one (ps_ret (pe_tup (pa_cons pe_str (pa_cons (pe_call G__law_formula (hr.mono (by omega)) (by rfl) T.g__law_formula T.F__law_formula.kp T.b__law_formula .nil pass0 (pa_cons (pv 0) (pa_cons (pe_op op_sub (pv 1) pe_int) (pa_cons (pe_op op_sub (pv 2) pe_int) (pa_cons (pv 3) pa_nil))))) pa_nil))))) pss_nil)
    (pss_cons (ps_if (PW.pt (pw_and (pt_cmpR op_eq (pv 4) pe_int (nomark _)) (pw_and1 (pt_cmpR op_gt (pv 2) pe_int (nomark _))))) (pss_cons (ps_set (i := 5) sc__law_formula.nd rfl (.inr rfl) (pe_op op_fdiv (pe_op op_sub (pv 2) pe_int) pe_int))
    (pss_one (ps_ret (pe_op op_catA (pe_tup (pa_cons pe_str pa_nil)) (pe_callTy call_tuple_of (by rfl) T.m_tuple bt_tuple (pa_cons (pe_lc (own := [("_law_turn", 7)]) (g := gName 7) (tt := tYes) rfl sc__law_formula.nd (pi_range1 (by rfl) T.m_range (pa_cons pe_int pa_nil)) (blkOk_by (N := N__law_formula) (sc := defScope s__law_formula) (by decide +kernel)) (fun _ _ _ _ _ => (pg_name (i := 7) sc__law_formula.nd rfl (.inl rfl))) (fun _ _ _ _ _ => pts_nil) (fun _ _ _ _ _ => (pe_call G__law_formula (hr.mono (by omega)) (by rfl) T.g__law_formula T.F__law_formula.kp T.b__law_formula .nil pass0 (pa_cons (pv 0) (pa_cons (pe_op op_sub (pv 1) pe_int) (pa_cons (pv 5) (pa_cons (pv 3) pa_nil))))))) pa_nil)))))) pss_nil)
    (pss_cons (ps_asg (pe_tup (pa_cons (pe_ix ix_list (pe_lst (pa_cons pe_str (pa_cons pe_str (pa_cons pe_str pa_nil)))) (pe_call G__law_take (hr.mono (by omega)) (by rfl) T.g__law_take T.F__law_take.kp T.b__law_take .nil pass0 (pa_cons (pv 0) (pa_cons pe_int pa_nil))) (fun _ _ => rfl)) (pa_cons (pe_op op_add pe_int (pe_call G__law_take (hr.mono (by omega)) (by rfl) T.g__law_take T.F__law_take.kp T.b__law_take .nil pass0 (pa_cons (pv 0) (pa_cons (pe_op op_sub (pv 2) pe_int) pa_nil)))) pa_nil))) (pg_tup rfl (pgs_cons (pg_name (i := 6) sc__law_formula.nd rfl (.inl rfl)) (pgs_cons (pg_name (i := 5) sc__law_formula.nd rfl (.inr rfl)) pgs_nil))))
    (pss_one (ps_ret (pe_tup (pa_cons (pv 6) (pa_cons (pe_call G__law_formula (hr.mono (by omega)) (by rfl) T.g__law_formula T.F__law_formula.kp T.b__law_formula .nil pass0 (pa_cons (pv 0) (pa_cons (pe_op op_sub (pv 1) pe_int) (pa_cons (pv 5) (pa_cons (pv 3) pa_nil))))) (pa_cons (pe_call G__law_formula (hr.mono (by omega)) (by rfl) T.g__law_formula T.F__law_formula.kp T.b__law_formula .nil pass0 (pa_cons (pv 0) (pa_cons (pe_op op_sub (pv 1) pe_int) (pa_cons (pe_op op_sub (pe_op op_sub (pv 2) pe_int) (pv 5)) (pa_cons (pv 3) pa_nil))))) pa_nil))))))))))), ?_⟩
      have hsl : sizeLine = 16777216 := by decide
      refine ⟨.ref p, rfl, p, 7, n, rfl, hB, by decide, by decide, by omega, fun H1 way c1 B1 l1 u1 => ?_⟩
      have fin : ∀ H' v f, But p H1 H' → Bx H' p (n + 4 * ma) → FmAt H' f v → f.Ok de ma wi → Q v H' := fun H' v f b B hf ok => q H' v f (c1.trans b) B hf ok
      refine ⟨_, rfl, _, _, rfl, rfl, _, rfl, ite2 (fun _ => ?_) (fun e1 => ?_)⟩
      · refine iteT ?_
        refine ⟨.ref p, rfl, _, rfl, p, (wi : Int), _, rfl, B1, by omega, by omega, by omega, fun H2 r c2 B2 l2 u2 => ⟨(show 2 ≤ sizeLine by decide), fun t nt => ?_⟩⟩
        obtain ⟨r, rfl⟩ := nat_of l2
        exact fin _ _ (.inp r) (c2.new nt) ((B2.new nt).mono (by omega)) ⟨t, rfl, upd_same⟩ ⟨by simp only [Fm.dep]; omega, by simp only [Fm.sz]; omega, fun i hi => by
          rw [List.mem_singleton.mp hi]
          omega⟩
      have de2 : 2 ≤ de := by
        have : ¬ (de : Int) < 2 := fun z => e1 (decide_eq_true z)
        omega
      refine ⟨_, rfl, _, _, rfl, rfl, _, rfl, ite2 (fun _ => ?_) (fun e2 => ?_)⟩
      · refine iteT ?_
        refine ⟨.ref p, rfl, _, rfl, p, (wi : Int), _, rfl, B1, by omega, by omega, by omega, fun H2 r c2 B2 l2 u2 => ⟨(show 2 ≤ sizeLine by decide), fun t nt => ?_⟩⟩
        obtain ⟨r, rfl⟩ := nat_of l2
        exact fin _ _ (.inp r) (c2.new nt) ((B2.new nt).mono (by omega)) ⟨t, rfl, upd_same⟩ ⟨by simp only [Fm.dep]; omega, by simp only [Fm.sz]; omega, fun i hi => by
          rw [List.mem_singleton.mp hi]
          omega⟩
      have ma2 : 2 ≤ ma := by
        have : ¬ (ma : Int) < 2 := fun z => e2 (decide_eq_true z)
        omega
      refine ⟨_, rfl, rfl, _, rfl, ite2 (fun _ => ?_) (fun _ => ?_)⟩
      · refine ⟨.ref p, rfl, _, rfl, p, (wi : Int), _, rfl, B1, by omega, by omega, by omega, fun H2 r c2 B2 l2 u2 => ⟨(show 2 ≤ sizeLine by decide), fun t nt => ?_⟩⟩
        obtain ⟨r, rfl⟩ := nat_of l2
        exact fin _ _ (.inp r) (c2.new nt) ((B2.new nt).mono (by omega)) ⟨t, rfl, upd_same⟩ ⟨by simp only [Fm.dep]; omega, by simp only [Fm.sz]; omega, fun i hi => by
          rw [List.mem_singleton.mp hi]
          omega⟩
      have ed : (de : Int) - 1 = ((de - 1 : Nat) : Int) := by omega
      have em : (ma : Int) - 1 = ((ma - 1 : Nat) : Int) := by omega
      clear e1 e2
      refine ⟨_, rfl, rfl, _, rfl, ite2 (fun _ => iteT ?_) (fun _ => ⟨_, rfl, _, _, rfl, rfl, _, rfl, ite2 (fun _ => ?_) (fun e3 => ?_)⟩)⟩
      · refine ⟨.ref p, rfl, _, rfl, _, _, rfl, rfl, _, rfl, _, _, rfl, rfl, _, rfl, p, _, de - 1, ma - 1, wi, by rw [← ed, ← em]; rfl, B1, by omega, by omega, by omega, by omega, w1, w2, fun H2 v f c2 B2 hf ok => ⟨(show 2 ≤ sizeLine by decide), fun t nt => ?_⟩⟩
        have o1 := ok.dp
        have o2 := ok.sz
        exact fin _ _ (.less f) (c2.new nt) ((B2.new nt).mono (by omega)) ⟨t, v, rfl, upd_same, hf.same (same_upd nt)⟩ ⟨by simp only [Fm.dep]; omega, by simp only [Fm.sz]; omega, ok.ins⟩
      · refine ⟨.ref p, rfl, _, rfl, _, _, rfl, rfl, _, rfl, _, _, rfl, rfl, _, rfl, p, _, de - 1, ma - 1, wi, by rw [← ed, ← em]; rfl, B1, by omega, by omega, by omega, by omega, w1, w2, fun H2 v f c2 B2 hf ok => ⟨(show 2 ≤ sizeLine by decide), fun t nt => ?_⟩⟩
        have o1 := ok.dp
        have o2 := ok.sz
        exact fin _ _ (.less f) (c2.new nt) ((B2.new nt).mono (by omega)) ⟨t, v, rfl, upd_same, hf.same (same_upd nt)⟩ ⟨by simp only [Fm.dep]; omega, by simp only [Fm.sz]; omega, ok.ins⟩
      have ma3 : 3 ≤ ma := by
        have : ¬ (ma : Int) < 3 := fun z => e3 (decide_eq_true z)
        omega
      clear e3
      refine nx_via (fun σ F => (∃ y5 y6 y7, σ = [some (.ref p), some (.int (de : Nat)), some (.int (ma : Nat)), some (.int (wi : Nat)), some (.int way), y5, y6, y7]) ∧ F = H1) (fun N key => ?_) ?_
      · refine ⟨_, rfl, rfl, _, rfl, ite2 (fun _ => ?_) (fun _ => iteF (key _ _ ⟨⟨_, _, _, rfl⟩, rfl⟩))⟩
        refine ⟨_, rfl, _, _, rfl, rfl, _, rfl, ite2 (fun e4 => ?_) (fun _ => key _ _ ⟨⟨_, _, _, rfl⟩, rfl⟩)⟩
        have ma4 : 4 ≤ ma := by
          have : (3 : Int) < (ma : Int) := of_decide_eq_true e4
          omega
        obtain ⟨l, hl⟩ : ∃ l : Nat, ((ma : Int) - 1) / 3 = (l : Int) := ⟨(ma - 1) / 3, by omega⟩
        have l1 : 1 ≤ l := by omega
        have l3 : 3 * l + 1 ≤ ma := by omega
        refine ⟨_, rfl, _, _, rfl, rfl, _, _, rfl, rfl, ⟨by decide, by decide⟩, ?_⟩
        try dsimp only
        rw [hl]
        refine ⟨(show 1 ≤ sizeLine by decide), fun t0 nt0 => ?_⟩
        have u0 := same_upd nt0 (o := .tup [.str "pick"])
        refine ⟨3, rfl, by decide, by decide, fun D nD => ?_⟩
        have nDp : D ≠ p := ne_new (B1.new (o := .tup [.str "pick"]) nt0) nD
        have ht0 := upd_same (H := H1) (a := t0) (o := .tup [.str "pick"])
        generalize upd H1 t0 (.tup [.str "pick"]) = X at u0 nD ht0 ⊢
        have BX := B1.same u0
        refine lc_range (F3 p D X (n + 1) l (de - 1) wi) ⟨[], rfl, upd_same, fun _ z => (by cases z), (But.refl p X).new nD, BX.new nD⟩ (fun j G hj h => ?_) (fun G h => ?_)
        · obtain ⟨fs, lf, hD, hfs, cG, BG⟩ := h
          have hj3 : j < 3 := by
            have : (3 : Int).toNat = 3 := rfl
            omega
          have ll : 4 * l * j ≤ 4 * l * 2 := Nat.mul_le_mul_left _ (by omega)
          refine ⟨rfl, yes_ite ?_⟩
          refine ⟨.ref p, rfl, _, rfl, _, _, rfl, rfl, _, rfl, _, rfl, p, _, de - 1, l, wi, by rw [← ed]; rfl, BG, by omega, by omega, l1, by omega, w1, w2, fun G2 v f c2 B2 hf ok => ?_⟩
          refine ⟨_, c2 _ _ nDp hD, by rw [List.length_map]; omega, fs ++ [(v, f)], by rw [List.length_append, lf]; rfl, by rw [upd_same, List.map_append]; rfl, fun q' hq => ?_, but_newer (cG.trans c2) nD, ?_⟩
          · have keep : ∀ t xs, G2 t = some (.tup xs) → (upd G2 D (.lst (fs.map Prod.fst ++ [v]))) t = some (.tup xs) := fun t xs e => by
              rw [upd_ne (ne_of e (c2 _ _ nDp hD) (fun z => by cases z))]
              exact e
            rcases List.mem_append.mp hq with hq | hq
            · exact ⟨((hfs q' hq).1.but BG c2).keep keep, (hfs q' hq).2⟩
            · rw [List.mem_singleton.mp hq]
              exact ⟨hf.keep keep, ok⟩
          · have e : n + 1 + 4 * l * j + 4 * l = n + 1 + 4 * l * (j + 1) := by rw [Nat.mul_add, Nat.mul_one]; omega
            rw [← e]
            exact B2.other nDp
        obtain ⟨fs, lf, hD, hfs, cG, BG⟩ := h
        have lf : fs.length = 3 := lf
        have BG : Bx G p (n + 1 + 4 * l * 3) := BG
        obtain ⟨q1, q2, q3, rfl⟩ : ∃ q1 q2 q3, fs = [q1, q2, q3] := by
          match fs, lf with
          | [a, b, c], _ => exact ⟨a, b, c, rfl⟩
        obtain ⟨f1, o1⟩ := hfs q1 (by simp)
        obtain ⟨f2, o2⟩ := hfs q2 (by simp)
        obtain ⟨f3, o3⟩ := hfs q3 (by simp)
        refine ⟨D, _, rfl, .inl ⟨SqL.mk hD, fun t1 nt1 => ?_⟩⟩
        have u1 := same_upd nt1 (o := .tup ([q1, q2, q3].map Prod.fst))
        refine ⟨t0, t1, _, _, rfl, rfl, SqT.mk (u1 _ _ (cG _ _ (BX.ne_tup ht0) ht0)), SqT.mk upd_same, (show 4 ≤ sizeLine by decide), fun z => (by cases z), fun _ z => (by cases z), fun _ _ t2 nt2 => ?_⟩
        have u2 := u1.trans (same_upd nt2 (o := .tup [.str "pick", q1.1, q2.1, q3.1]))
        have cA : But p H1 (upd (upd G t1 (.tup ([q1, q2, q3].map Prod.fst))) t2 (.tup ([V.str "pick"] ++ [q1, q2, q3].map Prod.fst))) := (same_but u0).trans (cG.trans (same_but u2))
        have d1 := o1.dp
        have d2 := o2.dp
        have d3 := o3.dp
        have z1 := o1.sz
        have z2 := o2.sz
        have z3 := o3.sz
        refine fin _ _ (.pick q1.2 q2.2 q3.2) cA ((BG.same u2).mono (by omega)) ⟨t2, q1.1, q2.1, q3.1, rfl, upd_same, f1.same u2, f2.same u2, f3.same u2⟩ ⟨by simp only [Fm.dep]; omega, by simp only [Fm.sz]; omega, fun i hi => ?_⟩
        simp only [Fm.ins, List.mem_append] at hi
        rcases hi with hi | hi | hi
        · exact o1.ins i hi
        · exact o2.ins i hi
        · exact o3.ins i hi
      rintro σ F ⟨⟨y5, y6, y7, rfl⟩, rfl⟩
      refine ⟨(show 3 ≤ sizeLine by decide), fun L nL => ?_⟩
      have uL := same_upd nL (o := .lst [.str "both", .str "either", .str "oneof"])
      have hL := upd_same (H := F) (a := L) (o := .lst [.str "both", .str "either", .str "oneof"])
      generalize upd F L (.lst [.str "both", .str "either", .str "oneof"]) = X at uL hL ⊢
      have BX := B1.same uL
      have nLp : L ≠ p := fun e => by
        obtain ⟨_, _, _, z, _⟩ := BX
        rw [← e, hL] at z
        cases z
      refine ⟨.ref p, rfl, p, 3, _, rfl, BX, by decide, by decide, by omega, fun G1 r1 d1 B2 l2 u2 => ?_⟩
      obtain ⟨wd, ewd, hwd⟩ : ∃ wd : Str, atI [V.str "both", .str "either", .str "oneof"] r1 = some (.str wd) ∧ (wd = "both" ∨ wd = "either" ∨ wd = "oneof") := by
        obtain ⟨r1, rfl⟩ := nat_of l2
        match r1, u2 with
        | 0, _ => exact ⟨"both", atI_nat (j := 0) rfl, .inl rfl⟩
        | 1, _ => exact ⟨"either", atI_nat (j := 1) rfl, .inr (.inl rfl)⟩
        | 2, _ => exact ⟨"oneof", atI_nat (j := 2) rfl, .inr (.inr rfl)⟩
        | r + 3, h => exact absurd h (by omega)
      refine ⟨L, _, _, _, rfl, rfl, SqL.mk (d1 _ _ nLp hL), ewd, ?_⟩
      have em2 : (ma : Int) - 2 = ((ma - 2 : Nat) : Int) := by omega
      refine ⟨.ref p, rfl, _, rfl, _, _, rfl, rfl, p, (ma : Int) - 2, _, rfl, B2, by omega, by omega, by omega, fun G2 r2 d2 B3 l3 u3 => ⟨_, _, rfl, rfl, ?_⟩⟩
      obtain ⟨l, hl⟩ := nat_of (show 0 ≤ 1 + r2 by omega)
      try dsimp only
      rw [hl]
      refine ⟨(show 2 ≤ sizeLine by decide), fun tp ntp => ⟨tp, _, rfl, SqT.mk upd_same, rfl, _, _, rfl, _, _, rfl, rfl, ?_⟩⟩
      have uT := same_upd ntp (o := .tup [.str wd, .int (l : Nat)])
      have BT := B3.same uT
      have cT : But p F (upd G2 tp (.tup [.str wd, .int (l : Nat)])) := (same_but uL).trans (d1.trans (d2.trans (same_but uT)))
      generalize upd G2 tp (.tup [.str wd, .int (l : Nat)]) = Y at BT cT ⊢
      have el : (ma : Int) - 1 - (l : Int) = ((ma - 1 - l : Nat) : Int) := by omega
      refine ⟨_, rfl, .ref p, rfl, _, rfl, _, _, rfl, rfl, _, rfl, _, rfl, p, _, de - 1, l, wi, by rw [← ed]; rfl, BT, by omega, by omega, by omega, by omega, w1, w2, fun Y1 v1 f1 y1 C1 h1 o1 => ?_⟩
      refine ⟨.ref p, rfl, _, rfl, _, _, rfl, rfl, _, rfl, _, _, rfl, rfl, _, rfl, _, _, rfl, rfl, _, rfl, p, _, de - 1, ma - 1 - l, wi, by rw [← ed, ← el]; rfl, C1, by omega, by omega, by omega, by omega, w1, w2, fun Y2 v2 f2 y2 C2 h2 o2 => ⟨(show 3 ≤ sizeLine by decide), fun t nt => ?_⟩⟩
      have cZ : But p F (upd Y2 t (.tup [.str wd, v1, v2])) := (cT.trans (y1.trans y2)).new nt
      have sT := same_upd nt (o := .tup [.str wd, v1, v2])
      have BZ : Bx (upd Y2 t (.tup [.str wd, v1, v2])) p (n + 4 * ma) := (C2.new nt).mono (by omega)
      have a1 := (h1.but C1 y2).same sT
      have a2 := h2.same sT
      have p1 := o1.dp
      have p2 := o2.dp
      have z1 := o1.sz
      have z2 := o2.sz
      have oi : ∀ i, i ∈ f1.ins ++ f2.ins → i < wi := fun i hi => by
        rcases List.mem_append.mp hi with hi | hi
        · exact o1.ins i hi
        · exact o2.ins i hi
      rcases hwd with rfl | rfl | rfl
      · exact fin _ _ (.both f1 f2) cZ BZ ⟨t, v1, v2, rfl, upd_same, a1, a2⟩ ⟨by simp only [Fm.dep]; omega, by simp only [Fm.sz]; omega, oi⟩
      · exact fin _ _ (.either f1 f2) cZ BZ ⟨t, v1, v2, rfl, upd_same, a1, a2⟩ ⟨by simp only [Fm.dep]; omega, by simp only [Fm.sz]; omega, oi⟩
      · exact fin _ _ (.oneof f1 f2) cZ BZ ⟨t, v1, v2, rfl, upd_same, a1, a2⟩ ⟨by simp only [Fm.dep]; omega, by simp only [Fm.sz]; omega, oi⟩
def sp__law_formula (K : PySem.W.Frag) : Sp := spr__law_formula 9 K
theorem ok__law_formula (T : Defs K mg) : FnOk P w K mg base CX0 11 T.f__law_formula T.fd__law_formula ["_law_box_here", "_law_deep", "_law_many", "_law_wide"] (sp__law_formula K) := okr__law_formula T 9
def sp__law_any (_ : PySem.W.Frag) : Sp := fun vs H Q _ => ∃ (p : Addr) (n : Nat), vs = [.ref p] ∧ Bx H p n ∧ n < 1000000 ∧
  ∀ H' v f, But p H H' → Bx H' p (n + 200) → FmAt H' f v → f.dep ≤ 8 → f.sz ≤ 24 → (∀ i, i ∈ f.ins → i < 6) → Q v H'
theorem bl01 {c : Bool} : 0 ≤ (if c = true then (1 : Int) else 0) ∧ (if c = true then (1 : Int) else 0) < ((2 : Nat) : Int) := by
  cases c <;> decide
theorem ok__law_any (T : Defs K mg) : FnOk P w K mg base CX0 12 T.f__law_any T.fd__law_any ["_law_box_here"] (sp__law_any K) := by
  have G__law_formula : FnOk P w K mg base CX0 11 T.f__law_formula T.fd__law_formula ["_law_box_here", "_law_deep", "_law_many", "_law_wide"] (sp__law_formula K) := ok__law_formula T
  have G__law_take : FnOk P w K mg base CX0 1 T.f__law_take T.fd__law_take ["_law_box_here", "_law_many"] (sp__law_take K) := ok__law_take T
  refine T.F__law_any.ok sc__law_any (fun vs H Q E h => ?_) (fun cdv A outer s H vs Q E hr h => ?_)
  · obtain ⟨p, n, rfl, hB, hn, q⟩ := h
    rfl
  · obtain ⟨p, n, rfl, hB, hn, q⟩ := h
    refine ⟨_, PSs.nox (pss_cons (ps_par (i := 1) (j := 2) (by rfl) sc__law_any.nd rfl rfl (by decide) rfl rfl (pa_cons (pe_cmpR op_eq (pe_call G__law_take (hr.mono (by decide)) (by rfl) T.g__law_take T.F__law_take.kp T.b__law_take .nil pass0 (pa_cons (pv 0) (pa_cons pe_int pa_nil))) pe_int (nomark _)) (pa_cons (pe_op op_add pe_int (pe_call G__law_take (hr.mono (by decide)) (by rfl) T.g__law_take T.F__law_take.kp T.b__law_take .nil pass0 (pa_cons (pv 0) (pa_cons pe_int pa_nil)))) pa_nil)) (by rfl))
    (pss_one (ps_ret (pe_call G__law_formula (hr.mono (by decide)) (by rfl) T.g__law_formula T.F__law_formula.kp T.b__law_formula .nil pass0 (pa_cons (pv 0) (pa_cons (pe_ix ix_list (pe_lst (pa_cons pe_int (pa_cons pe_int pa_nil))) (pe_callTy call_int1 (by rfl) T.m_int bt_int (pa_cons (pv 1) pa_nil)) (fun _ _ => rfl)) (pa_cons (pe_ix ix_list (pe_lst (pa_cons (pe_op op_add pe_int (pe_call G__law_take (hr.mono (by decide)) (by rfl) T.g__law_take T.F__law_take.kp T.b__law_take .nil pass0 (pa_cons (pv 0) (pa_cons pe_int pa_nil)))) (pa_cons pe_int pa_nil))) (pe_callTy call_int1 (by rfl) T.m_int bt_int (pa_cons (pv 1) pa_nil)) (fun _ _ => rfl)) (pa_cons (pv 2) pa_nil)))))))), ?_⟩
    have hsl : sizeLine = 16777216 := by decide
    refine ⟨.ref p, rfl, p, 4, n, rfl, hB, by decide, by decide, by omega, fun H1 r1 c1 B1 l1 u1 => ⟨rfl, ?_⟩⟩
    obtain ⟨gr, egr⟩ : ∃ gr, decide (V.int r1 = V.int 0) = gr := ⟨_, rfl⟩
    rw [egr]
    refine ⟨.ref p, rfl, p, 6, _, rfl, B1, by decide, by decide, by omega, fun H2 r2 c2 B2 l2 u2 => ⟨_, _, rfl, rfl, ?_⟩⟩
    obtain ⟨wi, hwi⟩ := nat_of (show 0 ≤ 1 + r2 by omega)
    try dsimp only
    rw [hwi]
    refine ⟨_, _, rfl, ?_⟩
    refine ⟨.ref p, rfl, (show 2 ≤ sizeLine by decide), fun la na => ?_⟩
    have s3 := same_upd na (o := .lst [.int 5, .int 8])
    obtain ⟨de, ev1, hde⟩ := at_menu (Pr := fun v => v = 5 ∨ v = 8) (xs := [5, 8]) (r := if gr = true then (1 : Int) else 0) bl01.1 bl01.2 (fun x hx => by
      simp only [List.mem_cons, List.not_mem_nil, or_false] at hx
      exact hx)
    refine ⟨.bl gr, rfl, .inr ⟨_, rfl, la, _, _, _, rfl, rfl, SqL.mk upd_same, ev1, ?_⟩⟩
    have B3 := B2.same s3
    have c3 := (c1.trans c2).trans (same_but s3)
    generalize upd H2 la (.lst [.int 5, .int 8]) = H3 at B3 c3 ⊢
    refine ⟨.ref p, rfl, p, 9, _, rfl, B3, by decide, by decide, by omega, fun H4 r4 c4 B4 l4 u4 => ⟨_, _, rfl, rfl, (show 2 ≤ sizeLine by decide), fun lb nb => ?_⟩⟩
    obtain ⟨ma, ev2, hma⟩ := at_menu (Pr := fun v => 1 ≤ v ∧ v ≤ 24) (xs := [1 + r4, 24]) (r := if gr = true then (1 : Int) else 0) bl01.1 bl01.2 (fun x hx => by
      simp only [List.mem_cons, List.not_mem_nil, or_false] at hx
      omega)
    have s5 := same_upd nb (o := .lst [.int (1 + r4), .int 24])
    refine ⟨.bl gr, rfl, .inr ⟨_, rfl, lb, _, _, _, rfl, rfl, SqL.mk upd_same, ev2, ?_⟩⟩
    have B5 := B4.same s5
    obtain ⟨de, rfl⟩ := nat_of (show 0 ≤ de by omega)
    obtain ⟨ma, rfl⟩ := nat_of (show 0 ≤ ma by omega)
    refine ⟨_, rfl, p, _, de, ma, wi, rfl, B5, by omega, by omega, by omega, by omega, by omega, by omega, fun H6 v f c6 B6 hf ok => ?_⟩
    have o1 := ok.dp
    have o2 := ok.sz
    exact q H6 v f ((c3.trans c4).trans ((same_but s5).trans c6)) (B6.mono (by omega)) hf (by omega) (by omega) fun i hi => by
      have := ok.ins i hi
      omega
theorem wd_in {w : Str} (h : w ≠ "in") : decide (V.str w = V.str "in") = false := decide_eq_false fun e => h (V.str.inj e)
theorem not_whole {v : V} {us : List V} : ¬ (HT.sIx (v :: us).length 0 (some 1) = 0 ∧ HT.sIx (v :: us).length (v :: us).length none = (v :: us).length) := by
  rintro ⟨e, _⟩
  rw [show (1 : Int) = ((1 : Nat) : Int) from rfl, HT.sIx_nat] at e
  simp at e
def spr__law_inputs (d : Nat) (_ : PySem.W.Frag) : Sp := fun vs H Q _ => ∃ f v, vs = [v] ∧ FmAt H f v ∧ f.dep ≤ d ∧ f.sz ≤ 100 ∧
  ∀ H' p, Same H H' → H p = none → H' p = some (.lst ((f.ins.map fun (i : Nat) => (i : Int)).map V.int)) → Q (.ref p) H'
theorem no__law_inputs {K : PySem.W.Frag} {vs : List V} {H : Hp} {Q : VK} {E : XK} (h : spr__law_inputs 0 K vs H Q E) : False := by
  obtain ⟨f, v, _, _, z, _⟩ := h
  have := f.dep_pos
  omega
def insN (fs : List Fm) : List Int := ((fs.map Fm.ins).flatten).map fun (i : Nat) => (i : Int)
theorem insN_snoc (fs : List Fm) (f : Fm) : insN (fs ++ [f]) = insN fs ++ f.ins.map fun (i : Nat) => (i : Int) := by
  unfold insN
  rw [List.map_append, List.flatten_append, List.map_append]
  simp
theorem insN_le {f : Fm} (i : Nat) : (insN (f.sds.take i)).length ≤ f.sz := by
  unfold insN
  rw [List.length_map]
  have a : ((f.sds.take i).map Fm.ins).flatten.length ≤ (f.sds.map Fm.ins).flatten.length := by
    conv => rhs; rw [← List.take_append_drop i f.sds, List.map_append, List.flatten_append, List.length_append]
    exact Nat.le_add_right _ _
  have b := f.ins_len
  by_cases h : f.word = "in"
  · cases f with
    | inp j =>
      rw [show (Fm.inp j).sds.take i = [] by simp [Fm.sds]]
      exact Nat.zero_le _
    | _ => exact absurd h (by simp only [Fm.word]; decide +kernel)
  · rw [Fm.sds_ins h] at a
    omega
/-! two lists of the same numbers -/
theorem dp_ints {K : PySem.W.Frag} {H : Hp} : ∀ ns : List Int, DpAll K H (ns.map V.int) (ns.map PyData.int)
  | [] => .nil
  | x :: r => .cons (.int x) (dp_ints r)
theorem sh_ints (ns : List Int) : SeqAt.shaped (.list (ns.map PyData.int)) = true := by
  have h1 : PyData.canLayAll0 (ns.map PyData.int) = true := by
    induction ns with
    | nil => rfl
    | cons x r ih =>
      show (PyData.canLay0 (.int x) && PyData.canLayAll0 (r.map PyData.int)) = true
      rw [ih]
      rfl
  have h2 : PyData.depthAll (ns.map PyData.int) = 0 := by
    induction ns with
    | nil => rfl
    | cons x r ih =>
      show max (PyData.depth (.int x)) (PyData.depthAll (r.map PyData.int)) = 0
      rw [ih (by
        have : (PyData.canLay0 (.int x) && PyData.canLayAll0 (r.map PyData.int)) = true := h1
        exact (Bool.and_eq_true_iff.mp this).2)]
      rfl
  show (PyData.canLayAll0 (ns.map PyData.int) && decide (PyData.depthAll (ns.map PyData.int) + 1 ≤ 64)) = true
  rw [h1, h2]
  rfl
theorem eqv_ints (ns : List Int) : PyData.eqv (.list (ns.map PyData.int)) (.list (ns.map PyData.int)) = true := by
  have : PyData.eqvAll (ns.map PyData.int) (ns.map PyData.int) = true := by
    induction ns with
    | nil => rfl
    | cons x r ih =>
      show (PyData.eqv (.int x) (.int x) && PyData.eqvAll (r.map PyData.int) (r.map PyData.int)) = true
      rw [ih]
      show ((x == x) && true) = true
      simp
  exact this
theorem neL {K : PySem.W.Frag} {H : Hp} {a b : Addr} {ns ms : List Int} (ha : H a = some (.lst (ns.map V.int))) (hb : H b = some (.lst (ms.map V.int))) (e : ns = ms) {Q : VK} (q : Q (.bl false) H) : rNeD K (.ref a) (.ref b) H Q := by
  subst e
  refine ⟨_, _, .lst (SqL.mk ha) (dp_ints ns), .lst (SqL.mk hb) (dp_ints ns), sh_ints ns, sh_ints ns, ?_⟩
  rw [eqv_ints]
  exact q
/-! things whose text is short -/
mutual
def lvs (k : Nat) : PyData → Bool
  | .none | .bool _ => true
  | .int i => decide (i.natAbs < 10 ^ k)
  | .str x => x.cps.toList.all fun c => decide (c < 16 ^ 8)
  | .list xs | .tuple xs => lvsA k xs
  | .dict _ => false
def lvsA (k : Nat) : List PyData → Bool
  | [] => true
  | x :: xs => lvs k x && lvsA k xs
end
theorem log_sm {n k : Nat} (hk : k ≤ 400) (h : n < 10 ^ k) : n.log2 < 1920 := by
  by_cases z : n = 0
  · rw [z]
    decide
  · rw [Nat.log2_lt z]
    refine Nat.lt_of_lt_of_le h (Nat.le_trans (Nat.pow_le_pow_left (show 10 ≤ 2 ^ 4 by decide) k) ?_)
    rw [← Nat.pow_mul]
    exact Nat.pow_le_pow_right (by decide) (by omega)
theorem shown_k {i : Int} {k : Nat} (k0 : 0 < k) (h : i.natAbs < 10 ^ k) : (PyData.shown (.int i)).length ≤ k + 1 := by
  have e := int_text_length_le10 (k := k) k0 h
  show (Str.ofString (toString i)).length ≤ k + 1
  rw [PySem.ofString_length]
  exact e
mutual
theorem lvs_show {k : Nat} (k0 : 0 < k) (hk : k ≤ 400) : ∀ d : PyData, lvs k d = true → d.showable = true ∧ d.hasDict = false ∧ d.leavesShort (k + 1) = true
  | .none, _ => ⟨rfl, rfl, rfl⟩
  | .bool _, _ => ⟨rfl, rfl, rfl⟩
  | .int i, h => by
    have h1 : i.natAbs < 10 ^ k := by simpa only [lvs, decide_eq_true_eq] using h
    refine ⟨?_, rfl, ?_⟩
    · simp only [PyData.showable]
      exact decide_eq_true (log_sm hk h1)
    · simp only [PyData.leavesShort]
      exact decide_eq_true (shown_k k0 h1)
  | .str x, h => ⟨rfl, rfl, by simpa only [PyData.leavesShort, lvs] using h⟩
  | .list xs, h => by
    have := lvsA_show k0 hk xs (by simpa only [lvs] using h)
    simpa only [PyData.showable, PyData.hasDict, PyData.leavesShort] using this
  | .tuple xs, h => by
    have := lvsA_show k0 hk xs (by simpa only [lvs] using h)
    simpa only [PyData.showable, PyData.hasDict, PyData.leavesShort] using this
  | .dict _, h => by simp only [lvs] at h; exact nomatch h
theorem lvsA_show {k : Nat} (k0 : 0 < k) (hk : k ≤ 400) : ∀ xs : List PyData, lvsA k xs = true → PyData.showableAll xs = true ∧ PyData.hasDictAll xs = false ∧ PyData.leavesShortAll (k + 1) xs = true
  | [], _ => ⟨rfl, rfl, rfl⟩
  | x :: xs, h => by
    have h' : lvs k x = true ∧ lvsA k xs = true := by simpa only [lvsA, Bool.and_eq_true] using h
    obtain ⟨a1, a2, a3⟩ := lvs_show k0 hk x h'.1
    obtain ⟨b1, b2, b3⟩ := lvsA_show k0 hk xs h'.2
    simp only [PyData.showableAll, PyData.hasDictAll, PyData.leavesShortAll, a1, a2, a3, b1, b2, b3]
    exact ⟨rfl, rfl, rfl⟩
end
structure Sho (d : PyData) : Prop where
  s : d.showable = true
  n : d.hasDict = false
  dp : d.depth ≤ 60
  len : d.shown.length ≤ sizeLine
theorem sho_of {k : Nat} {d : PyData} (k0 : 7 ≤ k) (hk : k ≤ 400) (h : lvs k d = true) (dp : d.depth ≤ 60) (w : (k + 3) * d.weight ≤ 16000000) : Sho d := by
  obtain ⟨a, b, c⟩ := lvs_show (by omega) hk d h
  refine ⟨a, b, dp, ?_⟩
  have e : d.shown.length ≤ (k + 3) * d.weight + (k + 1) := PyData.shown_le (k + 1) (by omega) d c
  rw [sizeLine_eq]
  omega
theorem lvsA_of {k : Nat} : ∀ ds : List PyData, (∀ d, d ∈ ds → lvs k d = true) → lvsA k ds = true
  | [], _ => rfl
  | d :: ds, h => by
    simp only [lvsA, Bool.and_eq_true]
    exact ⟨h d List.mem_cons_self, lvsA_of ds fun x hx => h x (List.mem_cons_of_mem _ hx)⟩
theorem depA_of {n : Nat} : ∀ ds : List PyData, (∀ d, d ∈ ds → d.depth ≤ n) → PyData.depthAll ds ≤ n
  | [], _ => Nat.zero_le _
  | d :: ds, h => by
    have := h d List.mem_cons_self
    have := depA_of ds fun x hx => h x (List.mem_cons_of_mem _ hx)
    simp only [PyData.depthAll]
    omega
theorem weiA_of {n : Nat} : ∀ ds : List PyData, (∀ d, d ∈ ds → d.weight ≤ n) → PyData.weightAll ds ≤ ds.length * (n + 1)
  | [], _ => Nat.zero_le _
  | d :: ds, h => by
    have := h d List.mem_cons_self
    have := weiA_of ds fun x hx => h x (List.mem_cons_of_mem _ hx)
    simp only [PyData.weightAll, List.length_cons, Nat.add_mul, Nat.one_mul]
    omega
/-- short things: their leaves, depth and weight -/
structure Shs (k n w : Nat) (d : PyData) : Prop where
  l : lvs k d = true
  dp : d.depth ≤ n
  wt : d.weight ≤ w
theorem shs_all {k n w : Nat} {ds : List PyData} (h : ∀ d, d ∈ ds → Shs k n w d) : Shs k (n + 1) (ds.length * (w + 1)) (.list ds) ∧ Shs k (n + 1) (ds.length * (w + 1)) (.tuple ds) := by
  have a := lvsA_of ds fun d hd => (h d hd).l
  have b := depA_of ds fun d hd => (h d hd).dp
  have c := weiA_of ds fun d hd => (h d hd).wt
  refine ⟨⟨by simpa only [lvs] using a, ?_, by simpa only [PyData.weight] using c⟩, ⟨by simpa only [lvs] using a, ?_, by simpa only [PyData.weight] using c⟩⟩
  · simp only [PyData.depth]
    omega
  · simp only [PyData.depth]
    omega
theorem Shs.mono {k n m w v : Nat} {d : PyData} (h : Shs k n w d) (a : n ≤ m) (b : w ≤ v) : Shs k m v d := ⟨h.l, Nat.le_trans h.dp a, Nat.le_trans h.wt b⟩
theorem Shs.sho {k n w : Nat} {d : PyData} (h : Shs k n w d) (k0 : 7 ≤ k) (hk : k ≤ 400) (hn : n ≤ 60) (hw : (k + 3) * w ≤ 16000000) : Sho d := sho_of k0 hk h.l (Nat.le_trans h.dp hn) (Nat.le_trans (Nat.mul_le_mul_left _ h.wt) hw)
theorem shs_int {k : Nat} {i : Int} (h : i.natAbs < 10 ^ k) : Shs k 0 (4 * k + 1) (.int i) := by
  refine ⟨?_, ?_, ?_⟩
  · simp only [lvs]
    exact decide_eq_true h
  · simp only [PyData.depth]
    decide
  · simp only [PyData.weight]
    split
    · exact Nat.zero_le _
    · rename_i z
      have z1 : i.natAbs ≠ 0 := fun e => z (by rw [Int.natAbs_eq_zero.mp e]; rfl)
      have := (Nat.log2_lt (k := 4 * k) z1).mpr (Nat.lt_of_lt_of_le h (by
        rw [Nat.pow_mul]
        exact Nat.pow_le_pow_left (by decide) k))
      omega
theorem sho_ints {ns : List Int} (h : ∀ n, n ∈ ns → n.natAbs < 10 ^ 12) (l : ns.length ≤ 20000) : Sho (.list (ns.map .int)) ∧ Sho (.tuple (ns.map .int)) := by
  obtain ⟨a, b⟩ := shs_all (k := 12) (n := 0) (w := 49) (ds := ns.map .int) (fun d hd => by
    obtain ⟨n, hn, rfl⟩ := List.mem_map.mp hd
    exact shs_int (h n hn))
  rw [List.length_map] at a b
  exact ⟨a.sho (by decide) (by decide) (by decide) (by omega), b.sho (by decide) (by decide) (by decide) (by omega)⟩
theorem shs_str {k : Nat} {x : Str} (h : (x.cps.toList.all fun c => decide (c < 16 ^ 8)) = true) (w : x.cps.size ≤ 12) : Shs k 0 12 (.str x) := ⟨by simpa only [lvs] using h, by simp only [PyData.depth]; decide, by simpa only [PyData.weight] using w⟩
theorem shs_non {k : Nat} : Shs k 0 0 .none := ⟨rfl, by simp only [PyData.depth]; decide, by simp only [PyData.weight]; decide⟩
/-! a promise where no text of a thing is being made -/
structure GOk (P : Program) (w : World) (K : PySem.W.Frag) (mg : Str → Option Value) (base : Heap) (CX : CXT) (k : Nat) (f : Addr) (fd : FuncData) (ps : List Str) (sp : Sp) : Prop where
  len : ∀ vs H Q E, sp vs H Q E → vs.length = ps.length
  run : ∀ (A : Around) (outer : List Env) (s : Shared) (H : Hp) (args : Args) (us : List Value) (vs : List V) (Q : VK) (E : XK), A.guards = some [] → Room k A → Env0 P w K mg base A outer s H → BindsTo s fd args (ps.zip us) → Vals vs us → sp vs H Q E →
    codeAny (model P w) A (.call (.ref f) args) (CR CX outer P w H s Q E) s
theorem gok_of {CX : CXT} {P : Program} {w : World} {K : PySem.W.Frag} {mg : Str → Option Value} {base : Heap} {k : Nat} {x : Str} {st : Stmt} {f : Addr} {fd : FuncData} {N ps : List Str} {sp : Sp} (F : FnP K x st f fd) (S : FnScope N ps (defScope st)) (len : ∀ vs H Q E, sp vs H Q E → vs.length = ps.length)
    (hb : ∀ (cdv : Value) (A : Around) (outer : List Env) (s : Shared) (H : Hp) (vs : List V) (Q : VK) (E : XK), A.guards = some [] → Room k (A.deeper (envOfC x (defScope st) s.heap.objs.size f cdv)) → sp vs H Q E →
      ∃ t, PSs (cxOf CX P w K mg base N x (defScope st) f cdv A outer s H E) (defBody st) t ∧ t { nx := fun _ H' => Q .non H', rt := Q } (L2.start N vs) H) : GOk P w K mg base CX (k + 1) f fd ps sp := by
  obtain ⟨oc, od, dV, kV, doc, pm, an, cdv, ct, osl, rfl, lk, hcd, _, _⟩ := F.ex
  refine ⟨len, fun A outer s H args us vs Q E hg hr e0 bd rv hsp => ?_⟩
  have kept : ∀ b o, base.get? b = some o → s.heap.get? b = some o := fun b o e => (e0.bs b o e).1
  have KX : K.In s.heap := e0.mod.kin.keeps kept
  have kinds : ∀ y ∈ ps.zip us, (defScope st).names.lookup y.1 = some .local ∨ ((defScope st).names.lookup y.1 = some .cell ∧ ((cellsFrom (s.heap.objs.size + 1) (defScope st).names []).lookup y.1).isSome = true) := fun y hy =>
    (S.par y.1 (List.of_mem_zip (show (y.1, y.2) ∈ ps.zip us from hy)).1).imp id fun q => ⟨q, PySem.W.cellsFrom_some _ _ _ (.inl q)⟩
  refine codeAny_call_function hr.depth (KX _ _ lk) rfl S.co S.gen rfl (PySem.W.codeRec_of KX hcd) (bd _ _ _ _ (wpAny_newFunctionEnv_cells S.kind kinds fun env he s1 x1 => ?_))
  subst he
  refine ⟨(e0.mod.nolimit.keeps kept).keeps x1.toInCall.keep, codeAny_func ?_⟩
  obtain ⟨t, ht, hq⟩ := hb cdv A outer s H vs Q E hg (hr.deeper _) hsp
  have I := inv_start (CX := CX) (E := E) S hr.hd e0 (len _ _ _ _ hsp) rv x1
  refine wpAny_mono (ht.run [] s1 (L2.start N vs) H _ I hq) (fun fl s' hs => ?_) fun e s' hs => hs
  cases fl with
  | ret u =>
    obtain ⟨v, σ', H', J, r', q⟩ := hs
    exact ⟨v, H', J.os, J.bare, J.base, J.hok, r', q⟩
  | next =>
    obtain ⟨σ', H', J, q⟩ := hs
    exact ⟨V.non, H', J.os, J.bare, J.base, J.hok, rfl, q⟩
  | brk =>
    obtain ⟨_, _, _, q⟩ := hs
    exact q.elim
  | cont =>
    obtain ⟨_, _, _, q⟩ := hs
    exact q.elim
/-- the state ahead of the law's call: the script is tracked, or one of the module's own things -/
theorem env_ahead {P : Program} {w : World} {K : PySem.W.Frag} {mg mb : Str → Option Value} {a : Addr} {s : Shared} {vs : List Value} {ns : List Int} (KX : K.In s.heap) (hns : s.heap.Ns mainGlobals mg) (hb : s.heap.Ns builtinsNs mb)
    (hbb : ∀ x : Str, x ≠ "__name__" → mb x = bootBuiltins x) (hlim : s.heap.NoLimit) (hg : s.gens = #[]) (ha : s.heap.get? a = some { cls := .type "list", data := .seq vs.toArray }) (hi : IntsAre vs ns) (hl : ns.length ≤ sizeLine) :
    ∃ H : Hp, Only H ∧ SqL K H a (ns.map V.int) ∧ HOk P w H s.heap ∧ K.In (hidT s.heap H) ∧ (hidT s.heap H).Ns mainGlobals mg ∧ Env0 P w K mg (hidT s.heap H) callerA [] s H := by
  have rv := vals_ints hi
  have go : ∀ H : Hp, Only H → SqL K H a (ns.map V.int) → HOk P w H s.heap → (∀ b, H b ≠ none → b = a ∧ K.lookup a = none) → ∃ H : Hp, Only H ∧ SqL K H a (ns.map V.int) ∧ HOk P w H s.heap ∧ K.In (hidT s.heap H) ∧ (hidT s.heap H).Ns mainGlobals mg ∧ Env0 P w K mg (hidT s.heap H) callerA [] s H := fun H hO hS hok hA => by
    have free : ∀ {b : Addr}, (b = a → False) → H b = none := fun {b} nb => Classical.byContradiction fun z => nb (hA b z).1
    have Kb : K.In (hidT s.heap H) := fun b o e => hidT_get (KX b o e) (Classical.byContradiction fun z => by
      obtain ⟨rfl, n⟩ := hA b z
      rw [n] at e
      cases e)
    have nsb : ∀ {b : Addr} {m : Str → Option Value}, s.heap.Ns b m → (hidT s.heap H).Ns b m := fun {b m} h => by
      obtain ⟨o, es, ep, e, d, r⟩ := h
      refine ⟨o, es, ep, hidT_get e (free fun z => ?_), d, r⟩
      rw [z, ha] at e
      cases e
      cases d
    refine ⟨H, hO, hS, hok, Kb, nsb hns, rfl, ⟨Kb, nsb hns, ⟨mb, nsb hb, hbb⟩, ?_⟩, fun b o e => of_hidT e, Nat.le_of_eq (hidT_size _ _), trivial, fun b z => (by cases z), hok, .of_eq hg⟩
    obtain ⟨mc, h1, h2⟩ := hlim
    exact ⟨mc, nsb h1, h2⟩
  cases hk : K.lookup a with
  | some o =>
    have e := KX a o hk
    rw [ha] at e
    cases e
    exact go (fun _ => none) (fun _ => .inl rfl) (.inr ⟨_, vs.toArray, _, hk, rfl, rfl, rfl, by rw [List.size_toArray, hi.length]; exact hl, by simpa using rv⟩) (fun b u z => by cases z) (fun b z => absurd rfl z)
  | none =>
    refine go (fun b => if b = a then some (.frz { cls := .type "list", data := .seq vs.toArray } (.lst (ns.map V.int))) else none) (fun b => ?_) (.inl (.inr ⟨_, if_pos rfl⟩)) (fun b u z => ?_) (fun b z => ?_)
    · by_cases e : b = a
      · exact .inr ⟨_, _, if_pos e⟩
      · exact .inl (if_neg e)
    · by_cases e : b = a
      · cases (if_pos e).symm.trans z
        subst e
        exact ⟨ha, by rw [List.length_map]; exact hl, vs, _, rv, ha⟩
      · cases (if_neg e).symm.trans z
    · by_cases e : b = a
      · exact ⟨e, hk⟩
      · exact absurd (if_neg e) z
theorem walk_ofG {l : PySem.W.OpenLaw} {n k : Nat} {q : Program} {loose : List Str} {XP : (Str → Option Value) → Heap → Prop} {YP : World → Heap → Prop} {d : DefRec} {x : Str}
    (hn : l.most = some n) (hn2 : n ≤ sizeLine) (hdf : d.params.defaults = []) (hr : Room k callerA)
    (F : ∀ (w : World) (mg : Str → Option Value) (fa : Addr) (h : Heap), YP w h → h.Ns mainGlobals mg → mg d.name = some (.ref fa) →
      ∃ (K : PySem.W.Frag) (fd : FuncData) (sp : Sp), K.In h ∧ (∀ (s : Shared) (u : Value), BindsTo s fd ⟨[u], []⟩ [(x, u)]) ∧
        (∀ (H : Hp) (a : Addr) (ns : List Int), ns.length ≤ n → Only H → SqL K H a (ns.map V.int) → sp [.ref a] H (fun v _ => v = .bl true) fun _ _ _ => False) ∧
        ∀ base : Heap, K.In base → base.Ns mainGlobals mg → GOk l.prog w K mg base CX0 k fa fd [x] sp) :
    PySem.W.WalkO q loose XP YP l.row.toRowW d [] (fun f vs => PySem.call f vs) := by
  refine Att.attach_call hn hdf fun w s₀ s₁ mg mb fa o pm cd doc a vs ns G Y ho hd hcd hmg hobj hints hlen hg => ?_
  obtain ⟨K, fd, sp, KX, hbd, hsp, hF⟩ := F w mg fa _ Y G.T.g hmg
  obtain ⟨H, hO, hS, hok, Kb, nb, e0⟩ := env_ahead (P := l.prog) (w := w) KX G.T.g G.T.b G.T.builtins G.T.nolimit hg hobj hints (Nat.le_trans hlen hn2)
  refine codeAny_mono ((hF _ Kb nb).run callerA [] s₁ H ⟨[.ref a], []⟩ [.ref a] [.ref a] _ _ rfl hr e0 (hbd s₁ (.ref a)) (.cons rfl .nil) (hsp H a ns hlen hO hS)) fun r s' h => ?_
  match r, h with
  | .ok (.ret u), h =>
    obtain ⟨v, H', os, bare, un, hok', r', q⟩ := h
    have q : v = .bl true := q
    subst q
    obtain rfl : u = Value.bool true := r'
    refine ⟨rfl, OldK.of_keep fun b o e => ?_, os, bare⟩
    rcases hO b with z | ⟨ob, xs, z⟩
    · exact un.keep b o e z (by intro y; cases y) (by simp)
    · obtain ⟨e1, _⟩ := hok b _ z
      obtain ⟨e2, _⟩ := hok' b _ (un.frzs b ob _ z)
      rw [e] at e1
      cases e1
      exact e2
  | .ok .next, h => exact False.elim h
  | .ok .brk, h => exact False.elim h
  | .ok .cont, h => exact False.elim h
  | .error e, h => exact False.elim h
/-- repr(x) of a list or tuple -/
def rRepr (K : PySem.W.Frag) : List V → Hp → VK → Prop := fun xs H Q => ∃ a d, xs = [.ref a] ∧ Dp K H (.ref a) d ∧ Sho d ∧ Q (.str d.shown) H
theorem cr_repr {X : Cx} (hg : X.A.guards = some []) (hu : X.A.units + 65 < cLine) : CallR X (.builtin "repr") (rRepr X.K) := by
  intro pins s σ H vs us Q I r h
  obtain ⟨a, d, rfl, hd, ⟨sh, nd, dd, sz⟩, q⟩ := h
  rw [Vals.ref1 r]
  obtain ⟨as, rd⟩ := Dp.reads I d (.ref a) (.ref a) hd rfl
  refine repr_of_reads' rd sh (fun z => by rw [nd] at z; cases z) hg (by omega) (fun _ _ e => e) (fun h' u tk hk => ?_) sz
  exact ⟨.str d.shown, H, I.kept (t' := tk) hk, ⟨_, rfl⟩, q⟩
theorem u65g {k : Nat} {A : Around} (r : Room k A) : A.units + 65 < cLine := by
  have := r.un
  omega
/-! texts of formulas and of what is told of them -/
def Fm.data : Fm → PyData
  | .inp i => .tuple [.str "in", .int (i : Nat)]
  | .less f => .tuple [.str "less", f.data]
  | .both f g => .tuple [.str "both", f.data, g.data]
  | .either f g => .tuple [.str "either", f.data, g.data]
  | .oneof f g => .tuple [.str "oneof", f.data, g.data]
  | .pick f g h => .tuple [.str "pick", f.data, g.data, h.data]
theorem fm_dp {K : PySem.W.Frag} {H : Hp} : ∀ {f : Fm} {v : V}, FmAt H f v → Dp K H v f.data
  | .inp i, _, ⟨_, rfl, h⟩ => .tup (SqT.mk h) (.cons (.str _) (.cons (.int _) .nil))
  | .less f, _, ⟨_, _, rfl, h, h1⟩ => .tup (SqT.mk h) (.cons (.str _) (.cons (fm_dp h1) .nil))
  | .both f g, _, ⟨_, _, _, rfl, h, h1, h2⟩ => .tup (SqT.mk h) (.cons (.str _) (.cons (fm_dp h1) (.cons (fm_dp h2) .nil)))
  | .either f g, _, ⟨_, _, _, rfl, h, h1, h2⟩ => .tup (SqT.mk h) (.cons (.str _) (.cons (fm_dp h1) (.cons (fm_dp h2) .nil)))
  | .oneof f g, _, ⟨_, _, _, rfl, h, h1, h2⟩ => .tup (SqT.mk h) (.cons (.str _) (.cons (fm_dp h1) (.cons (fm_dp h2) .nil)))
  | .pick f g k, _, ⟨_, _, _, _, rfl, h, h1, h2, h3⟩ => .tup (SqT.mk h) (.cons (.str _) (.cons (fm_dp h1) (.cons (fm_dp h2) (.cons (fm_dp h3) .nil))))
theorem shs_t {k n w : Nat} {ds : List PyData} (a : lvsA k ds = true) (b : PyData.depthAll ds ≤ n) (c : PyData.weightAll ds ≤ w) : Shs k (n + 1) w (.tuple ds) := ⟨by simpa only [lvs] using a, by simp only [PyData.depth]; omega, by simpa only [PyData.weight] using c⟩
theorem wd_ok (s : Str) (h : (s.cps.toList.all fun c => decide (c < 16 ^ 8)) = true) (w : s.cps.size ≤ 12) : Shs 12 0 12 (.str s) := shs_str h w
theorem s_in : Shs 12 0 12 (.str "in") := wd_ok _ (by decide +kernel) (by decide +kernel)
theorem s_less : Shs 12 0 12 (.str "less") := wd_ok _ (by decide +kernel) (by decide +kernel)
theorem s_both : Shs 12 0 12 (.str "both") := wd_ok _ (by decide +kernel) (by decide +kernel)
theorem s_either : Shs 12 0 12 (.str "either") := wd_ok _ (by decide +kernel) (by decide +kernel)
theorem s_oneof : Shs 12 0 12 (.str "oneof") := wd_ok _ (by decide +kernel) (by decide +kernel)
theorem s_pick : Shs 12 0 12 (.str "pick") := wd_ok _ (by decide +kernel) (by decide +kernel)
theorem shs_2 {k n w v m : Nat} {a b : PyData} (h : Shs k 0 w a) (g : Shs k n v b) (e : w + v + 2 ≤ m) : Shs k (n + 1) m (.tuple [a, b]) := shs_t (by simp only [lvsA, h.l, g.l]; rfl) (by have := h.dp; have := g.dp; simp only [PyData.depthAll]; omega) (by have := h.wt; have := g.wt; simp only [PyData.weightAll]; omega)
theorem shs_3 {k n w v u m : Nat} {a b c : PyData} (h : Shs k 0 w a) (g : Shs k n v b) (j : Shs k n u c) (e : w + v + u + 3 ≤ m) : Shs k (n + 1) m (.tuple [a, b, c]) := shs_t (by simp only [lvsA, h.l, g.l, j.l]; rfl) (by have := h.dp; have := g.dp; have := j.dp; simp only [PyData.depthAll]; omega) (by have := h.wt; have := g.wt; have := j.wt; simp only [PyData.weightAll]; omega)
theorem shs_4 {k n w v u x m : Nat} {a b c d : PyData} (h : Shs k 0 w a) (g : Shs k n v b) (j : Shs k n u c) (i : Shs k n x d) (e : w + v + u + x + 4 ≤ m) : Shs k (n + 1) m (.tuple [a, b, c, d]) := shs_t (by simp only [lvsA, h.l, g.l, j.l, i.l]; rfl) (by have := h.dp; have := g.dp; have := j.dp; have := i.dp; simp only [PyData.depthAll]; omega) (by have := h.wt; have := g.wt; have := j.wt; have := i.wt; simp only [PyData.weightAll]; omega)
theorem fm_shs : ∀ {f : Fm}, (∀ i, i ∈ f.ins → i < 6) → Shs 12 f.dep (80 * f.sz) f.data
  | .inp i, h => shs_2 s_in (shs_int (i := (i : Int)) (by have := h i List.mem_cons_self; omega)) (by simp only [Fm.sz]; decide)
  | .less f, h => shs_2 s_less (fm_shs (f := f) h) (by simp only [Fm.sz]; omega)
  | .both f g, h => by
    have a := fm_shs (f := f) fun i hi => h i (List.mem_append_left _ hi)
    have b := fm_shs (f := g) fun i hi => h i (List.mem_append_right _ hi)
    exact shs_3 s_both (a.mono (Nat.le_max_left _ _) (Nat.le_refl _)) (b.mono (Nat.le_max_right _ _) (Nat.le_refl _)) (by simp only [Fm.sz]; omega)
  | .either f g, h => by
    have a := fm_shs (f := f) fun i hi => h i (List.mem_append_left _ hi)
    have b := fm_shs (f := g) fun i hi => h i (List.mem_append_right _ hi)
    exact shs_3 s_either (a.mono (Nat.le_max_left _ _) (Nat.le_refl _)) (b.mono (Nat.le_max_right _ _) (Nat.le_refl _)) (by simp only [Fm.sz]; omega)
  | .oneof f g, h => by
    have a := fm_shs (f := f) fun i hi => h i (List.mem_append_left _ hi)
    have b := fm_shs (f := g) fun i hi => h i (List.mem_append_right _ hi)
    exact shs_3 s_oneof (a.mono (Nat.le_max_left _ _) (Nat.le_refl _)) (b.mono (Nat.le_max_right _ _) (Nat.le_refl _)) (by simp only [Fm.sz]; omega)
  | .pick f g k, h => by
    have a := fm_shs (f := f) fun i hi => h i (List.mem_append_left _ hi)
    have b := fm_shs (f := g) fun i hi => h i (List.mem_append_right _ (List.mem_append_left _ hi))
    have c := fm_shs (f := k) fun i hi => h i (List.mem_append_right _ (List.mem_append_right _ hi))
    exact shs_4 s_pick (a.mono (Nat.le_max_left _ _) (Nat.le_refl _)) (b.mono (Nat.le_trans (Nat.le_max_left _ _) (Nat.le_max_right _ _)) (Nat.le_refl _)) (c.mono (Nat.le_trans (Nat.le_max_right _ _) (Nat.le_max_right _ _)) (Nat.le_refl _)) (by simp only [Fm.sz]; omega)
/-! which things are formulas: their parts, how many and how deep -/
def sideN (z : Str) : Option Int := dl_SIDES.lookup z
def okArg : List PyData → Bool
  | [.int i] => decide (0 ≤ i ∧ i ≤ 5)
  | _ => false
def wordOf : PyData → Option Str
  | .str z => some z
  | _ => none
mutual
def well : PyData → Bool
  | .tuple xs => wellT xs
  | _ => false
def wellT : List PyData → Bool
  | [] => false
  | x :: xs => match wordOf x with
    | some z => if z = "in" then okArg xs else (decide (sideN z = some (xs.length : Int)) && wellA xs)
    | none => false
def wellA : List PyData → Bool
  | [] => true
  | x :: xs => well x && wellA xs
end
mutual
def siz : PyData → Nat
  | .tuple xs => sizT xs
  | _ => 1
def sizT : List PyData → Nat
  | [] => 1
  | x :: xs => match wordOf x with
    | some z => if z = "in" then 1 else 1 + sizA xs
    | none => 1
def sizA : List PyData → Nat
  | [] => 0
  | x :: xs => siz x + sizA xs
end
mutual
def dpt : PyData → Nat
  | .tuple xs => dptT xs
  | _ => 1
def dptT : List PyData → Nat
  | [] => 1
  | x :: xs => match wordOf x with
    | some z => if z = "in" then 1 else 1 + dptA xs
    | none => 1
def dptA : List PyData → Nat
  | [] => 0
  | x :: xs => max (dpt x) (dptA xs)
end
def partD : PyData → Bool
  | .tuple (.str z :: xs) => if z = "in" then okArg xs else decide (sideN z = some (xs.length : Int))
  | _ => false
def sdsD : PyData → List PyData
  | .tuple (.str z :: xs) => if z = "in" then [] else xs
  | _ => []
theorem siz_pos (d : PyData) : 1 ≤ siz d := by
  cases d with
  | tuple xs =>
    cases xs with
    | nil => exact Nat.le_refl _
    | cons x xs =>
      simp only [siz, sizT]
      split
      · split <;> omega
      · exact Nat.le_refl _
  | _ => exact Nat.le_refl _
theorem dpt_pos (d : PyData) : 1 ≤ dpt d := by
  cases d with
  | tuple xs =>
    cases xs with
    | nil => exact Nat.le_refl _
    | cons x xs =>
      simp only [dpt, dptT]
      split
      · split <;> omega
      · exact Nat.le_refl _
  | _ => exact Nat.le_refl _
theorem wellA_all : ∀ {xs : List PyData}, wellA xs = true ↔ ∀ x, x ∈ xs → well x = true
  | [] => ⟨fun _ x hx => (by cases hx), fun _ => rfl⟩
  | x :: xs => by
    simp only [wellA, Bool.and_eq_true, wellA_all (xs := xs)]
    exact ⟨fun h y hy => by
      rcases List.mem_cons.mp hy with rfl | hy
      · exact h.1
      · exact h.2 y hy, fun h => ⟨h x List.mem_cons_self, fun y hy => h y (List.mem_cons_of_mem _ hy)⟩⟩
theorem sizA_sum : ∀ {xs : List PyData}, sizA xs = (xs.map siz).sum
  | [] => rfl
  | x :: xs => by
    simp only [sizA, List.map_cons, List.sum_cons, sizA_sum (xs := xs)]
theorem dptA_le {n : Nat} : ∀ {xs : List PyData}, dptA xs ≤ n ↔ ∀ x, x ∈ xs → dpt x ≤ n
  | [] => ⟨fun _ x hx => (by cases hx), fun _ => Nat.zero_le _⟩
  | x :: xs => by
    have ih := dptA_le (n := n) (xs := xs)
    simp only [dptA]
    exact ⟨fun h y hy => by
      rcases List.mem_cons.mp hy with rfl | hy
      · omega
      · exact ih.mp (by omega) y hy, fun h => by
      have := h x List.mem_cons_self
      have := ih.mpr fun y hy => h y (List.mem_cons_of_mem _ hy)
      omega⟩
theorem part_form {d : PyData} (h : partD d = true) : ∃ z xs, d = .tuple (.str z :: xs) := by
  unfold partD at h
  split at h
  · exact ⟨_, _, rfl⟩
  · cases h
theorem well_eq (d : PyData) : well d = true ↔ partD d = true ∧ ∀ x, x ∈ sdsD d → well x = true := by
  cases d with
  | tuple xs =>
    cases xs with
    | nil => exact ⟨fun h => (by simp only [well, wellT] at h; exact nomatch h), fun h => nomatch h.1⟩
    | cons x xs =>
      cases x with
      | str z =>
        simp only [well, wellT, wordOf, partD, sdsD]
        by_cases e : z = "in"
        · simp only [if_pos e]
          exact ⟨fun h => ⟨h, fun x hx => (by cases hx)⟩, fun h => h.1⟩
        · simp only [if_neg e, Bool.and_eq_true, wellA_all]
      | _ => exact ⟨fun h => (by simp only [well, wellT, wordOf] at h; exact nomatch h), fun h => nomatch h.1⟩
  | _ => exact ⟨fun h => (by simp only [well] at h; exact nomatch h), fun h => nomatch h.1⟩
theorem siz_eq {d : PyData} (h : partD d = true) : siz d = 1 + ((sdsD d).map siz).sum := by
  obtain ⟨z, xs, rfl⟩ := part_form h
  simp only [siz, sizT, wordOf, sdsD]
  by_cases e : z = "in"
  · simp only [if_pos e]
    rfl
  · simp only [if_neg e, sizA_sum]
theorem dpt_le {d : PyData} {n : Nat} (h : partD d = true) : dpt d ≤ n + 1 ↔ ∀ x, x ∈ sdsD d → dpt x ≤ n := by
  obtain ⟨z, xs, rfl⟩ := part_form h
  simp only [dpt, dptT, wordOf, sdsD]
  by_cases e : z = "in"
  · simp only [if_pos e]
    exact ⟨fun _ x hx => (by cases hx), fun _ => by omega⟩
  · simp only [if_neg e]
    rw [← dptA_le]
    omega
theorem sides3 {d : PyData} (h : partD d = true) : (sdsD d).length ≤ 3 := by
  obtain ⟨z, xs, rfl⟩ := part_form h
  simp only [partD] at h
  simp only [sdsD]
  by_cases e : z = "in"
  · simp only [if_pos e]
    exact Nat.zero_le _
  · simp only [if_neg e, decide_eq_true_eq] at h ⊢
    unfold sideN dl_SIDES at h
    simp only [List.lookup] at h
    split at h
    · have := Option.some.inj h; omega
    · split at h
      · have := Option.some.inj h; omega
      · split at h
        · have := Option.some.inj h; omega
        · split at h
          · have := Option.some.inj h; omega
          · split at h
            · have := Option.some.inj h; omega
            · cases h
/-- what waits: things, and how deep they stand -/
def OkW (W : List (PyData × Nat)) (c : Nat) : Prop := (∀ e, e ∈ W → well e.1 = true ∧ e.2 + dpt e.1 ≤ 9) ∧ c + (W.map fun e => siz e.1).sum ≤ 24
theorem ok_step {W : List (PyData × Nat)} {d : PyData} {k c : Nat} (hp : partD d = true) (hk : k ≤ 8) : OkW (W ++ [(d, k)]) c ↔ OkW (W ++ (sdsD d).map fun s => (s, k + 1)) (c + 1) := by
  have e1 : ((W ++ [(d, k)]).map fun e => siz e.1).sum = (W.map fun e => siz e.1).sum + siz d := by
    rw [List.map_append, List.sum_append, List.map_cons, List.map_nil, List.sum_cons, List.sum_nil, Nat.add_zero]
  have e2 : ((W ++ (sdsD d).map fun s => (s, k + 1)).map fun e => siz e.1).sum = (W.map fun e => siz e.1).sum + ((sdsD d).map siz).sum := by
    rw [List.map_append, List.sum_append, List.map_map]
    rfl
  unfold OkW
  rw [e1, e2, siz_eq hp]
  refine ⟨fun ⟨a, b⟩ => ⟨fun e he => ?_, by omega⟩, fun ⟨a, b⟩ => ⟨fun e he => ?_, by omega⟩⟩
  · rcases List.mem_append.mp he with he | he
    · exact a e (List.mem_append_left _ he)
    · obtain ⟨s, hs, rfl⟩ := List.mem_map.mp he
      obtain ⟨w, l⟩ := a (d, k) (List.mem_append_right _ List.mem_cons_self)
      have l : k + dpt d ≤ 9 := l
      have := (dpt_le (n := 8 - k) hp).mp (by omega) s hs
      exact ⟨((well_eq d).mp w).2 s hs, by show k + 1 + dpt s ≤ 9; omega⟩
  · rcases List.mem_append.mp he with he | he
    · exact a e (List.mem_append_left _ he)
    · obtain rfl := List.mem_singleton.mp he
      have q : ∀ s, s ∈ sdsD d → well s = true ∧ k + 1 + dpt s ≤ 9 := fun s hs => a (s, k + 1) (List.mem_append_right _ (List.mem_map.mpr ⟨s, hs, rfl⟩))
      refine ⟨(well_eq d).mpr ⟨hp, fun s hs => (q s hs).1⟩, ?_⟩
      have := (dpt_le (n := 8 - k) hp).mpr fun s hs => by
        have := (q s hs).2
        omega
      show k + dpt d ≤ 9
      omega
theorem ok_no {W : List (PyData × Nat)} {d : PyData} {k c : Nat} (h : c + 1 > 24 ∨ k > 8 ∨ partD d = false) : ¬ OkW (W ++ [(d, k)]) c := fun ⟨a, b⟩ => by
  obtain ⟨w, l⟩ := a (d, k) (List.mem_append_right _ List.mem_cons_self)
  have l : k + dpt d ≤ 9 := l
  have := siz_pos d
  have := dpt_pos d
  rw [List.map_append, List.sum_append, List.map_cons, List.map_nil, List.sum_cons, List.sum_nil] at b
  rcases h with h | h | h
  · have b : c + ((W.map fun e => siz e.1).sum + (siz d + 0)) ≤ 24 := b
    omega
  · omega
  · have := ((well_eq d).mp w).1
    rw [h] at this
    cases this
def isF (d : PyData) : Bool := well d && (decide (siz d < 25) && decide (dpt d < 9))
theorem ok_isF {d : PyData} : OkW [(d, 1)] 0 ↔ isF d = true := by
  unfold OkW isF
  simp only [Bool.and_eq_true, decide_eq_true_eq, List.mem_singleton, List.map_cons, List.map_nil, List.sum_cons, List.sum_nil]
  exact ⟨fun ⟨a, b⟩ => by
    obtain ⟨w, l⟩ := a _ rfl
    have l : 1 + dpt d ≤ 9 := l
    exact ⟨w, by omega, by omega⟩, fun ⟨w, l, m⟩ => ⟨fun e he => by subst he; exact ⟨w, by show 1 + dpt d ≤ 9; omega⟩, by omega⟩⟩
/-! things that are small enough -/
mutual
def gd (k : Nat) : PyData → Bool
  | .none | .bool _ => true
  | .int i => decide (i.natAbs < 10 ^ k)
  | .str x => PyData.strOk x
  | .list xs | .tuple xs => gdA k xs
  | .dict _ => false
def gdA (k : Nat) : List PyData → Bool
  | [] => true
  | x :: xs => gd k x && gdA k xs
end
mutual
theorem gd_lvs {k : Nat} : ∀ d : PyData, gd k d = true → lvs k d = true ∧ d.canLay0 = true
  | .none, _ => ⟨rfl, rfl⟩
  | .bool b, _ => ⟨rfl, rfl⟩
  | .int i, h => ⟨by simpa only [lvs, gd] using h, rfl⟩
  | .str x, h => by
    have h1 : PyData.strOk x = true := by simpa only [gd] using h
    refine ⟨?_, by simpa only [PyData.canLay0] using h1⟩
    simp only [lvs, List.all_eq_true, decide_eq_true_eq]
    intro c hc
    unfold PyData.strOk at h1
    have := Array.all_eq_true_iff_forall_mem.mp h1 c (Array.mem_toList_iff.mp hc)
    have : c < 0x110000 := by simpa using this
    exact Nat.lt_trans this (by decide)
  | .list xs, h => by
    have := gdA_lvs xs (by simpa only [gd] using h)
    simpa only [lvs, PyData.canLay0] using this
  | .tuple xs, h => by
    have := gdA_lvs xs (by simpa only [gd] using h)
    simpa only [lvs, PyData.canLay0] using this
  | .dict _, h => by simp only [gd] at h; exact nomatch h
theorem gdA_lvs {k : Nat} : ∀ xs : List PyData, gdA k xs = true → lvsA k xs = true ∧ PyData.canLayAll0 xs = true
  | [], _ => ⟨rfl, rfl⟩
  | x :: xs, h => by
    have h' : gd k x = true ∧ gdA k xs = true := by simpa only [gdA, Bool.and_eq_true] using h
    have a := gd_lvs x h'.1
    have b := gdA_lvs xs h'.2
    simp only [lvsA, PyData.canLayAll0, a.1, a.2, b.1, b.2]
    exact ⟨rfl, rfl⟩
end
theorem gdA_all {k : Nat} : ∀ {xs : List PyData}, gdA k xs = true ↔ ∀ x, x ∈ xs → gd k x = true
  | [] => ⟨fun _ x hx => (by cases hx), fun _ => rfl⟩
  | x :: xs => by
    simp only [gdA, Bool.and_eq_true, gdA_all (xs := xs)]
    exact ⟨fun h y hy => by
      rcases List.mem_cons.mp hy with rfl | hy
      · exact h.1
      · exact h.2 y hy, fun h => ⟨h x List.mem_cons_self, fun y hy => h y (List.mem_cons_of_mem _ hy)⟩⟩
mutual
theorem gd_mono {k m : Nat} (h : k ≤ m) : ∀ d : PyData, gd k d = true → gd m d = true
  | .none, _ => rfl
  | .bool b, _ => rfl
  | .int i, g => by
    simp only [gd, decide_eq_true_eq] at g ⊢
    exact Nat.lt_of_lt_of_le g (Nat.pow_le_pow_right (by decide) h)
  | .str x, g => by simpa only [gd] using g
  | .list xs, g => by
    have := gdA_mono h xs (by simpa only [gd] using g)
    simpa only [gd] using this
  | .tuple xs, g => by
    have := gdA_mono h xs (by simpa only [gd] using g)
    simpa only [gd] using this
  | .dict _, g => by simp only [gd] at g; exact nomatch g
theorem gdA_mono {k m : Nat} (h : k ≤ m) : ∀ xs : List PyData, gdA k xs = true → gdA m xs = true
  | [], _ => rfl
  | x :: xs, g => by
    have h' : gd k x = true ∧ gdA k xs = true := by simpa only [gdA, Bool.and_eq_true] using g
    simp only [gdA, gd_mono h x h'.1, gdA_mono h xs h'.2]
    rfl
end
structure Bd (k n w : Nat) (d : PyData) : Prop where
  g : gd k d = true
  dp : d.depth ≤ n
  wt : d.weight ≤ w
theorem Bd.mono {k n w m v j : Nat} {d : PyData} (h : Bd k n w d) (c : k ≤ j) (a : n ≤ m) (b : w ≤ v) : Bd j m v d := ⟨gd_mono c d h.g, Nat.le_trans h.dp a, Nat.le_trans h.wt b⟩
theorem Bd.shs {k n w : Nat} {d : PyData} (h : Bd k n w d) : Shs k n w d := ⟨(gd_lvs d h.g).1, h.dp, h.wt⟩
theorem Bd.shaped {k n w : Nat} {d : PyData} (h : Bd k n w d) (hn : n ≤ 64) : SeqAt.shaped d = true := by
  unfold SeqAt.shaped
  rw [(gd_lvs d h.g).2, decide_eq_true (Nat.le_trans h.dp hn)]
  rfl
theorem depA_mem {n : Nat} : ∀ {ds : List PyData} {d : PyData}, d ∈ ds → PyData.depthAll ds ≤ n → d.depth ≤ n
  | x :: xs, d, hd, h => by
    simp only [PyData.depthAll] at h
    rcases List.mem_cons.mp hd with rfl | hd
    · omega
    · exact depA_mem hd (by omega)
theorem weiA_mem : ∀ {ds : List PyData} {d : PyData}, d ∈ ds → d.weight + 1 ≤ PyData.weightAll ds
  | x :: xs, d, hd => by
    simp only [PyData.weightAll]
    rcases List.mem_cons.mp hd with rfl | hd
    · omega
    · have := weiA_mem hd
      omega
/-- the items of a list or tuple that is small enough -/
structure BdA (k n w : Nat) (ds : List PyData) : Prop where
  g : gdA k ds = true
  dp : PyData.depthAll ds ≤ n
  wt : PyData.weightAll ds ≤ w
theorem BdA.get {k n w : Nat} {ds : List PyData} (h : BdA k n w ds) {d : PyData} (hd : d ∈ ds) : Bd k n w d := ⟨gdA_all.mp h.g d hd, depA_mem hd h.dp, by have := weiA_mem hd; have := h.wt; omega⟩
theorem BdA.tup {k n w : Nat} {ds : List PyData} (h : BdA k n w ds) : Bd k (n + 1) w (.tuple ds) := ⟨by simpa only [gd] using h.g, by have := h.dp; simp only [PyData.depth]; omega, by simpa only [PyData.weight] using h.wt⟩
theorem BdA.lst {k n w : Nat} {ds : List PyData} (h : BdA k n w ds) : Bd k (n + 1) w (.list ds) := ⟨by simpa only [gd] using h.g, by have := h.dp; simp only [PyData.depth]; omega, by simpa only [PyData.weight] using h.wt⟩
theorem Bd.itemsT {k n w : Nat} {ds : List PyData} (h : Bd k n w (.tuple ds)) : 1 ≤ n ∧ BdA k (n - 1) w ds := by
  have := h.dp
  simp only [PyData.depth] at this
  exact ⟨by omega, ⟨by simpa only [gd] using h.g, by omega, by simpa only [PyData.weight] using h.wt⟩⟩
theorem Bd.itemsL {k n w : Nat} {ds : List PyData} (h : Bd k n w (.list ds)) : 1 ≤ n ∧ BdA k (n - 1) w ds := by
  have := h.dp
  simp only [PyData.depth] at this
  exact ⟨by omega, ⟨by simpa only [gd] using h.g, by omega, by simpa only [PyData.weight] using h.wt⟩⟩
theorem weiA_app : ∀ (xs ys : List PyData), PyData.weightAll (xs ++ ys) = PyData.weightAll xs + PyData.weightAll ys
  | [], ys => by simp [PyData.weightAll]
  | x :: xs, ys => by
    simp only [List.cons_append, PyData.weightAll, weiA_app xs ys]
    omega
theorem depA_app : ∀ (xs ys : List PyData), PyData.depthAll (xs ++ ys) = max (PyData.depthAll xs) (PyData.depthAll ys)
  | [], ys => by simp [PyData.depthAll]
  | x :: xs, ys => by
    simp only [List.cons_append, PyData.depthAll, depA_app xs ys]
    omega
theorem BdA.app {k n w m v : Nat} {xs ys : List PyData} (h : BdA k n w xs) (g : BdA k m v ys) : BdA k (max n m) (w + v) (xs ++ ys) := by
  refine ⟨gdA_all.mpr fun x hx => ?_, ?_, ?_⟩
  · rcases List.mem_append.mp hx with hx | hx
    · exact gdA_all.mp h.g x hx
    · exact gdA_all.mp g.g x hx
  · have := h.dp
    have := g.dp
    rw [depA_app]
    omega
  · have := h.wt
    have := g.wt
    rw [weiA_app]
    omega
theorem BdA.one {k n w : Nat} {x : PyData} (h : Bd k n w x) : BdA k n (w + 1) [x] := ⟨by simp only [gdA, h.g]; rfl, by have := h.dp; simp only [PyData.depthAll]; omega, by have := h.wt; simp only [PyData.weightAll]; omega⟩
/-- part of the items -/
theorem BdA.part {k n w : Nat} {xs ys zs : List PyData} (h : BdA k n w (xs ++ ys ++ zs)) : BdA k n (PyData.weightAll xs) xs ∧ BdA k n (PyData.weightAll ys) ys ∧ BdA k n (PyData.weightAll zs) zs ∧ PyData.weightAll xs + PyData.weightAll ys + PyData.weightAll zs ≤ w := by
  have a := h.dp
  have b := h.wt
  rw [depA_app, depA_app] at a
  rw [weiA_app, weiA_app] at b
  have c := gdA_all.mp h.g
  exact ⟨⟨gdA_all.mpr fun x hx => c x (List.mem_append_left _ (List.mem_append_left _ hx)), by omega, Nat.le_refl _⟩,
    ⟨gdA_all.mpr fun x hx => c x (List.mem_append_left _ (List.mem_append_right _ hx)), by omega, Nat.le_refl _⟩,
    ⟨gdA_all.mpr fun x hx => c x (List.mem_append_right _ hx), by omega, Nat.le_refl _⟩, b⟩
theorem BdA.mono {k n w m v j : Nat} {d : List PyData} (h : BdA k n w d) (c : k ≤ j) (a : n ≤ m) (b : w ≤ v) : BdA j m v d := ⟨gdA_mono c d h.g, Nat.le_trans h.dp a, Nat.le_trans h.wt b⟩
/-! the program's dict of sides -/
theorem ent_key {e : DictEntry} {z : Str} {i : Int} (h : entI e = some (z, i)) : ∃ t u, e.key = .str z t ∧ e.val = .int i u := by
  unfold entI at h
  split at h
  · rename_i x t j u h1 h2
    cases h
    exact ⟨t, u, h1, h2⟩
  · cases h
theorem ents_find (z : Str) : ∀ (l : List DictEntry) (kvs : List (Str × Int)), l.map entI = kvs.map some →
    l.any (·.refKey) = false ∧ ((kvs.lookup z = none ∧ l.find? (·.key.isStr z) = none) ∨ ∃ i e t, kvs.lookup z = some i ∧ l.find? (·.key.isStr z) = some e ∧ e.val = .int i t)
  | [], [], _ => ⟨rfl, .inl ⟨rfl, rfl⟩⟩
  | [], _ :: _, h => by cases h
  | _ :: _, [], h => by cases h
  | e :: l, (k, i) :: kvs, h => by
    simp only [List.map_cons, List.cons.injEq] at h
    obtain ⟨t, u, h1, h2⟩ := ent_key h.1
    obtain ⟨r, ih⟩ := ents_find z l kvs h.2
    have rk : e.refKey = false := by
      unfold DictEntry.refKey
      rw [h1]
    refine ⟨by rw [List.any_cons, rk, r]; rfl, ?_⟩
    have ek : e.key.isStr z = (k == z) := by rw [h1]; rfl
    rw [List.find?_cons, ek, List.lookup_cons]
    by_cases c : k = z
    · subst c
      refine .inr ⟨i, e, u, ?_, ?_, h2⟩
      · simp
      · simp
    · have c1 : (k == z) = false := beq_false_of_ne c
      have c2 : (z == k) = false := beq_false_of_ne fun e => c e.symm
      rw [c1, c2]
      exact ih
theorem dic_ns {K : PySem.W.Frag} {a : Addr} {kvs : List (Str × Int)} (h : dicB K a kvs = true) (z : Str) : (kvs.lookup z = none ∧ PySem.W.nsIn K a z = some none) ∨ ∃ i t, kvs.lookup z = some i ∧ PySem.W.nsIn K a z = some (some (.int i t)) := by
  unfold dicB at h
  split at h
  · rename_i c d es n sl e
    obtain ⟨r, q⟩ := ents_find z _ _ (of_decide_eq_true h)
    unfold PySem.W.nsIn
    rw [e]
    dsimp only
    rcases q with ⟨h1, h2⟩ | ⟨i, e', t, h1, h2, h3⟩
    · rw [h2, r]
      exact .inl ⟨h1, rfl⟩
    · rw [h2]
      exact .inr ⟨i, t, h1, by rw [← h3]⟩
  · cases h
theorem op_inS {X : Cx} {K' : PySem.W.Frag} {w' : World} [D : DW K' w'] {C : Addr} (hK : X.K = K') (hw : X.w = w') (hC : C = He.ga K' "SIDES") : OpR X (compareOp .In) (fun x y H Q => ∃ z, x = .str z ∧ y = .ref C ∧ Q (.bl (sideN z).isSome) H) := by
  subst hK hw hC
  obtain ⟨es, n, kd⟩ := D.k_SIDES
  intro pins s σ H x y v u Q I rx ry h
  obtain ⟨z, rfl, rfl, q⟩ := h
  rcases dic_ns D.v_SIDES z with ⟨h1, h2⟩ | ⟨i, t, h1, h2⟩
  · refine op_in_kd kd pins s σ H _ _ v u Q I rx ry ⟨z, _, rfl, rfl, h2, ?_⟩
    have e : sideN z = none := h1
    rw [e] at q
    exact q
  · refine op_in_kd kd pins s σ H _ _ v u Q I rx ry ⟨z, _, rfl, rfl, h2, ?_⟩
    have e : sideN z = some i := h1
    rw [e] at q
    exact q
theorem ix_S {X : Cx} {K' : PySem.W.Frag} {w' : World} [D : DW K' w'] {C : Addr} (hK : X.K = K') (hw : X.w = w') (hC : C = He.ga K' "SIDES") : IxR X (fun x y H Q => ∃ z i, x = .ref C ∧ y = .str z ∧ sideN z = some i ∧ Q (.int i) H) := by
  subst hK hw hC
  obtain ⟨es, n, kd⟩ := D.k_SIDES
  intro value slice pins s σ H x y v u Q I rx ry h hs
  obtain ⟨z, i, rfl, rfl, e, q⟩ := h
  have ru := rx
  cases rx
  refine tail_any (kd_type kd I) PySem.slot_dict_getitem.lookup ?_ hs
  rcases dic_ns D.v_SIDES z with ⟨h1, h2⟩ | ⟨j, t, h1, h2⟩
  · have h1 : sideN z = none := h1
    rw [e] at h1
    cases h1
  · have h1 : sideN z = some j := h1
    rw [e] at h1
    cases h1
    exact op_item_kd kd pins s σ H (V.ref (He.ga X.K "SIDES")) (V.str z) _ u Q I ru ry ⟨z, _, .int i, rfl, rfl, h2, ⟨_, rfl⟩, q⟩
/-! texts and numbers -/
theorem op_addS {X : Cx} : OpR X (binaryOp .Add) (fun x y H Q => ∃ a b, x = .str a ∧ y = .str b ∧ a.length + b.length ≤ sizeLine ∧ Q (.str (a ++ b)) H) := by
  intro pins s σ H x y v u Q I rx ry h
  obtain ⟨a, b, rfl, rfl, hz, q⟩ := h
  obtain ⟨t, rfl⟩ := rx
  obtain ⟨t', rfl⟩ := ry
  exact add_str (fun t' tk => ⟨.str _, H, I.tok _, ⟨_, rfl⟩, q⟩) hz
theorem op_mulS {X : Cx} : OpR X (binaryOp .Mult) (fun x y H Q => ∃ a i, x = .str a ∧ y = .int i ∧ (i = 0 ∨ i = 1) ∧ ∀ b, (b = Str.empty ∨ b = a) → Q (.str b) H) := by
  intro pins s σ H x y v u Q I rx ry h
  obtain ⟨a, i, rfl, rfl, h, q⟩ := h
  obtain ⟨t, rfl⟩ := rx
  obtain ⟨t', rfl⟩ := ry
  rcases h with rfl | rfl
  · exact PySem.P.mul_str_none (by decide) (by decide) ⟨.str _, H, I.tok _, ⟨_, rfl⟩, q _ (.inl rfl)⟩
  · refine PySem.P.mul_str (by decide) (fun _ h => ?_) (fun _ h => ?_) ?_
    · simp at h
    · simp at h
    · rw [if_neg (by decide), if_pos (by rfl)]
      exact ⟨.str _, H, I, ⟨_, rfl⟩, q _ (.inr rfl)⟩
def numV (v : V) (i : Int) : Prop := v = .int i ∨ ∃ b, v = .bl b ∧ i = if b = true then 1 else 0
theorem op_addN1 {X : Cx} : OpR X (binaryOp .Add) (fun x y H Q => ∃ i j, numV x i ∧ y = .int j ∧ Q (.int (i + j)) H) := by
  intro pins s σ H x y v u Q I rx ry h
  obtain ⟨i, j, hx, rfl, q⟩ := h
  obtain ⟨t', rfl⟩ := ry
  rcases hx with rfl | ⟨b, rfl, rfl⟩
  · obtain ⟨t, rfl⟩ := rx
    exact add_int ⟨.int _, H, I.tok _, ⟨_, rfl⟩, q⟩
  · cases rx
    exact PySem.IntBool.add_bool_int ⟨.int _, H, I.tok _, ⟨_, rfl⟩, q⟩
theorem op_subN1 {X : Cx} : OpR X (binaryOp .Sub) (fun x y H Q => ∃ i j, numV x i ∧ y = .int j ∧ Q (.int (i - j)) H) := by
  intro pins s σ H x y v u Q I rx ry h
  obtain ⟨i, j, hx, rfl, q⟩ := h
  obtain ⟨t', rfl⟩ := ry
  rcases hx with rfl | ⟨b, rfl, rfl⟩
  · obtain ⟨t, rfl⟩ := rx
    exact sub_int ⟨.int _, H, I.tok _, ⟨_, rfl⟩, q⟩
  · cases rx
    exact PySem.IntBool.sub_bool_int ⟨.int _, H, I.tok _, ⟨_, rfl⟩, q⟩
theorem op_subN2 {X : Cx} : OpR X (binaryOp .Sub) (fun x y H Q => ∃ i j, x = .int i ∧ numV y j ∧ Q (.int (i - j)) H) := by
  intro pins s σ H x y v u Q I rx ry h
  obtain ⟨i, j, rfl, hy, q⟩ := h
  obtain ⟨t, rfl⟩ := rx
  rcases hy with rfl | ⟨b, rfl, rfl⟩
  · obtain ⟨t', rfl⟩ := ry
    exact sub_int ⟨.int _, H, I.tok _, ⟨_, rfl⟩, q⟩
  · cases ry
    exact PySem.IntBool.sub_int_bool ⟨.int _, H, I.tok _, ⟨_, rfl⟩, q⟩
theorem call_strN {X : Cx} : CallR X (.type "str") (fun xs H Q => ∃ x i, xs = [x] ∧ numV x i ∧ i.natAbs.log2 < 1920 ∧ ∀ z : Str, (z = Str.ofString (toString i) ∨ z = "True" ∨ z = "False") → Q (.str z) H) := by
  intro pins s σ H xs us Q I r h
  obtain ⟨x, i, rfl, hx, hz, q⟩ := h
  rcases hx with rfl | ⟨b, rfl, _⟩
  · obtain ⟨u, rfl, t, rfl⟩ := vals1 r
    exact PySem.P.str_of_int hz ⟨.str _, H, I.tok _, ⟨_, rfl⟩, q _ (.inl rfl)⟩
  · obtain ⟨u, rfl, r1⟩ := vals1 r
    cases r1
    exact PySem.P.str_of_bool ⟨.str _, H, I.tok _, ⟨_, rfl⟩, q _ (by cases b <;> simp)⟩
theorem call_lenX {X : Cx} : CallR X (.builtin "len") (fun xs H Q => (∃ z, xs = [.str z] ∧ z.length ≤ sizeLine ∧ Q (.int z.length) H) ∨ ∃ p ys, xs = [.ref p] ∧ (SqL X.K H p ys ∨ SqT X.K H p ys) ∧ Q (.int ys.length) H) := by
  intro pins s σ H xs us Q I r h
  rcases h with h | h
  · exact call_len_str pins s σ H xs us Q I r h
  · exact call_len_seq pins s σ H xs us Q I r h
/-- repr(x) of any thing -/
def rReprX (K : PySem.W.Frag) : List V → Hp → VK → Prop := fun xs H Q => ∃ v d, xs = [v] ∧ Dp K H v d ∧ Sho d ∧ Q (.str d.shown) H
theorem cr_reprX {X : Cx} (hg : X.A.guards = some []) (hu : X.A.units + 65 < cLine) : CallR X (.builtin "repr") (rReprX X.K) := by
  intro pins s σ H vs us Q I r h
  obtain ⟨v, d, rfl, hd, sh, q⟩ := h
  cases hd with
  | non =>
    obtain ⟨u, rfl, r1⟩ := vals1 r
    cases r1
    exact PySem.P.repr_of_none ⟨.str _, H, I.tok _, ⟨_, rfl⟩, q⟩
  | bl b =>
    obtain ⟨u, rfl, r1⟩ := vals1 r
    cases r1
    exact PySem.P.repr_of_bool ⟨.str _, H, I.tok _, ⟨_, rfl⟩, by cases b <;> exact q⟩
  | int i =>
    obtain ⟨u, rfl, t, rfl⟩ := vals1 r
    have hs := sh.s
    simp only [PyData.showable] at hs
    exact PySem.P.repr_of_int (of_decide_eq_true hs) ⟨.str _, H, I.tok _, ⟨_, rfl⟩, q⟩
  | str z =>
    obtain ⟨u, rfl, t, rfl⟩ := vals1 r
    exact PySem.P.repr_of_str ⟨.str _, H, I.tok _, ⟨_, rfl⟩, q⟩ sh.len
  | lst h1 h2 => exact cr_repr hg hu pins s σ H _ us Q I r ⟨_, _, rfl, .lst h1 h2, sh, q⟩
  | tup h1 h2 => exact cr_repr hg hu pins s σ H _ us Q I r ⟨_, _, rfl, .tup h1 h2, sh, q⟩
/-! things, standing away from some lists -/
mutual
inductive Tg (p : Addr → Prop) (H : Hp) : V → PyData → Prop
  | non : Tg p H .non .none
  | bl (b : Bool) : Tg p H (.bl b) (.bool b)
  | int (i : Int) : Tg p H (.int i) (.int i)
  | str (x : Str) : Tg p H (.str x) (.str x)
  | lst {a : Addr} {xs : List V} {ds : List PyData} : ¬ p a → H a = some (.lst xs) → TgA p H xs ds → Tg p H (.ref a) (.list ds)
  | tup {a : Addr} {xs : List V} {ds : List PyData} : ¬ p a → H a = some (.tup xs) → TgA p H xs ds → Tg p H (.ref a) (.tuple ds)
inductive TgA (p : Addr → Prop) (H : Hp) : List V → List PyData → Prop
  | nil : TgA p H [] []
  | cons {v : V} {vs : List V} {d : PyData} {ds : List PyData} : Tg p H v d → TgA p H vs ds → TgA p H (v :: vs) (d :: ds)
end
mutual
theorem Tg.to {p q : Addr → Prop} {H H' : Hp} (s : ∀ a o, ¬ p a → H a = some o → H' a = some o ∧ ¬ q a) : ∀ (d : PyData) (v : V), Tg p H v d → Tg q H' v d
  | .none, _, h => by cases h; exact .non
  | .bool b, _, h => by cases h; exact .bl b
  | .int i, _, h => by cases h; exact .int i
  | .str x, _, h => by cases h; exact .str x
  | .list ds, _, h => by
    cases h with
    | lst n e t => exact .lst (s _ _ n e).2 (s _ _ n e).1 (TgA.to s ds _ t)
  | .tuple ds, _, h => by
    cases h with
    | tup n e t => exact .tup (s _ _ n e).2 (s _ _ n e).1 (TgA.to s ds _ t)
  | .dict _, _, h => by cases h
theorem TgA.to {p q : Addr → Prop} {H H' : Hp} (s : ∀ a o, ¬ p a → H a = some o → H' a = some o ∧ ¬ q a) : ∀ (ds : List PyData) (vs : List V), TgA p H vs ds → TgA q H' vs ds
  | [], _, h => by cases h; exact .nil
  | d :: ds, _, h => by
    cases h with
    | cons a b => exact .cons (Tg.to s d _ a) (TgA.to s ds _ b)
end
theorem Tg.keep {p : Addr → Prop} {H H' : Hp} {v : V} {d : PyData} (h : Tg p H v d) (s : ∀ a o, ¬ p a → H a = some o → H' a = some o) : Tg p H' v d := h.to fun a o n e => ⟨s a o n e, n⟩
theorem TgA.keep {p : Addr → Prop} {H H' : Hp} {v : List V} {d : List PyData} (h : TgA p H v d) (s : ∀ a o, ¬ p a → H a = some o → H' a = some o) : TgA p H' v d := h.to fun a o n e => ⟨s a o n e, n⟩
theorem Tg.but {l : Addr} {H H' : Hp} {v : V} {d : PyData} (h : Tg (· = l) H v d) (s : But l H H') : Tg (· = l) H' v d := h.keep s
theorem Tg.same {p : Addr → Prop} {H H' : Hp} {v : V} {d : PyData} (h : Tg p H v d) (s : Same H H') : Tg p H' v d := h.keep fun a o _ e => s a o e
theorem TgA.same {p : Addr → Prop} {H H' : Hp} {v : List V} {d : List PyData} (h : TgA p H v d) (s : Same H H') : TgA p H' v d := h.keep fun a o _ e => s a o e
theorem TgA.but {l : Addr} {H H' : Hp} {v : List V} {d : List PyData} (h : TgA (· = l) H v d) (s : But l H H') : TgA (· = l) H' v d := h.keep s
/-- away from a list that is new -/
theorem Tg.new {p : Addr → Prop} {l : Addr} {H : Hp} {v : V} {d : PyData} {o : HO} (h : Tg p H v d) (n : H l = none) : Tg (· = l) (upd H l o) v d := h.to fun a x _ e => ⟨same_upd n a x e, ne_of_none e n⟩
mutual
theorem Tg.dp {K : PySem.W.Frag} {p : Addr → Prop} {H : Hp} : ∀ (d : PyData) (v : V), Tg p H v d → Dp K H v d
  | .none, _, h => by cases h; exact .non
  | .bool b, _, h => by cases h; exact .bl b
  | .int i, _, h => by cases h; exact .int i
  | .str x, _, h => by cases h; exact .str x
  | .list ds, _, h => by
    cases h with
    | lst n e t => exact .lst (SqL.mk e) (TgA.dp ds _ t)
  | .tuple ds, _, h => by
    cases h with
    | tup n e t => exact .tup (SqT.mk e) (TgA.dp ds _ t)
  | .dict _, _, h => by cases h
theorem TgA.dp {K : PySem.W.Frag} {p : Addr → Prop} {H : Hp} : ∀ (ds : List PyData) (vs : List V), TgA p H vs ds → DpAll K H vs ds
  | [], _, h => by cases h; exact .nil
  | d :: ds, _, h => by
    cases h with
    | cons a b => exact .cons (Tg.dp d _ a) (TgA.dp ds _ b)
end
theorem TgA.len {p : Addr → Prop} {H : Hp} : ∀ {ds : List PyData} {vs : List V}, TgA p H vs ds → vs.length = ds.length
  | [], _, h => by cases h; rfl
  | d :: ds, _, h => by
    cases h with
    | cons a b => rw [List.length_cons, List.length_cons, TgA.len b]
theorem TgA.get {p : Addr → Prop} {H : Hp} : ∀ {ds : List PyData} {vs : List V}, TgA p H vs ds → ∀ {i : Nat} {v : V}, vs[i]? = some v → ∃ d, ds[i]? = some d ∧ Tg p H v d
  | [], _, h, i, v, e => by cases h; cases e
  | d :: ds, _, h, i, v, e => by
    cases h with
    | cons a b =>
      cases i with
      | zero => cases e; exact ⟨d, rfl, a⟩
      | succ i => exact TgA.get b (by simpa using e)
theorem TgA.app {p : Addr → Prop} {H : Hp} {ds es : List PyData} {vs us : List V} (h : TgA p H vs ds) (g : TgA p H us es) : TgA p H (vs ++ us) (ds ++ es) := by
  induction ds generalizing vs with
  | nil => cases h; exact g
  | cons d ds ih =>
    cases h with
    | cons a b => exact .cons a (ih b)
theorem TgA.split {p : Addr → Prop} {H : Hp} : ∀ {ds : List PyData} {vs : List V}, TgA p H vs ds → ∀ i : Nat, TgA p H (vs.take i) (ds.take i) ∧ TgA p H (vs.drop i) (ds.drop i)
  | [], _, h, i => by cases h; simp only [List.take_nil, List.drop_nil]; exact ⟨.nil, .nil⟩
  | d :: ds, _, h, i => by
    cases h with
    | cons a b =>
      cases i with
      | zero => exact ⟨.nil, .cons a b⟩
      | succ i => exact ⟨.cons a (TgA.split b i).1, (TgA.split b i).2⟩
theorem tg_fm {p : Addr → Prop} {H : Hp} (np : ∀ a xs, H a = some (.tup xs) → ¬ p a) : ∀ {f : Fm} {v : V}, FmAt H f v → Tg p H v f.data
  | .inp i, _, ⟨_, rfl, h⟩ => .tup (np _ _ h) h (.cons (.str _) (.cons (.int _) .nil))
  | .less f, _, ⟨_, _, rfl, h, h1⟩ => .tup (np _ _ h) h (.cons (.str _) (.cons (tg_fm np h1) .nil))
  | .both f g, _, ⟨_, _, _, rfl, h, h1, h2⟩ => .tup (np _ _ h) h (.cons (.str _) (.cons (tg_fm np h1) (.cons (tg_fm np h2) .nil)))
  | .either f g, _, ⟨_, _, _, rfl, h, h1, h2⟩ => .tup (np _ _ h) h (.cons (.str _) (.cons (tg_fm np h1) (.cons (tg_fm np h2) .nil)))
  | .oneof f g, _, ⟨_, _, _, rfl, h, h1, h2⟩ => .tup (np _ _ h) h (.cons (.str _) (.cons (tg_fm np h1) (.cons (tg_fm np h2) .nil)))
  | .pick f g k, _, ⟨_, _, _, _, rfl, h, h1, h2, h3⟩ => .tup (np _ _ h) h (.cons (.str _) (.cons (tg_fm np h1) (.cons (tg_fm np h2) (.cons (tg_fm np h3) .nil))))
def isIntD : PyData → Bool
  | .int _ => true
  | _ => false
def isBlD : PyData → Bool
  | .bool _ => true
  | _ => false
def isStrD : PyData → Bool
  | .str _ => true
  | _ => false
def isTupD : PyData → Bool
  | .tuple _ => true
  | _ => false
def isLstD : PyData → Bool
  | .list _ => true
  | _ => false
theorem kit2 {K : PySem.W.Frag} {t : String} {a b : Bool} (h1 : kitB t "tuple" = some a) (h2 : kitB t "list" = some b) : PySem.W.kitAny K (.type t) [.type "tuple", .type "list"] = some (a || b) :=
  kitAny_cons (kit_ty h1) (fun e => by subst e; exact kitAny_cons (r := b) (kit_ty h2) (fun e => by subst e; exact kitAny_nil) (fun e => e)) (fun e => by rw [e]; rfl)
theorem Tg.ty {K : PySem.W.Frag} {p : Addr → Prop} {H : Hp} {v : V} {d : PyData} (h : Tg p H v d) : ∃ t, TyX K H v t ∧ PySem.W.kitOne K t (.type "int") = some (isIntD d || isBlD d) ∧ PySem.W.kitOne K t (.type "bool") = some (isBlD d) ∧ PySem.W.kitOne K t (.type "tuple") = some (isTupD d) ∧
    PySem.W.kitOne K t (.type "str") = some (isStrD d) ∧ PySem.W.kitAny K t [.type "tuple", .type "list"] = some (isTupD d || isLstD d) := by
  cases h with
  | non => exact ⟨_, .base .non, kit_ty (by show _ = some false; decide +kernel), kit_ty (by show _ = some false; decide +kernel), kit_ty (by show _ = some false; decide +kernel), kit_ty (by show _ = some false; decide +kernel), kit2 (a := false) (b := false) (by decide +kernel) (by decide +kernel)⟩
  | bl b => exact ⟨_, .base (.bl b), kit_ty (by show _ = some true; decide +kernel), kit_ty (by show _ = some true; decide +kernel), kit_ty (by show _ = some false; decide +kernel), kit_ty (by show _ = some false; decide +kernel), kit2 (a := false) (b := false) (by decide +kernel) (by decide +kernel)⟩
  | int b => exact ⟨_, .base (.int b), kit_ty (by show _ = some true; decide +kernel), kit_ty (by show _ = some false; decide +kernel), kit_ty (by show _ = some false; decide +kernel), kit_ty (by show _ = some false; decide +kernel), kit2 (a := false) (b := false) (by decide +kernel) (by decide +kernel)⟩
  | str b => exact ⟨_, .base (.str b), kit_ty (by show _ = some false; decide +kernel), kit_ty (by show _ = some false; decide +kernel), kit_ty (by show _ = some false; decide +kernel), kit_ty (by show _ = some true; decide +kernel), kit2 (a := false) (b := false) (by decide +kernel) (by decide +kernel)⟩
  | lst ne h => exact ⟨_, .base (.lst h), kit_ty (by show _ = some false; decide +kernel), kit_ty (by show _ = some false; decide +kernel), kit_ty (by show _ = some false; decide +kernel), kit_ty (by show _ = some false; decide +kernel), kit2 (a := false) (b := true) (by decide +kernel) (by decide +kernel)⟩
  | tup ne h => exact ⟨_, .base (.tup h), kit_ty (by show _ = some false; decide +kernel), kit_ty (by show _ = some false; decide +kernel), kit_ty (by show _ = some true; decide +kernel), kit_ty (by show _ = some false; decide +kernel), kit2 (a := true) (b := false) (by decide +kernel) (by decide +kernel)⟩
def sp_is_number (K : PySem.W.Frag) : Sp := fun vs H Q _ => ∃ (p : Addr → Prop) (x : V) (d : PyData), vs = [x] ∧ Tg p H x d ∧ Q (.bl (isIntD d)) H
theorem ok_is_number (T : Defs K mg) : FnOk P w K mg base CX0 1 T.f_is_number T.fd_is_number ["thing"] (sp_is_number K) := by
  refine T.F_is_number.ok sc_is_number (fun vs H Q E h => ?_) (fun cdv A outer s H vs Q E hr h => ?_)
  · obtain ⟨p, x, d, rfl, hx, q⟩ := h
    rfl
  · obtain ⟨p, x, d, rfl, hx, q⟩ := h
    refine ⟨_, PSs.nox (pss_one (ps_ret (pe_and (pe_callB call_isi (by rfl) T.m_isinstance bt_isinstance (pa_cons (pv 0) (pa_cons (pe_bltn (v := .ty "int") (by rfl) T.m_int bt_int rfl) pa_nil))) (pe_one (pe_not (pe_callB call_isi (by rfl) T.m_isinstance bt_isinstance (pa_cons (pv 0) (pa_cons (pe_bltn (v := .ty "bool") (by rfl) T.m_bool bt_bool rfl) pa_nil)))))))), ?_⟩
    obtain ⟨t, ty, ki, kb, _⟩ := hx.ty (K := K)
    refine ⟨x, rfl, _, _, _, _, _, rfl, .ty "int", ty, ki, _, rfl, ?_⟩
    refine ite2 (fun e => ?_) (fun e => ?_)
    · refine ⟨x, rfl, _, _, _, _, _, rfl, .ty "bool", ty, kb, _, rfl, ?_⟩
      have ee : (!isBlD d) = isIntD d := by
        cases d <;> first | rfl | cases e
      rw [ee]
      exact q
    · have ee : isIntD d = false := by
        cases d <;> first | rfl | exact absurd rfl e
      rw [ee] at q
      exact q
def withinD (d : PyData) (lo hi : Int) : Bool := match d with
  | .int i => decide (lo ≤ i ∧ i ≤ hi)
  | _ => false
def sp_is_within (K : PySem.W.Frag) : Sp := fun vs H Q _ => ∃ (p : Addr → Prop) (x : V) (d : PyData) (lo hi : Int), vs = [x, .int lo, .int hi] ∧ Tg p H x d ∧ Q (.bl (withinD d lo hi)) H
theorem ok_is_within (T : Defs K mg) : FnOk P w K mg base CX0 2 T.f_is_within T.fd_is_within ["thing", "least", "greatest"] (sp_is_within K) := by
  have G_is_number : FnOk P w K mg base CX0 1 T.f_is_number T.fd_is_number ["thing"] (sp_is_number K) := ok_is_number T
  refine T.F_is_within.ok sc_is_within (fun vs H Q E h => ?_) (fun cdv A outer s H vs Q E hr h => ?_)
  · obtain ⟨p, x, d, lo, hi, rfl, hx, q⟩ := h
    rfl
  · obtain ⟨p, x, d, lo, hi, rfl, hx, q⟩ := h
    refine ⟨_, PSs.nox (pss_one (ps_ret (pe_and (pe_call G_is_number (hr.mono (by decide)) (by rfl) T.g_is_number T.F_is_number.kp T.b_is_number .nil pass0 (pa_cons (pv 0) pa_nil)) (pe_one (pe_chain op_le op_le (pv 1) (pv 0) (pv 2)))))), ?_⟩
    refine ⟨x, rfl, p, x, d, rfl, hx, _, rfl, ?_⟩
    cases hx with
    | int i =>
      refine iteT ⟨_, rfl, _, rfl, _, _, rfl, rfl, _, rfl, ?_⟩
      by_cases z : lo ≤ i
      · rw [decide_eq_true z]
        refine iteT ⟨_, rfl, _, _, rfl, rfl, ?_⟩
        have e : decide (i ≤ hi) = withinD (.int i) lo hi := decide_eq_decide.mpr ⟨fun y => ⟨z, y⟩, fun y => y.2⟩
        show Q (.bl (decide (i ≤ hi))) H
        rw [e]
        exact q
      · rw [decide_eq_false z]
        refine iteF ?_
        have e : withinD (.int i) lo hi = false := decide_eq_false (fun y => z y.1)
        rw [e] at q
        exact q
    | _ => exact iteF q
def sp_is_part (K : PySem.W.Frag) : Sp := fun vs H Q _ => ∃ (p : Addr → Prop) (v : V) (d : PyData), vs = [v] ∧ Tg p H v d ∧ Q (.bl (partD d)) H
theorem okArg_len {xs : List PyData} (h : ¬ xs.length = 1) : okArg xs = false := by
  unfold okArg
  split
  · exact absurd rfl h
  · rfl
theorem ok_is_part (T : Defs K mg) : FnOk P w K mg base CX0 3 T.f_is_part T.fd_is_part ["thing"] (sp_is_part K) := by
  have G_is_within : FnOk P w K mg base CX0 2 T.f_is_within T.fd_is_within ["thing", "least", "greatest"] (sp_is_within K) := ok_is_within T
  refine T.F_is_part.ok sc_is_part (fun vs H Q E h => ?_) (fun cdv A outer s H vs Q E hr h => ?_)
  · obtain ⟨p, v, d, rfl, hv, q⟩ := h
    rfl
  · obtain ⟨p, v, d, rfl, hv, q⟩ := h
    refine ⟨_, PSs.nox (pss_cons (ps_if (PW.pt (pw_or (pt_not (pt_val (pe_callB call_isi (by rfl) T.m_isinstance bt_isinstance (pa_cons (pv 0) (pa_cons (pe_bltn (v := .ty "tuple") (by rfl) T.m_tuple bt_tuple rfl) pa_nil))))) (pw_or (pt_not (pt_truth (pv 0) (by intro _; rfl))) (pw_or1 (pt_not (pt_val (pe_callB call_isi (by rfl) T.m_isinstance bt_isinstance (pa_cons (pe_ix ix_tup (pv 0) pe_int (fun _ _ => rfl)) (pa_cons (pe_bltn (v := .ty "str") (by rfl) T.m_str bt_str rfl) pa_nil))))))))) (pss_one (ps_ret pe_bl)) pss_nil)
    (pss_cons (ps_if (pt_cmpR op_eq (pe_ix ix_tup (pv 0) pe_int (fun _ _ => rfl)) pe_str (nomark _)) (pss_one (ps_ret (pe_and (pe_cmpR op_eq (pe_callB call_len_seq (by rfl) T.m_len bt_len (pa_cons (pv 0) pa_nil)) pe_int (nomark _)) (pe_one (pe_call G_is_within (hr.mono (by decide)) (by rfl) T.g_is_within T.F_is_within.kp T.b_is_within .nil pass0 (pa_cons (pe_ix ix_tup (pv 0) pe_int (fun _ _ => rfl)) (pa_cons pe_int (pa_cons (pe_globI (by rfl) T.i_GREATEST_INPUT) pa_nil)))))))) pss_nil)
    (pss_one (ps_ret (pe_and (pe_cmpR (op_inS (K' := K) (w' := w) rfl rfl T.e_SIDES) (pe_ix ix_tup (pv 0) pe_int (fun _ _ => rfl)) ((pe_glob (v := .ref T.C_SIDES) (by rfl) T.g_SIDES rfl)) rfl) (pe_one (pe_cmpR op_eq (pe_callB call_len_seq (by rfl) T.m_len bt_len (pa_cons (pv 0) pa_nil)) (pe_op op_add pe_int (pe_ix (ix_S (K' := K) (w' := w) rfl rfl T.e_SIDES) ((pe_glob (v := .ref T.C_SIDES) (by rfl) T.g_SIDES rfl)) (pe_ix ix_tup (pv 0) pe_int (fun _ _ => rfl)) (fun _ _ => rfl))) (nomark _)))))))), ?_⟩
    obtain ⟨t, ty, -, -, kt, -, -⟩ := hv.ty (K := K)
    refine ⟨v, rfl, _, _, _, _, _, rfl, .ty "tuple", ty, kt, _, rfl, ?_⟩
    cases hv with
    | tup ne ha ts =>
      rename_i a xs ds
      refine iteF ⟨.ref a, rfl, !xs.isEmpty, .inr (.inl ⟨xs, SqT.mk ha, rfl⟩), ?_⟩
      cases ts with
      | nil => exact iteT q
      | cons h1 ts =>
        rename_i x xs d ds
        refine iteF ⟨.ref a, rfl, a, _, 0, _, rfl, rfl, SqT.mk ha, atI_nat (j := 0) rfl, ?_⟩
        obtain ⟨t1, ty1, -, -, -, ks, -⟩ := h1.ty (K := K)
        refine ⟨_, _, _, _, _, rfl, .ty "str", ty1, ks, _, rfl, ?_⟩
        cases h1 with
        | str z =>
          refine iteF ⟨.ref a, rfl, a, _, 0, _, rfl, rfl, SqT.mk ha, atI_nat (j := 0) rfl, rfl, _, rfl, ?_⟩
          by_cases e : z = "in"
          · subst e
            rw [decide_eq_true rfl]
            refine iteT ⟨.ref a, rfl, a, _, rfl, .inr (SqT.mk ha), rfl, _, rfl, ?_⟩
            have e2 : partD (.tuple (.str "in" :: ds)) = okArg ds := by simp only [partD, if_true]
            rw [e2] at q
            have ln := ts.len
            by_cases l : ds.length = 1
            · rw [decide_eq_true (show V.int ((V.str "in" :: xs).length : Nat) = V.int 2 by rw [List.length_cons, ln, l]; rfl)]
              match ds, l, xs, ts with
              | [d1], _, [x1], .cons h2 .nil =>
                refine iteT ⟨.ref a, rfl, a, _, 1, _, rfl, rfl, SqT.mk ha, atI_nat (j := 1) rfl, p, x1, d1, 0, 5, rfl, h2, ?_⟩
                have e3 : withinD d1 0 5 = okArg [d1] := by cases d1 <;> rfl
                rw [e3]
                exact q
            · rw [decide_eq_false (show ¬ V.int ((V.str "in" :: xs).length : Nat) = V.int 2 from fun y => by
                have := V.int.inj y
                rw [List.length_cons, ln] at this
                omega)]
              refine iteF ?_
              rw [okArg_len l] at q
              exact q
          · rw [decide_eq_false (show ¬ V.str z = V.str "in" from fun y => e (V.str.inj y))]
            refine iteF ⟨.ref a, rfl, a, _, 0, _, rfl, rfl, SqT.mk ha, atI_nat (j := 0) rfl, z, rfl, rfl, _, rfl, ?_⟩
            have e2 : partD (.tuple (.str z :: ds)) = decide (sideN z = some (ds.length : Int)) := by simp only [partD, if_neg e]
            rw [e2] at q
            cases e3 : sideN z with
            | none =>
              rw [e3] at q
              exact iteF q
            | some n =>
              rw [e3] at q
              refine iteT ⟨.ref a, rfl, a, _, rfl, .inr (SqT.mk ha), .ref a, rfl, a, _, 0, _, rfl, rfl, SqT.mk ha, atI_nat (j := 0) rfl, z, n, rfl, rfl, e3, _, _, rfl, rfl, rfl, ?_⟩
              have e4 : decide (V.int ((V.str z :: xs).length : Nat) = V.int (1 + n)) = decide (some n = some (ds.length : Int)) := decide_eq_decide.mpr ⟨fun y => by
                have := V.int.inj y
                rw [List.length_cons, ts.len] at this
                exact congrArg some (by omega), fun y => by
                have := Option.some.inj y
                rw [List.length_cons, ts.len]
                exact congrArg V.int (by omega)⟩
              show Q (.bl (decide (V.int ((V.str z :: xs).length : Nat) = V.int (1 + n)))) H
              rw [e4]
              exact q
        | _ => exact iteT q
    | _ => exact iteT q
def sp_sides_of (K : PySem.W.Frag) : Sp := fun vs H Q _ => ∃ (p : Addr → Prop) (v : V) (d : PyData), vs = [v] ∧ Tg p H v d ∧ partD d = true ∧ ∀ H' t us, Same H H' → H' t = some (.tup us) → TgA p H' us (sdsD d) → Q (.ref t) H'
theorem ok_sides_of (T : Defs K mg) : FnOk P w K mg base CX0 1 T.f_sides_of T.fd_sides_of ["part"] (sp_sides_of K) := by
  refine T.F_sides_of.ok sc_sides_of (fun vs H Q E h => ?_) (fun cdv A outer s H vs Q E hr h => ?_)
  · obtain ⟨p, v, d, rfl, hv, hp, q⟩ := h
    rfl
  · obtain ⟨p, v, d, rfl, hv, hp, q⟩ := h
    refine ⟨_, PSs.nox (pss_cons (ps_if (pt_cmpR op_eq (pe_ix ix_tup (pv 0) pe_int (fun _ _ => rfl)) pe_str (nomark _)) (pss_one (ps_ret (pe_tup pa_nil))) pss_nil)
    (pss_one (ps_ret (pe_slice sl_tup (pv 0) (po_some pe_int) po_none)))), ?_⟩
    obtain ⟨z, ds, rfl⟩ := part_form hp
    cases hv with
    | tup ne ha ts =>
      rename_i a xs
      cases ts with
      | cons h1 ts =>
        rename_i x xs
        cases h1
        refine ⟨.ref a, rfl, a, _, 0, _, rfl, rfl, SqT.mk ha, atI_nat (j := 0) rfl, rfl, _, rfl, ?_⟩
        by_cases e : z = "in"
        · subst e
          rw [decide_eq_true rfl]
          exact iteT ⟨Nat.zero_le _, fun t nt => q _ t [] (same_upd nt) upd_same .nil⟩
        · rw [decide_eq_false (show ¬ V.str z = V.str "in" from fun y => e (V.str.inj y))]
          refine iteF ⟨.ref a, rfl, 1, rfl, a, _, rfl, SqT.mk ha, not_whole, fun t nt => ?_⟩
          rw [cut_tail]
          have e2 : sdsD (.tuple (.str z :: ds)) = ds := by simp only [sdsD, if_neg e]
          rw [e2] at q
          exact q _ t xs (same_upd nt) upd_same (ts.same (same_upd nt))
/-- the things that wait -/
def Wt (l : Addr) (G : Hp) (us : List V) (W : List (PyData × Nat)) : Prop := us.length = W.length ∧ ∀ (i : Nat) (u : V) (e : PyData × Nat), us[i]? = some u → W[i]? = some e → ∃ t v, u = .ref t ∧ t ≠ l ∧ G t = some (.tup [v, .int (e.2 : Nat)]) ∧ Tg (· = l) G v e.1
theorem Wt.but {l : Addr} {G G' : Hp} {us : List V} {W : List (PyData × Nat)} (h : Wt l G us W) (s : But l G G') : Wt l G' us W := ⟨h.1, fun i u e h1 h2 => by
  obtain ⟨t, v, a, b, c, d⟩ := h.2 i u e h1 h2
  exact ⟨t, v, a, b, s _ _ b c, d.but s⟩⟩
theorem Wt.app {l : Addr} {G : Hp} {us vs : List V} {W V' : List (PyData × Nat)} (h : Wt l G us W) (g : Wt l G vs V') : Wt l G (us ++ vs) (W ++ V') := ⟨by rw [List.length_append, List.length_append, h.1, g.1], fun i u e h1 h2 => by
  by_cases z : i < us.length
  · rw [List.getElem?_append_left z] at h1
    rw [List.getElem?_append_left (by rw [← h.1]; exact z)] at h2
    exact h.2 i u e h1 h2
  · rw [List.getElem?_append_right (by omega)] at h1
    rw [List.getElem?_append_right (by rw [← h.1]; omega), ← h.1] at h2
    exact g.2 _ u e h1 h2⟩
theorem Wt.init {l : Addr} {G : Hp} {us : List V} {u : V} {W : List (PyData × Nat)} {e : PyData × Nat} (h : Wt l G (us ++ [u]) (W ++ [e])) : Wt l G us W ∧ us.length = W.length ∧ ∃ t v, u = .ref t ∧ t ≠ l ∧ G t = some (.tup [v, .int (e.2 : Nat)]) ∧ Tg (· = l) G v e.1 := by
  have ln : us.length = W.length := by
    have := h.1
    rw [List.length_append, List.length_append, List.length_singleton, List.length_singleton] at this
    omega
  refine ⟨⟨ln, fun i x y h1 h2 => ?_⟩, ln, h.2 us.length u e (by simp) (by rw [ln]; simp)⟩
  have i1 := (List.getElem?_eq_some_iff.mp h1).1
  exact h.2 i x y (by rw [List.getElem?_append_left i1]; exact h1) (by rw [List.getElem?_append_left (by omega)]; exact h2)
theorem snoc_of {α : Type} {xs : List α} (h : xs ≠ []) : ∃ ys y, xs = ys ++ [y] := ⟨xs.dropLast, xs.getLast h, (List.dropLast_concat_getLast h).symm⟩
theorem sz25 {c : Nat} : (25 - (((c + 1 : Nat) : Int)).toNat) < 25 - ((c : Int)).toNat ∨ 25 ≤ c := by omega
def sp_is_formula (K : PySem.W.Frag) : Sp := fun vs H Q _ => ∃ (p : Addr → Prop) (v : V) (d : PyData), vs = [v] ∧ Tg p H v d ∧ ∀ H', Same H H' → Q (.bl (isF d)) H'
theorem ok_is_formula (T : Defs K mg) : FnOk P w K mg base CX0 4 T.f_is_formula T.fd_is_formula ["thing"] (sp_is_formula K) := by
  have G_is_part : FnOk P w K mg base CX0 3 T.f_is_part T.fd_is_part ["thing"] (sp_is_part K) := ok_is_part T
  have G_sides_of : FnOk P w K mg base CX0 1 T.f_sides_of T.fd_sides_of ["part"] (sp_sides_of K) := ok_sides_of T
  refine T.F_is_formula.ok sc_is_formula (fun vs H Q E h => ?_) (fun cdv A outer s H vs Q E hr h => ?_)
  · obtain ⟨p, v, d, rfl, hv, q⟩ := h
    rfl
  · obtain ⟨p, v, d, rfl, hv, q⟩ := h
    refine ⟨_, PSs.nox (pss_cons (ps_set (i := 1) sc_is_formula.nd rfl (.inl rfl) (pe_lst (pa_cons (pe_tup (pa_cons (pv 0) (pa_cons pe_int pa_nil))) pa_nil)))
    (pss_cons (ps_set (i := 2) sc_is_formula.nd rfl (.inl rfl) pe_int)
    (pss_cons (ps_while PassesOwn.never (pt_truth (pv 1) (by intro _; rfl)) (pss_cons (ps_asg (pe_bm0 PySem.F.plainAttrs_list PySem.F.slot_list_pop PySem.F.type_list_pop mt_pop (pv 1)) (pg_tup rfl (pgs_cons (pg_name (i := 3) sc_is_formula.nd rfl (.inl rfl)) (pgs_cons (pg_name (i := 4) sc_is_formula.nd rfl (.inr rfl)) pgs_nil))))
    (pss_cons (ps_aug (i := 2) sc_is_formula.nd rfl (.inl rfl) pe_int ip_add)
    (pss_cons (ps_if (PW.pt (pw_or (pt_cmpR op_gt (pv 2) (pe_globI (by rfl) T.i_MOST_PARTS) (nomark _)) (pw_or (pt_cmpR op_gt (pv 4) (pe_globI (by rfl) T.i_DEEPEST) (nomark _)) (pw_or1 (pt_not (pt_val (pe_call G_is_part (hr.mono (by decide)) (by rfl) T.g_is_part T.F_is_part.kp T.b_is_part .nil pass0 (pa_cons (pv 3) pa_nil)))))))) (pss_one (ps_ret pe_bl)) pss_nil)
    (pss_one (ps_expr (pe_bm PySem.F.plainAttrs_list PySem.F.slot_list_extend PySem.F.type_list_extend mt_extend (pv 1) (pa_cons (pe_lc (own := [("side", 5)]) (g := gName 5) (tt := tYes) rfl sc_is_formula.nd (pi_tup (pe_call G_sides_of (hr.mono (by decide)) (by rfl) T.g_sides_of T.F_sides_of.kp T.b_sides_of .nil pass0 (pa_cons (pv 3) pa_nil))) (blkOk_by (N := N_is_formula) (sc := defScope s_is_formula) (by decide +kernel)) (fun _ _ _ _ _ => (pg_name (i := 5) sc_is_formula.nd rfl (.inl rfl))) (fun _ _ _ _ _ => pts_nil) (fun _ _ _ _ _ => (pe_tup (pa_cons (pv 5) (pa_cons (pe_op op_add (pv 4) pe_int) pa_nil))))) pa_nil))))))))
    (pss_one (ps_ret pe_bl))))), ?_⟩
    have hsl : sizeLine = 16777216 := by decide
    refine ⟨v, rfl, (show 2 ≤ sizeLine by decide), fun t nt => ⟨(show 1 ≤ sizeLine by decide), fun l nl => ?_⟩⟩
    have s1 := same_upd nt (o := .tup [v, .int 1])
    have ht := upd_same (H := H) (a := t) (o := .tup [v, .int 1])
    have nlH : H l = none := s1.free nl
    generalize upd H t (.tup [v, .int 1]) = H1 at s1 ht nl ⊢
    have hv1 := (hv.same s1).new nl (o := .lst [.ref t])
    have tl : t ≠ l := ne_of_none ht nl
    have ht2 := same_upd nl (o := .lst [.ref t]) _ _ ht
    have s2 := s1.trans (same_upd nl (o := .lst [.ref t]))
    have hl := upd_same (H := H1) (a := l) (o := .lst [.ref t])
    generalize upd H1 l (.lst [.ref t]) = H2 at s2 hl ht2 hv1 ⊢
    dsimp only [gName, tSeq, tAsg, tC, L2.start]
    show tWhile _ _ _ [some v, some (.ref l), some (.int 0), none, none, none] H2
    refine while_by (fun σ G => ∃ (c : Nat) (y3 y4 y5 : Option V) (us : List V) (W : List (PyData × Nat)), σ = [some v, some (.ref l), some (.int (c : Nat)), y3, y4, y5] ∧ Same H G ∧ G l = some (.lst us) ∧ Wt l G us W ∧ c ≤ 24 ∧ W.length ≤ 1 + 3 * c ∧ (OkW W c ↔ isF d = true)) (fun σ _ => match σ with | [_, _, some (.int c), _, _, _] => 25 - c.toNat | _ => 0) ⟨0, none, none, none, [.ref t], [(d, 1)], rfl, s2, hl, ⟨rfl, fun i u e h1 h2 => ?_⟩, Nat.zero_le _, Nat.le_refl _, ok_isF⟩ ?_ ?_
    · cases i with
      | zero =>
        cases h1
        cases h2
        exact ⟨t, v, rfl, tl, ht2, hv1⟩
      | succ i => cases h1
    · rintro σ G ⟨c, y3, y4, y5, us, W, rfl, sG, hG, hW, hc, hl1, hok⟩
      refine ⟨.ref l, rfl, !us.isEmpty, .inl ⟨us, SqL.mk hG, rfl⟩, ?_⟩
      by_cases em : us = []
      · subst em
        have e1 : W = [] := List.eq_nil_of_length_eq_zero hW.1.symm
        subst e1
        have e2 : isF d = true := hok.mp ⟨fun e he => (by cases he), by simpa using hc⟩
        rw [e2] at q
        exact iteF (q _ sG)
      · have em2 : us.isEmpty = false := by
          cases us
          · exact absurd rfl em
          · rfl
        rw [em2]
        refine iteT ?_
        obtain ⟨us', u, rfl⟩ := snoc_of em
        obtain ⟨W', ⟨de, k⟩, rfl⟩ := snoc_of (xs := W) (fun e => by
          have := hW.1
          rw [e] at this
          simp at this)
        obtain ⟨hW', lnW, tt, vv, rfl, ntl, htt, hvv⟩ := hW.init
        refine ⟨.ref l, rfl, .inl ⟨rfl, _, SqL.mk hG⟩, l, _, .ref tt, rfl, rfl, hG, by simp, ?_⟩
        rw [List.dropLast_concat]
        have b1 := (But.refl l G).put (o := .lst us')
        have sG1 := same_newer sG nlH (o := .lst us')
        have hG1 := upd_same (H := G) (a := l) (o := .lst us')
        generalize upd G l (.lst us') = G1 at b1 sG1 hG1 ⊢
        refine ⟨tt, _, rfl, SqT.mk (b1 _ _ ntl htt), rfl, ?_⟩
        refine ⟨_, _, rfl, _, _, rfl, rfl, .int (c : Nat), rfl, _, _, rfl, rfl, ?_⟩
        have hW1 := hW'.but b1
        have hv1 := hvv.but b1
        have fls : (c + 1 > 24 ∨ k > 8 ∨ partD de = false) → isF d = false := fun h => by
          cases e : isF d
          · rfl
          · exact absurd (hok.mpr e) (ok_no h)
        refine ⟨_, rfl, _, _, rfl, rfl, _, rfl, ?_⟩
        by_cases c1 : (24 : Int) < (c : Int) + 1
        · rw [decide_eq_true c1]
          have e := fls (.inl (by omega))
          rw [e] at q
          exact iteT (iteT (q _ sG1))
        rw [decide_eq_false c1]
        refine iteF ⟨_, rfl, _, _, rfl, rfl, _, rfl, ?_⟩
        by_cases c2 : (8 : Int) < ((k : Nat) : Int)
        · have c2' : decide ((8 : Int) < (((de, k) : PyData × Nat).2 : Int)) = true := decide_eq_true c2
          rw [c2']
          have e := fls (.inr (.inl (by omega)))
          rw [e] at q
          exact iteT (iteT (q _ sG1))
        have c2' : decide ((8 : Int) < (((de, k) : PyData × Nat).2 : Int)) = false := decide_eq_false c2
        rw [c2']
        refine iteF ⟨vv, rfl, (· = l), vv, de, rfl, hv1, _, rfl, ?_⟩
        by_cases c3 : partD de = true
        · rw [c3]
          refine iteF ?_
          have s3 := sides3 c3
          have lW : W'.length + 1 ≤ 1 + 3 * c := by
            rw [List.length_append, List.length_singleton] at hl1
            exact hl1
          refine ⟨.ref l, rfl, .inl ⟨rfl, _, SqL.mk hG1⟩, vv, rfl, (· = l), vv, de, rfl, hv1, c3, fun G2 t2 us2 s2 ht2 hts2 => ⟨t2, rfl, ⟨_, SqT.mk ht2⟩, fun C nC => ?_⟩⟩
          have l2 := hts2.len
          have hl2 := s2 _ _ hG1
          refine lc_tup (xs := us2) (fun i G => Same G2 G ∧ ∃ ws, G C = some (.lst ws) ∧ ws.length = i ∧ ∀ j u, j < i → us2[j]? = some u → ∃ t, ws[j]? = some (.ref t) ∧ t ≠ l ∧ G t = some (.tup [u, .int ((k + 1 : Nat) : Int)])) ⟨same_upd nC, [], upd_same, rfl, fun j u hj => absurd hj (Nat.not_lt_zero j)⟩ (fun i G _ h => SqT.mk (h.1 _ _ ht2)) (fun i u G hu h => ?_) (fun G h => ?_)
          · obtain ⟨sG3, ws, hC, lw, hws⟩ := h
            have iu := (List.getElem?_eq_some_iff.mp hu).1
            refine ⟨rfl, yes_ite ?_⟩
            refine ⟨u, rfl, .int (k : Nat), rfl, _, _, rfl, rfl, (show 2 ≤ sizeLine by decide), fun t5 n5 => ?_⟩
            have s5 := same_upd n5 (o := .tup [u, .int ((k : Nat) + 1 : Int)])
            have ne5 : t5 ≠ C := fun e => by rw [e, hC] at n5; cases n5
            have nl5 : t5 ≠ l := fun e => by rw [e, sG3 _ _ hl2] at n5; cases n5
            refine ⟨ws, s5 _ _ hC, by omega, same_newer (sG3.trans s5) nC, _, upd_same, by rw [List.length_append, List.length_singleton, lw], fun j x hj hx => ?_⟩
            by_cases z : j < i
            · obtain ⟨t, h1, h2, h3⟩ := hws j x z hx
              refine ⟨t, by rw [List.getElem?_append_left (by omega)]; exact h1, h2, ?_⟩
              rw [upd_ne (ne_of h3 hC (fun e => by cases e))]
              exact s5 _ _ h3
            · obtain rfl : j = i := by omega
              rw [hu] at hx
              cases hx
              refine ⟨t5, by rw [← lw]; simp, nl5, ?_⟩
              rw [upd_ne ne5]
              exact upd_same
          · obtain ⟨sG3, ws, hC, lw, hws⟩ := h
            have hl3 := sG3 _ _ hl2
            have nlC : l ≠ C := fun e => by rw [← e, hl2] at nC; cases nC
            refine ⟨l, C, us', ws, rfl, rfl, hl3, hC, by omega, ?_⟩
            have bL : But l G1 (upd G l (.lst (us' ++ ws))) := (same_but (s2.trans sG3)).put
            have bL2 : But l G2 (upd G l (.lst (us' ++ ws))) := (same_but sG3).put
            have bL3 : But l G (upd G l (.lst (us' ++ ws))) := (But.refl l G).put
            have wts : Wt l (upd G l (.lst (us' ++ ws))) ws ((sdsD de).map fun s => (s, k + 1)) := by
              refine ⟨by rw [lw, List.length_map, l2], fun i u e h1 h2 => ?_⟩
              have iw := (List.getElem?_eq_some_iff.mp h1).1
              have iu : i < us2.length := by omega
              obtain ⟨t, g1, g2, g3⟩ := hws i us2[i] iu (List.getElem?_eq_getElem iu)
              obtain ⟨dd, g4, g5⟩ := hts2.get (List.getElem?_eq_getElem iu)
              rw [h1] at g1
              cases g1
              rw [List.getElem?_map, g4] at h2
              cases h2
              exact ⟨t, _, rfl, g2, bL3 _ _ g2 g3, g5.but bL2⟩
            refine ⟨⟨c + 1, _, _, _, us' ++ ws, W' ++ (sdsD de).map fun s => (s, k + 1), rfl, same_newer (sG1.trans (s2.trans sG3)) nlH, upd_same, (hW1.but bL).app wts, by omega, by rw [List.length_append, List.length_map]; omega, (ok_step c3 (by omega)).symm.trans hok⟩, ?_⟩
            show 25 - ((c : Int) + 1).toNat < 25 - ((c : Int)).toNat
            omega
        · have c3' : partD de = false := by
            cases e : partD de
            · rfl
            · exact absurd e c3
          rw [c3']
          have e := fls (.inr (.inr c3'))
          rw [e] at q
          exact iteT (q _ sG1)
    · rintro σ H1 Q1 Q2 hQ ⟨v, hv, k, tk, h3⟩
      exact ⟨v, hv, k, tk, hQ _ _ h3⟩
theorem iteNo {c A B : Prop} [Decidable c] (hc : ¬ c) (h : A) : if (!decide c) = true then A else B := by
  rw [decide_eq_false hc]
  exact iteT h
abbrev kS (z : Str) : Key := .inr z
def dmL : List (Key × V) := [(kS "less", .int 1), (kS "both", .int 2), (kS "either", .int 2), (kS "oneof", .int 2), (kS "pick", .int 3)]
theorem dm_get (z : Str) : valV (mergeK [] dmL) (kS z) = (sideN z).map V.int := by
  show valV (putK (putK (putK (putK (putK [] (kS "less") (.int 1)) (kS "both") (.int 2)) (kS "either") (.int 2)) (kS "oneof") (.int 2)) (kS "pick") (.int 3)) (kS z) = _
  simp only [valV_put, valV_nil]
  have k (a : Str) : (kS z = kS a) = (z = a) := propext ⟨fun e => Sum.inr.inj e, fun e => congrArg kS e⟩
  simp only [k]
  unfold sideN dl_SIDES
  simp only [List.lookup_cons, List.lookup_nil]
  by_cases h1 : z = "less"
  · subst h1
    rw [if_neg (by decide +kernel), if_neg (by decide +kernel), if_neg (by decide +kernel), if_neg (by decide +kernel), if_pos rfl]
    simp
  by_cases h2 : z = "both"
  · subst h2
    rw [if_neg (by decide +kernel), if_neg (by decide +kernel), if_neg (by decide +kernel), if_pos rfl, beq_false_of_ne h1]
    simp
  by_cases h3 : z = "either"
  · subst h3
    rw [if_neg (by decide +kernel), if_neg (by decide +kernel), if_pos rfl, beq_false_of_ne h1, beq_false_of_ne h2]
    simp
  by_cases h4 : z = "oneof"
  · subst h4
    rw [if_neg (by decide +kernel), if_pos rfl, beq_false_of_ne h1, beq_false_of_ne h2, beq_false_of_ne h3]
    simp
  by_cases h5 : z = "pick"
  · subst h5
    rw [if_pos rfl, beq_false_of_ne h1, beq_false_of_ne h2, beq_false_of_ne h3, beq_false_of_ne h4]
    simp
  rw [if_neg h5, if_neg h4, if_neg h3, if_neg h2, if_neg h1, beq_false_of_ne h1, beq_false_of_ne h2, beq_false_of_ne h3, beq_false_of_ne h4, beq_false_of_ne h5]
  rfl
theorem side_pos {z : Str} {n : Int} (h : sideN z = some n) : 1 ≤ n ∧ n ≤ 3 := by
  unfold sideN dl_SIDES at h
  simp only [List.lookup] at h
  split at h
  · have := Option.some.inj h; omega
  · split at h
    · have := Option.some.inj h; omega
    · split at h
      · have := Option.some.inj h; omega
      · split at h
        · have := Option.some.inj h; omega
        · split at h
          · have := Option.some.inj h; omega
          · cases h
/-- what is told of a part: None, or how many parts and how deep -/
def Ms (G : Hp) (w : V) (e : PyData) : Prop := (well e = false ∧ w = .non) ∨ (well e = true ∧ ∃ t, w = .ref t ∧ G t = some (.tup [.int (siz e : Nat), .int (dpt e : Nat)]))
def msD (e : PyData) : PyData := if well e then .tuple [.int (siz e : Nat), .int (dpt e : Nat)] else .none
theorem Ms.keep {G G' : Hp} {w : V} {e : PyData} (h : Ms G w e) (k : ∀ t xs, G t = some (.tup xs) → G' t = some (.tup xs)) : Ms G' w e := by
  rcases h with h | ⟨h, t, rfl, ht⟩
  · exact .inl h
  · exact .inr ⟨h, t, rfl, k _ _ ht⟩
theorem Ms.dp {K : PySem.W.Frag} {G : Hp} {w : V} {e : PyData} (h : Ms G w e) : Dp K G w (msD e) := by
  unfold msD
  rcases h with ⟨h, rfl⟩ | ⟨h, t, rfl, ht⟩
  · rw [h]
    exact .non
  · rw [h]
    exact .tup (SqT.mk ht) (.cons (.int _) (.cons (.int _) .nil))
theorem ms_all {K : PySem.W.Frag} {G : Hp} : ∀ {es : List PyData} {ws : List V}, ws.length = es.length → (∀ (j : Nat) (w : V) (e : PyData), ws[j]? = some w → es[j]? = some e → Ms G w e) → DpAll K G ws (es.map msD)
  | [], [], _, _ => .nil
  | e :: es, w :: ws, l, h => .cons (h 0 w e rfl rfl).dp (ms_all (by simpa using l) fun j x y h1 h2 => h (j + 1) x y (by simpa using h1) (by simpa using h2))
theorem ms_any : ∀ es : List PyData, (es.map msD).any (fun z => PyData.eqv z .none) = !wellA es
  | [] => rfl
  | e :: es => by
    rw [List.map_cons, List.any_cons, ms_any es]
    simp only [wellA]
    unfold msD
    cases well e
    · rfl
    · have : PyData.eqv (if true = true then PyData.tuple [.int (siz e : Nat), .int (dpt e : Nat)] else .none) .none = false := by
        rw [if_pos rfl]
        simp only [PyData.eqv]
      rw [this]
      rfl
theorem ms_shaped (es : List PyData) : SeqAt.shaped (.list (es.map msD)) = true := by
  have h1 : PyData.canLayAll0 (es.map msD) = true := by
    induction es with
    | nil => rfl
    | cons e es ih =>
      rw [List.map_cons]
      simp only [PyData.canLayAll0, ih]
      unfold msD
      cases well e <;> rfl
  have h2 : PyData.depthAll (es.map msD) ≤ 1 := by
    induction es with
    | nil => exact Nat.zero_le _
    | cons e es ih =>
      have h1' : PyData.canLayAll0 (es.map msD) = true := by
        rw [List.map_cons] at h1
        simp only [PyData.canLayAll0] at h1
        exact (Bool.and_eq_true_iff.mp h1).2
      have := ih h1'
      have e1 : (msD e).depth ≤ 1 := by
        unfold msD
        cases well e
        · exact Nat.zero_le _
        · exact Nat.le_refl _
      rw [List.map_cons]
      simp only [PyData.depthAll]
      omega
  have h3 : (PyData.list (es.map msD)).canLay0 = true := by simpa only [PyData.canLay0] using h1
  have h4 : (PyData.list (es.map msD)).depth ≤ 64 := by
    simp only [PyData.depth]
    omega
  unfold SeqAt.shaped
  rw [h3, decide_eq_true h4]
  rfl
theorem dptA_max : ∀ {xs : List PyData}, xs ≠ [] → ∃ x, x ∈ xs ∧ dpt x = dptA xs
  | [], h => absurd rfl h
  | [x], _ => ⟨x, List.mem_cons_self, by simp only [dptA]; omega⟩
  | x :: y :: xs, _ => by
    obtain ⟨z, hz, e⟩ := dptA_max (xs := y :: xs) (by simp)
    by_cases l : dptA (y :: xs) ≤ dpt x
    · exact ⟨x, List.mem_cons_self, by rw [dptA]; omega⟩
    · exact ⟨z, List.mem_cons_of_mem _ hz, by rw [dptA, e]; omega⟩
theorem sum_cast : ∀ xs : List PyData, ((xs.map fun e => ((siz e : Nat) : Int))).sum = ((sizA xs : Nat) : Int)
  | [] => rfl
  | x :: xs => by
    rw [List.map_cons, List.sum_cons, sum_cast xs]
    simp only [sizA]
    omega
/-- the answers so far -/
def MsI (H3 : Hp) (C : Addr) (ds : List PyData) (i : Nat) (G : Hp) : Prop := Same H3 G ∧ ∃ ws : List V, G C = some (.lst ws) ∧ ws.length = i ∧ ∀ (j : Nat) (w : V) (e : PyData), ws[j]? = some w → ds[j]? = some e → Ms G w e
theorem MsI.step {H3 G G2 : Hp} {C : Addr} {ds : List PyData} {i : Nat} {e : PyData} {w : V} (h : MsI H3 C ds i G) (nC : H3 C = none) (s : Same G G2) (hi : ds[i]? = some e) (m : Ms G2 w e) (l : i < sizeLine) :
    ∃ acc, G2 C = some (.lst acc) ∧ acc.length < sizeLine ∧ MsI H3 C ds (i + 1) (upd G2 C (.lst (acc ++ [w]))) := by
  obtain ⟨sG, ws, hC, lw, hws⟩ := h
  have kp : ∀ t xs, G2 t = some (.tup xs) → (upd G2 C (.lst (ws ++ [w]))) t = some (.tup xs) := fun t xs e => by
    rw [upd_ne (ne_of e (s _ _ hC) (fun z => by cases z))]
    exact e
  refine ⟨ws, s _ _ hC, by omega, same_newer (sG.trans s) nC, _, upd_same, by rw [List.length_append, List.length_singleton, lw], fun j x y h1 h2 => ?_⟩
  by_cases z : j < i
  · rw [List.getElem?_append_left (by omega)] at h1
    exact ((hws j x y h1 h2).keep fun t xs e => s _ _ e).keep kp
  · have j1 := (List.getElem?_eq_some_iff.mp h1).1
    rw [List.length_append, List.length_singleton] at j1
    obtain rfl : j = i := by omega
    rw [hi] at h2
    cases h2
    rw [List.getElem?_append_right (by omega), lw, Nat.sub_self] at h1
    cases h1
    exact m.keep kp
theorem ms_ref {G : Hp} {ds : List PyData} {ws : List V} {i : Nat} {u : V} (hws : ∀ (j : Nat) (w : V) (e : PyData), ws[j]? = some w → ds[j]? = some e → Ms G w e) (l : ws.length = ds.length) (wa : wellA ds = true) (hu : ws[i]? = some u) :
    ∃ e t, ds[i]? = some e ∧ u = .ref t ∧ G t = some (.tup [.int (siz e : Nat), .int (dpt e : Nat)]) := by
  have i1 := (List.getElem?_eq_some_iff.mp hu).1
  have i2 : i < ds.length := by omega
  rcases hws i u ds[i] hu (List.getElem?_eq_getElem i2) with ⟨h, _⟩ | ⟨h, t, rfl, ht⟩
  · rw [wellA_all.mp wa _ (List.getElem_mem i2)] at h
    cases h
  · exact ⟨_, t, List.getElem?_eq_getElem i2, rfl, ht⟩
def spr__law_measure (D : Nat) (K : PySem.W.Frag) : Sp := fun vs H Q _ => ∃ (p : Addr → Prop) (v : V) (d : PyData), vs = [v] ∧ Tg p H v d ∧ d.depth < D ∧ Bd 30 60 1000000 d ∧
  ∀ H', Same H H' → (well d = false → Q .non H') ∧ (well d = true → ∀ t, H' t = some (.tup [.int (siz d : Nat), .int (dpt d : Nat)]) → Q (.ref t) H')
theorem no__law_measure {K : PySem.W.Frag} {vs : List V} {H : Hp} {Q : VK} {E : XK} (h : spr__law_measure 0 K vs H Q E) : False := by
  obtain ⟨p, v, d, _, _, z, _⟩ := h
  omega
theorem okr__law_measure (T : Defs K mg) : ∀ d : Nat, FnOk P w K mg base CX0 (1 + d) T.f__law_measure T.fd__law_measure ["_law_thing"] (spr__law_measure d K)
  | 0 => ⟨fun _ _ _ _ z => (no__law_measure z).elim, fun _ _ _ _ _ _ _ _ _ _ _ _ _ z => (no__law_measure z).elim⟩
  | d + 1 => by
    have G__law_measure : FnOk P w K mg base CX0 (1 + d) T.f__law_measure T.fd__law_measure ["_law_thing"] (spr__law_measure d K) := okr__law_measure T d
    show FnOk P w K mg base CX0 ((1 + d) + 1) T.f__law_measure T.fd__law_measure ["_law_thing"] (spr__law_measure (d + 1) K)
    refine T.F__law_measure.ok sc__law_measure (fun vs H Q E h => ?_) (fun cdv A outer s H vs Q E hr h => ?_)
    · obtain ⟨p, v, d, rfl, hv, hd, bd, q⟩ := h
      rfl
    · obtain ⟨p, v, d, rfl, hv, hd, bd, q⟩ := h
      refine ⟨_, PSs.nox (pss_cons (ps_set (i := 1) sc__law_measure.nd rfl (.inl rfl) (pe_disp (pps_cons pe_str pe_int (pps_cons pe_str pe_int (pps_cons pe_str pe_int (pps_cons pe_str pe_int (pps_cons pe_str pe_int pps_nil))))) rfl rfl (by simp) (by decide)))
    (pss_cons (ps_if (PW.pt (pw_or (pt_not (pt_val (pe_callB call_isi (by rfl) T.m_isinstance bt_isinstance (pa_cons (pv 0) (pa_cons (pe_bltn (v := .ty "tuple") (by rfl) T.m_tuple bt_tuple rfl) pa_nil))))) (pw_or (pt_cmpR (op_eqD hr.units) (pv 0) (pe_tup pa_nil) (nomark _)) (pw_or1 (pt_not (pt_val (pe_callB call_isi (by rfl) T.m_isinstance bt_isinstance (pa_cons (pe_ix ix_tup (pv 0) pe_int (fun _ _ => rfl)) (pa_cons (pe_bltn (v := .ty "str") (by rfl) T.m_str bt_str rfl) pa_nil))))))))) (pss_one (ps_ret pe_non)) pss_nil)
    (pss_cons (ps_if (pt_cmpR op_eq (pe_ix ix_tup (pv 0) pe_int (fun _ _ => rfl)) pe_str (nomark _)) (pss_cons (ps_set (i := 2) sc__law_measure.nd rfl (.inl rfl) (pe_and (pe_cmpR op_eq (pe_callB call_len_seq (by rfl) T.m_len bt_len (pa_cons (pv 0) pa_nil)) pe_int (nomark _)) (pe_and (pe_callB call_isi (by rfl) T.m_isinstance bt_isinstance (pa_cons (pe_ix ix_tup (pv 0) pe_int (fun _ _ => rfl)) (pa_cons (pe_bltn (v := .ty "int") (by rfl) T.m_int bt_int rfl) pa_nil))) (pe_one (pe_not (pe_callB call_isi (by rfl) T.m_isinstance bt_isinstance (pa_cons (pe_ix ix_tup (pv 0) pe_int (fun _ _ => rfl)) (pa_cons (pe_bltn (v := .ty "bool") (by rfl) T.m_bool bt_bool rfl) pa_nil))))))))
    (pss_one (ps_ret (pe_ifExp (PW.pt (pw_and (pt_val (pv 2)) (pw_and1 (pt_chain op_le op_lt pe_int (pe_ix ix_tup (pv 0) pe_int (fun _ _ => rfl)) pe_int)))) (pe_tup (pa_cons pe_int (pa_cons pe_int pa_nil))) pe_non)))) pss_nil)
    (pss_cons (ps_if (pt_cmpR op_ne (pe_op op_sub (pe_callB call_len_seq (by rfl) T.m_len bt_len (pa_cons (pv 0) pa_nil)) pe_int) (pe_dget2 (u1 hr) (pv 1) (pe_ix ix_tup (pv 0) pe_int (fun _ _ => rfl)) (pe_un un_neg pe_int) ⟨rfl, rfl, rfl, rfl⟩) (nomark _)) (pss_one (ps_ret pe_non)) pss_nil)
    (pss_cons (ps_setLc (i := 3) (own := [("_law_part", 4)]) (g := gName 4) (tt := tYes) rfl sc__law_measure.nd rfl rfl (sw_true rfl rfl rfl (by decide +kernel)) (pi_tup (pe_slice sl_tup (pv 0) (po_some pe_int) po_none)) (blkOk_by (N := N__law_measure) (sc := defScope s__law_measure) (by decide +kernel)) (fun _ _ _ _ _ => (pg_name (i := 4) sc__law_measure.nd rfl (.inl rfl))) (fun _ _ _ _ _ => pts_nil) (fun _ _ _ _ _ => (pe_call G__law_measure (hr.mono (by omega)) (by rfl) T.g__law_measure T.F__law_measure.kp T.b__law_measure .nil pass0 (pa_cons (pv 4) pa_nil))))
    (pss_cons (ps_if (pt_cmpR (op_inD (u65g hr)) pe_non (pv 3) rfl) (pss_one (ps_ret pe_non)) pss_nil)
    (pss_one (ps_ret (pe_tup (pa_cons (pe_op op_add pe_int (pe_callB (cr_sum rfl) (by rfl) T.m_sum bt_sum (pa_cons (pe_lc (own := [("_law_one", 5)]) (g := gName 5) (tt := tYes) rfl sc__law_measure.nd (pi_list (pv 3)) (blkOk_by (N := N__law_measure) (sc := defScope s__law_measure) (by decide +kernel)) (fun _ _ _ _ _ => (pg_name (i := 5) sc__law_measure.nd rfl (.inl rfl))) (fun _ _ _ _ _ => pts_nil) (fun _ _ _ _ _ => (pe_ix (ixtK (K := K) rfl) (pv 5) pe_int (fun _ _ => rfl)))) pa_nil))) (pa_cons (pe_op op_add pe_int (pe_callB (cr_max rfl) (by rfl) T.m_max bt_max (pa_cons (pe_lc (own := [("_law_one", 5)]) (g := gName 5) (tt := tYes) rfl sc__law_measure.nd (pi_list (pv 3)) (blkOk_by (N := N__law_measure) (sc := defScope s__law_measure) (by decide +kernel)) (fun _ _ _ _ _ => (pg_name (i := 5) sc__law_measure.nd rfl (.inl rfl))) (fun _ _ _ _ _ => pts_nil) (fun _ _ _ _ _ => (pe_ix (ixtK (K := K) rfl) (pv 5) pe_int (fun _ _ => rfl)))) pa_nil))) pa_nil))))))))))), ?_⟩
      have hsl : sizeLine = 16777216 := by decide
      refine fun D nD => ⟨upd_same, dmL, rfl, (show 5 ≤ 15 by decide), ?_⟩
      have s1 : Same H (upd (upd H D (.dK [])) D (.dK (mergeK [] dmL))) := same_newer (same_upd nD) nD
      have hD : (upd (upd H D (.dK [])) D (.dK (mergeK [] dmL))) D = some (.dK (mergeK [] dmL)) := upd_same
      generalize upd (upd H D (.dK [])) D (.dK (mergeK [] dmL)) = H1 at s1 hD ⊢
      have hv1 := hv.same s1
      obtain ⟨t, ty, -, -, kt, -, -⟩ := hv1.ty (K := K)
      try dsimp only
      refine ⟨v, rfl, _, _, _, _, _, rfl, .ty "tuple", ty, kt, _, rfl, ?_⟩
      cases hv1 with
      | tup ne ha ts =>
        rename_i a xs ds
        refine iteF ⟨.ref a, rfl, Nat.zero_le _, fun te ne => ?_⟩
        have s2 := same_upd ne (o := .tup [])
        have hte := upd_same (H := H1) (a := te) (o := .tup [])
        have hD2 := s2 _ _ hD
        have ha2 := s2 _ _ ha
        have ts2 := ts.same s2
        have s12 := s1.trans s2
        generalize upd H1 te (.tup []) = H2 at s2 hte hD2 ha2 ts2 s12 ⊢
        refine ⟨.tuple ds, .tuple [], .tup (SqT.mk ha2) (TgA.dp _ _ ts2), .tup (SqT.mk hte) .nil, bd.shaped (by decide), rfl, _, rfl, ?_⟩
        cases ts2 with
        | nil => exact iteT (iteT ((q _ s12).1 rfl))
        | cons h1 ts2 =>
          rename_i x xs d1 ds1
          have ev : PyData.eqv (.tuple (d1 :: ds1)) (.tuple []) = false := by simp only [PyData.eqv, PyData.eqvAll]
          rw [ev]
          obtain ⟨t1, ty1, -, -, -, ks, -⟩ := h1.ty (K := K)
          refine iteF ⟨.ref a, rfl, a, _, 0, _, rfl, rfl, SqT.mk ha2, atI_nat (j := 0) rfl, _, _, _, _, _, rfl, .ty "str", ty1, ks, _, rfl, ?_⟩
          cases h1 with
          | str z =>
            refine iteF ⟨.ref a, rfl, a, _, 0, _, rfl, rfl, SqT.mk ha2, atI_nat (j := 0) rfl, rfl, _, rfl, ?_⟩
            by_cases e : z = "in"
            · subst e
              rw [decide_eq_true rfl]
              have w1 : well (.tuple (.str "in" :: ds1)) = okArg ds1 := by simp only [well, wellT, wordOf, if_true]
              have w2 : siz (.tuple (.str "in" :: ds1)) = 1 := by simp only [siz, sizT, wordOf, if_true]
              have w3 : dpt (.tuple (.str "in" :: ds1)) = 1 := by simp only [dpt, dptT, wordOf, if_true]
              rw [w1, w2, w3] at q
              refine iteT ⟨.ref a, rfl, a, _, rfl, .inr (SqT.mk ha2), rfl, _, rfl, ?_⟩
              have ln := ts2.len
              by_cases l : ds1.length = 1
              · rw [decide_eq_true (show V.int ((V.str "in" :: xs).length : Nat) = V.int 2 by rw [List.length_cons, ln, l]; rfl)]
                match ds1, l, xs, ts2 with
                | [d2], _, [x2], .cons h2 .nil =>
                  obtain ⟨t2, ty2, ki, kb, -⟩ := h2.ty (K := K)
                  refine iteT ⟨.ref a, rfl, a, _, 1, _, rfl, rfl, SqT.mk ha2, atI_nat (j := 1) rfl, _, _, _, _, _, rfl, .ty "int", ty2, ki, _, rfl, ?_⟩
                  cases h2 with
                  | int i =>
                    refine iteT ⟨.ref a, rfl, a, _, 1, _, rfl, rfl, SqT.mk ha2, atI_nat (j := 1) rfl, _, _, _, _, _, rfl, .ty "bool", ty2, kb, _, rfl, ?_⟩
                    refine ⟨_, rfl, _, rfl, iteT ?_⟩
                    refine ⟨.ref a, rfl, a, _, 1, _, rfl, rfl, SqT.mk ha2, atI_nat (j := 1) rfl, _, _, rfl, rfl, _, rfl, ?_⟩
                    by_cases z0 : (0 : Int) ≤ i
                    · rw [decide_eq_true z0]
                      refine iteT ⟨_, _, rfl, rfl, _, rfl, ?_⟩
                      by_cases z6 : i < 6
                      · rw [decide_eq_true z6]
                        have e1 : okArg [.int i] = true := decide_eq_true ⟨z0, by omega⟩
                        refine iteT ⟨(show 2 ≤ sizeLine by decide), fun tr nr => ?_⟩
                        exact (q _ (s12.trans (same_upd nr))).2 e1 tr upd_same
                      · rw [decide_eq_false z6]
                        have e1 : okArg [.int i] = false := decide_eq_false fun y => z6 (by omega)
                        exact iteF ((q _ s12).1 e1)
                    · rw [decide_eq_false z0]
                      have e1 : okArg [.int i] = false := decide_eq_false fun y => z0 y.1
                      exact iteF ⟨_, rfl, iteF ((q _ s12).1 e1)⟩
                  | bl b =>
                    refine iteT ⟨.ref a, rfl, a, _, 1, _, rfl, rfl, SqT.mk ha2, atI_nat (j := 1) rfl, _, _, _, _, _, rfl, .ty "bool", ty2, kb, _, rfl, ?_⟩
                    exact ⟨_, rfl, _, rfl, iteF (iteF ((q _ s12).1 rfl))⟩
                  | _ => exact iteF ⟨_, rfl, _, rfl, iteF (iteF ((q _ s12).1 rfl))⟩
              · rw [decide_eq_false (show ¬ V.int ((V.str "in" :: xs).length : Nat) = V.int 2 from fun y => by
                  have := V.int.inj y
                  rw [List.length_cons, ln] at this
                  omega)]
                exact iteF ⟨_, rfl, _, rfl, iteF (iteF ((q _ s12).1 (okArg_len l)))⟩
            rw [decide_eq_false (show ¬ V.str z = V.str "in" from fun y => e (V.str.inj y))]
            have w1 : well (.tuple (.str z :: ds1)) = (decide (sideN z = some (ds1.length : Int)) && wellA ds1) := by simp only [well, wellT, wordOf, if_neg e]
            have w2 : siz (.tuple (.str z :: ds1)) = 1 + sizA ds1 := by simp only [siz, sizT, wordOf, if_neg e]
            have w3 : dpt (.tuple (.str z :: ds1)) = 1 + dptA ds1 := by simp only [dpt, dptT, wordOf, if_neg e]
            rw [w1, w2, w3] at q
            have ln := ts2.len
            refine iteF ⟨.ref a, rfl, a, _, rfl, .inr (SqT.mk ha2), _, _, rfl, rfl, .ref D, rfl, D, rfl, .inl ⟨_, .inl hD2⟩, .ref a, rfl, a, _, 0, _, rfl, rfl, SqT.mk ha2, atI_nat (j := 0) rfl, _, rfl, (sideN z).map V.int, dm_get z ▸ DGet.k (k := kS z) hD2, ?_⟩
            have hsd : ∃ n0 : Int, ((sideN z).map V.int).getD (V.int (-1)) = V.int n0 ∧ (n0 = (ds1.length : Int) ↔ sideN z = some (ds1.length : Int)) := by
              cases e3 : sideN z with
              | none => exact ⟨-1, rfl, ⟨fun y => by omega, fun y => by cases y⟩⟩
              | some n => exact ⟨n, rfl, ⟨fun y => by rw [y], fun y => Option.some.inj y⟩⟩
            obtain ⟨n0, hn0, hn1⟩ := hsd
            try dsimp only
            rw [hn0]
            refine ⟨rfl, _, rfl, ?_⟩
            by_cases e3 : sideN z = some (ds1.length : Int)
            · have n3 := side_pos e3
              have en := hn1.mpr e3
              refine iteNS (by rw [List.length_cons, ln, en]; exact congrArg V.int (by omega)) ?_
              refine ⟨.ref a, rfl, 1, rfl, a, _, rfl, SqT.mk ha2, not_whole, fun tc ntc => ?_⟩
              rw [cut_tail]
              have s3 := same_upd ntc (o := .tup xs)
              have htc := upd_same (H := H2) (a := tc) (o := .tup xs)
              have ts3 := ts2.same s3
              have s13 := s12.trans s3
              generalize upd H2 tc (.tup xs) = H3 at s3 htc ts3 s13 ⊢
              have bI := bd.itemsT.2
              refine ⟨tc, rfl, ⟨_, SqT.mk htc⟩, fun C nC => ?_⟩
              refine lc_tup (xs := xs) (MsI H3 C ds1) ⟨same_upd nC, [], upd_same, rfl, fun j w e h => (by cases h)⟩ (fun i G _ h => SqT.mk (h.1 _ _ htc)) (fun i u G hu h => ?_) (fun G h => ?_)
              · obtain ⟨e1, he, hte⟩ := (ts3.same h.1).get hu
                have em := List.mem_of_getElem? he
                have iu := (List.getElem?_eq_some_iff.mp hu).1
                have be := bI.get (List.mem_cons_of_mem _ em)
                have de : e1.depth < d := by
                  have := depA_mem (n := PyData.depthAll (.str z :: ds1)) (List.mem_cons_of_mem _ em) (Nat.le_refl _)
                  simp only [PyData.depth] at hd
                  omega
                refine ⟨rfl, yes_ite ?_⟩
                refine ⟨u, rfl, p, u, e1, rfl, hte, de, be.mono (Nat.le_refl _) (by omega) (Nat.le_refl _), fun G2 sg => ⟨fun w0 => ?_, fun w0 t ht => ?_⟩⟩
                · exact h.step nC sg he (.inl ⟨w0, rfl⟩) (by omega)
                · exact h.step nC sg he (.inr ⟨w0, t, rfl, ht⟩) (by omega)
              · obtain ⟨sG, ws, hC, lw, hws⟩ := h
                have lw2 : ws.length = ds1.length := by omega
                have sHG := s13.trans sG
                refine ⟨.ref C, rfl, .none, ds1.map msD, .non, .lst (SqL.mk hC) (ms_all lw2 hws), rfl, ms_shaped _, _, rfl, ?_⟩
                rw [ms_any]
                cases wa : wellA ds1 with
                | false =>
                  refine iteT ((q _ sHG).1 ?_)
                  rw [wa, Bool.and_false]
                | true =>
                  refine iteF ?_
                  refine ⟨.ref C, rfl, C, rfl, ⟨_, SqL.mk hC⟩, fun C2 nC2 => ?_⟩
                  refine lc_list (xs := ws) (fun i G' => Same G G' ∧ G' C2 = some (.lst (((ds1.take i).map fun e => ((siz e : Nat) : Int)).map V.int))) ⟨same_upd nC2, upd_same⟩ (fun i G' _ h => SqL.mk (h.1 _ _ hC)) (fun i u G' hu h => ?_) (fun G4 h4 => ?_)
                  · obtain ⟨sg, hC2⟩ := h
                    obtain ⟨e1, t, he, rfl, ht⟩ := ms_ref hws lw2 wa hu
                    have iu := (List.getElem?_eq_some_iff.mp hu).1
                    refine ⟨rfl, yes_ite ?_⟩
                    refine ⟨.ref t, rfl, t, _, 0, _, rfl, rfl, SqT.mk (sg _ _ ht), atI_nat (j := 0) rfl, ?_⟩
                    refine ⟨_, hC2, by rw [List.length_map, List.length_map, List.length_take]; omega, same_newer sg nC2, ?_⟩
                    rw [upd_same, List.take_add_one, he, Option.toList_some, List.map_append, List.map_append]
                    rfl
                  obtain ⟨s4, hC2⟩ := h4
                  rw [lw2, List.take_length] at hC2
                  refine ⟨C2, _, rfl, SqL.mk hC2, _, _, rfl, rfl, ?_⟩
                  refine ⟨.ref C, rfl, C, rfl, ⟨_, SqL.mk (s4 _ _ hC)⟩, fun C3 nC3 => ?_⟩
                  refine lc_list (xs := ws) (fun i G' => Same G4 G' ∧ G' C3 = some (.lst (((ds1.take i).map fun e => ((dpt e : Nat) : Int)).map V.int))) ⟨same_upd nC3, upd_same⟩ (fun i G' _ h => SqL.mk (h.1 _ _ (s4 _ _ hC))) (fun i u G' hu h => ?_) (fun G5 h5 => ?_)
                  · obtain ⟨sg, hC3⟩ := h
                    obtain ⟨e1, t, he, rfl, ht⟩ := ms_ref hws lw2 wa hu
                    have iu := (List.getElem?_eq_some_iff.mp hu).1
                    refine ⟨rfl, yes_ite ?_⟩
                    refine ⟨.ref t, rfl, t, _, 1, _, rfl, rfl, SqT.mk (sg _ _ (s4 _ _ ht)), atI_nat (j := 1) rfl, ?_⟩
                    refine ⟨_, hC3, by rw [List.length_map, List.length_map, List.length_take]; omega, same_newer sg nC3, ?_⟩
                    rw [upd_same, List.take_add_one, he, Option.toList_some, List.map_append, List.map_append]
                    rfl
                  obtain ⟨s5, hC3⟩ := h5
                  rw [lw2, List.take_length] at hC3
                  refine ⟨C3, _, rfl, SqL.mk hC3, by rw [List.length_map]; omega, fun m hm hle => ?_⟩
                  refine ⟨_, _, rfl, rfl, (show 2 ≤ sizeLine by decide), fun tr nr => ?_⟩
                  have em : m = ((dptA ds1 : Nat) : Int) := by
                    obtain ⟨x, hx, ex⟩ := dptA_max (xs := ds1) (fun z => by rw [z] at e3 n3; have := n3.1; rw [List.length_nil] at this; omega)
                    have l1 := hle _ (List.mem_map.mpr ⟨x, hx, rfl⟩)
                    obtain ⟨y, hy, ey⟩ := List.mem_map.mp hm
                    have l2 := (dptA_le (n := dptA ds1)).mp (Nat.le_refl _) y hy
                    omega
                  refine (q _ ((sHG.trans (s4.trans s5)).trans (same_upd nr))).2 (by rw [decide_eq_true e3]; exact wa) tr ?_
                  rw [upd_same, sum_cast, em]
                  rfl
            · refine iteNo (fun y => e3 (hn1.mp (by
                have y2 := V.int.inj y
                rw [List.length_cons, ln] at y2
                omega))) ((q _ s12).1 ?_)
              rw [decide_eq_false e3]
              rfl
          | _ => exact iteT ((q _ s12).1 rfl)
      | _ => exact iteT (iteT ((q _ s1).1 rfl))
def sp__law_measure (K : PySem.W.Frag) : Sp := spr__law_measure 16 K
theorem ok__law_measure (T : Defs K mg) : FnOk P w K mg base CX0 17 T.f__law_measure T.fd__law_measure ["_law_thing"] (sp__law_measure K) := okr__law_measure T 16
def sp__law_is_right (K : PySem.W.Frag) : Sp := fun vs H Q _ => ∃ (p : Addr → Prop) (v : V) (d : PyData), vs = [v] ∧ Tg p H v d ∧ d.depth < 16 ∧ Bd 30 60 1000000 d ∧ ∀ H', Same H H' → Q (.bl (isF d)) H'
theorem ok__law_is_right (T : Defs K mg) : FnOk P w K mg base CX0 18 T.f__law_is_right T.fd__law_is_right ["_law_thing"] (sp__law_is_right K) := by
  have G__law_measure : FnOk P w K mg base CX0 17 T.f__law_measure T.fd__law_measure ["_law_thing"] (sp__law_measure K) := ok__law_measure T
  refine T.F__law_is_right.ok sc__law_is_right (fun vs H Q E h => ?_) (fun cdv A outer s H vs Q E hr h => ?_)
  · obtain ⟨p, v, d, rfl, hv, hd, bd, q⟩ := h
    rfl
  · obtain ⟨p, v, d, rfl, hv, hd, bd, q⟩ := h
    refine ⟨_, PSs.nox (pss_cons (ps_set (i := 1) sc__law_is_right.nd rfl (.inl rfl) (pe_call G__law_measure (hr.mono (by decide)) (by rfl) T.g__law_measure T.F__law_measure.kp T.b__law_measure .nil pass0 (pa_cons (pv 0) pa_nil)))
    (pss_one (ps_ret (pe_and (pe_cmpR op_notN (pv 1) pe_non (nomark _)) (pe_and (pe_cmpR op_lt (pe_ix ix_tup (pv 1) pe_int (fun _ _ => rfl)) pe_int (nomark _)) (pe_one (pe_cmpR op_lt (pe_ix ix_tup (pv 1) pe_int (fun _ _ => rfl)) pe_int (nomark _)))))))), ?_⟩
    refine ⟨v, rfl, p, v, d, rfl, hv, hd, bd, fun H1 s1 => ⟨fun w0 => ?_, fun w0 t ht => ?_⟩⟩
    · have e : isF d = false := by
        unfold isF
        rw [w0]
        rfl
      rw [e] at q
      exact ⟨.non, rfl, rfl, _, rfl, iteNS rfl (q _ s1)⟩
    · have e : isF d = (decide (siz d < 25) && decide (dpt d < 9)) := by
        unfold isF
        rw [w0]
        rfl
      rw [e] at q
      refine ⟨.ref t, rfl, rfl, _, rfl, iteNo (fun y => by cases y) ?_⟩
      refine ⟨.ref t, rfl, t, _, 0, _, rfl, rfl, SqT.mk ht, atI_nat (j := 0) rfl, _, _, rfl, rfl, _, rfl, ?_⟩
      by_cases c1 : siz d < 25
      · rw [decide_eq_true (show ((siz d : Nat) : Int) < 25 by omega)]
        refine iteT ⟨.ref t, rfl, t, _, 1, _, rfl, rfl, SqT.mk ht, atI_nat (j := 1) rfl, _, _, rfl, rfl, ?_⟩
        have e2 : decide (((dpt d : Nat) : Int) < 9) = (decide (siz d < 25) && decide (dpt d < 9)) := by
          rw [decide_eq_true c1, Bool.true_and]
          exact decide_eq_decide.mpr (by omega)
        show Q (.bl (decide (((dpt d : Nat) : Int) < 9))) H1
        rw [e2]
        exact q _ s1
      · rw [decide_eq_false (show ¬ ((siz d : Nat) : Int) < 25 by omega)]
        rw [decide_eq_false c1] at q
        exact iteF (q _ s1)
/-- lists that stand -/
def Sts (E : Addr → Prop) (H : Hp) : Prop := ∀ q, E q → H q ≠ none
theorem Sts.not {E : Addr → Prop} {H : Hp} {t : Addr} (h : Sts E H) (n : H t = none) : ¬ E t := fun e => h t e n
theorem Sts.same {E : Addr → Prop} {H H' : Hp} (h : Sts E H) (s : Same H H') : Sts E H' := fun q e n => by
  cases z : H q with
  | none => exact h q e z
  | some o =>
    rw [s _ _ z] at n
    cases n
theorem Bx.some {H : Hp} {p : Addr} {n : Nat} (B : Bx H p n) : H p ≠ none := by
  obtain ⟨a, b, c, h, _⟩ := B
  rw [h]
  exact fun z => by cases z
theorem Sts.but {E : Addr → Prop} {H H' : Hp} {p : Addr} {n : Nat} (h : Sts E H) (s : But p H H') (B : Bx H' p n) : Sts E H' := fun q e z => by
  by_cases qp : q = p
  · subst qp
    exact B.some z
  · cases y : H q with
    | none => exact h q e y
    | some o =>
      rw [s _ _ qp y] at z
      cases z
theorem Tg.bt {E : Addr → Prop} {H H' : Hp} {v : V} {d : PyData} {p : Addr} (h : Tg E H v d) (e : E p) (s : But p H H') : Tg E H' v d := h.keep fun a o n q => s a o (fun z => n (z ▸ e)) q
theorem TgA.bt {E : Addr → Prop} {H H' : Hp} {v : List V} {d : List PyData} {p : Addr} (h : TgA E H v d) (e : E p) (s : But p H H') : TgA E H' v d := h.keep fun a o n q => s a o (fun z => n (z ▸ e)) q
def sp__law_odd (_ : PySem.W.Frag) : Sp := fun vs H Q _ => ∃ (p : Addr) (n : Nat) (E : Addr → Prop), vs = [.ref p] ∧ Bx H p n ∧ E p ∧ Sts E H ∧ n < 1000000 ∧
  ∀ H' v d, But p H H' → Bx H' p (n + 1) → Tg E H' v d → Bd 2 2 200 d → Q v H'
def oddD : List PyData := [.none, .bool true, .bool false, .int 0, .int 5, .int 6, .int (-1), .str "", .str "in", .str "both", .str "pick", .tuple [], .list [], .tuple [.str "in"], .tuple [.str "in", .int 0], .tuple [.str "in", .int 6], .tuple [.str "less", .tuple [.str "in", .int 5]], .list [.str "in", .int 0]]
theorem odd_bd : BdA 2 2 200 oddD := ⟨by decide +kernel, by decide +kernel, by decide +kernel⟩
theorem ok__law_odd (T : Defs K mg) : FnOk P w K mg base CX0 2 T.f__law_odd T.fd__law_odd ["_law_box_here"] (sp__law_odd K) := by
  have G__law_take : FnOk P w K mg base CX0 1 T.f__law_take T.fd__law_take ["_law_box_here", "_law_many"] (sp__law_take K) := ok__law_take T
  refine T.F__law_odd.ok sc__law_odd (fun vs H Q E h => ?_) (fun cdv A outer s H vs Q E hr h => ?_)
  · obtain ⟨p, n, E, rfl, hB, hE, hS, hn, q⟩ := h
    rfl
  · obtain ⟨p, n, E, rfl, hB, hE, hS, hn, q⟩ := h
    refine ⟨_, PSs.nox (pss_cons (ps_set (i := 1) sc__law_odd.nd rfl (.inl rfl) (pe_lst (pa_cons pe_non (pa_cons pe_bl (pa_cons pe_bl (pa_cons pe_int (pa_cons pe_int (pa_cons pe_int (pa_cons (pe_un un_neg pe_int) (pa_cons pe_str (pa_cons pe_str (pa_cons pe_str (pa_cons pe_str (pa_cons (pe_tup pa_nil) (pa_cons (pe_lst pa_nil) (pa_cons (pe_tup (pa_cons pe_str pa_nil)) (pa_cons (pe_tup (pa_cons pe_str (pa_cons pe_int pa_nil))) (pa_cons (pe_tup (pa_cons pe_str (pa_cons pe_int pa_nil))) pa_nil))))))))))))))))))
    (pss_one (ps_ret (pe_ix ix_list (pe_op op_cat (pv 1) (pe_lst (pa_cons (pe_tup (pa_cons pe_str (pa_cons (pe_tup (pa_cons pe_str (pa_cons pe_int pa_nil))) pa_nil))) (pa_cons (pe_lst (pa_cons pe_str (pa_cons pe_int pa_nil))) pa_nil)))) (pe_call G__law_take (hr.mono (by decide)) (by rfl) T.g__law_take T.F__law_take.kp T.b__law_take .nil pass0 (pa_cons (pv 0) (pa_cons pe_int pa_nil))) (fun _ _ => rfl))))), ?_⟩
    refine ⟨_, rfl, Nat.zero_le _, fun t1 n1 => ?_⟩
    have e1 := hS.not n1
    have s1 := same_upd n1 (o := .tup [])
    have k1 : Tg E (upd H t1 (.tup [])) (.ref t1) (.tuple []) := .tup e1 upd_same .nil
    have S1 := hS.same s1
    generalize upd H t1 (.tup []) = H1 at s1 k1 S1 ⊢
    refine ⟨Nat.zero_le _, fun t2 n2 => ?_⟩
    have e2 := S1.not n2
    have s2 := same_upd n2 (o := .lst [])
    have k2 : Tg E (upd H1 t2 (.lst [])) (.ref t2) (.list []) := .lst e2 upd_same .nil
    have S2 := S1.same s2
    generalize upd H1 t2 (.lst []) = H2 at s2 k2 S2 ⊢
    refine ⟨(show 1 ≤ sizeLine by decide), fun t3 n3 => ?_⟩
    have e3 := S2.not n3
    have s3 := same_upd n3 (o := .tup [.str "in"])
    have k3 : Tg E (upd H2 t3 (.tup [.str "in"])) (.ref t3) (.tuple [.str "in"]) := .tup e3 upd_same (.cons (.str _) .nil)
    have S3 := S2.same s3
    generalize upd H2 t3 (.tup [.str "in"]) = H3 at s3 k3 S3 ⊢
    refine ⟨(show 2 ≤ sizeLine by decide), fun t4 n4 => ?_⟩
    have e4 := S3.not n4
    have s4 := same_upd n4 (o := .tup [.str "in", .int 0])
    have k4 : Tg E (upd H3 t4 (.tup [.str "in", .int 0])) (.ref t4) (.tuple [.str "in", .int 0]) := .tup e4 upd_same (.cons (.str _) (.cons (.int _) .nil))
    have S4 := S3.same s4
    generalize upd H3 t4 (.tup [.str "in", .int 0]) = H4 at s4 k4 S4 ⊢
    refine ⟨(show 2 ≤ sizeLine by decide), fun t5 n5 => ?_⟩
    have e5 := S4.not n5
    have s5 := same_upd n5 (o := .tup [.str "in", .int 6])
    have k5 : Tg E (upd H4 t5 (.tup [.str "in", .int 6])) (.ref t5) (.tuple [.str "in", .int 6]) := .tup e5 upd_same (.cons (.str _) (.cons (.int _) .nil))
    have S5 := S4.same s5
    generalize upd H4 t5 (.tup [.str "in", .int 6]) = H5 at s5 k5 S5 ⊢
    refine ⟨(show 16 ≤ sizeLine by decide), fun l nl => ?_⟩
    have s6 := same_upd nl (o := .lst [.non, .bl true, .bl false, .int 0, .int 5, .int 6, .int (-1), .str "", .str "in", .str "both", .str "pick", .ref t1, .ref t2, .ref t3, .ref t4, .ref t5])
    have hl := upd_same (H := H5) (a := l) (o := .lst [.non, .bl true, .bl false, .int 0, .int 5, .int 6, .int (-1), .str "", .str "in", .str "both", .str "pick", .ref t1, .ref t2, .ref t3, .ref t4, .ref t5])
    have S6 := S5.same s6
    generalize hX : upd H5 l (.lst [.non, .bl true, .bl false, .int 0, .int 5, .int 6, .int (-1), .str "", .str "in", .str "both", .str "pick", .ref t1, .ref t2, .ref t3, .ref t4, .ref t5]) = H6 at s6 hl S6
    try dsimp only
    try rw [hX]
    refine ⟨.ref l, rfl, (show 2 ≤ sizeLine by decide), fun t6 n6 => ?_⟩
    have e6 := S6.not n6
    have s7 := same_upd n6 (o := .tup [.str "in", .int 5])
    have k6 : Tg E (upd H6 t6 (.tup [.str "in", .int 5])) (.ref t6) (.tuple [.str "in", .int 5]) := .tup e6 upd_same (.cons (.str _) (.cons (.int _) .nil))
    have S7 := S6.same s7
    generalize upd H6 t6 (.tup [.str "in", .int 5]) = H7 at s7 k6 S7 ⊢
    refine ⟨(show 2 ≤ sizeLine by decide), fun t7 n7 => ?_⟩
    have e7 := S7.not n7
    have s8 := same_upd n7 (o := .tup [.str "less", .ref t6])
    have k7 : Tg E (upd H7 t7 (.tup [.str "less", .ref t6])) (.ref t7) (.tuple [.str "less", .tuple [.str "in", .int 5]]) := .tup e7 upd_same (.cons (.str _) (.cons (k6.same s8) .nil))
    have S8 := S7.same s8
    generalize upd H7 t7 (.tup [.str "less", .ref t6]) = H8 at s8 k7 S8 ⊢
    refine ⟨(show 2 ≤ sizeLine by decide), fun t8 n8 => ?_⟩
    have e8 := S8.not n8
    have s9 := same_upd n8 (o := .lst [.str "in", .int 0])
    have k8 : Tg E (upd H8 t8 (.lst [.str "in", .int 0])) (.ref t8) (.list [.str "in", .int 0]) := .lst e8 upd_same (.cons (.str _) (.cons (.int _) .nil))
    have S9 := S8.same s9
    generalize upd H8 t8 (.lst [.str "in", .int 0]) = H9 at s9 k8 S9 ⊢
    refine ⟨(show 2 ≤ sizeLine by decide), fun t9 n9 => ?_⟩
    have s10 := same_upd n9 (o := .lst [.ref t7, .ref t8])
    have h9 := upd_same (H := H9) (a := t9) (o := .lst [.ref t7, .ref t8])
    generalize upd H9 t9 (.lst [.ref t7, .ref t8]) = H10 at s10 h9 ⊢
    have m9 := s9.trans s10
    have m8 := s8.trans m9
    have m7 := s7.trans m8
    have m6 := s6.trans m7
    have m5 := s5.trans m6
    have m4 := s4.trans m5
    have m3 := s3.trans m4
    have m2 := s2.trans m3
    have m1 := s1.trans m2
    refine ⟨l, t9, _, _, rfl, rfl, m7 _ _ hl, h9, (show 16 + 2 ≤ sizeLine by decide), fun l3 n10 => ?_⟩
    have s11 := same_upd n10 (o := .lst ([.non, .bl true, .bl false, .int 0, .int 5, .int 6, .int (-1), .str "", .str "in", .str "both", .str "pick", .ref t1, .ref t2, .ref t3, .ref t4, .ref t5] ++ [.ref t7, .ref t8]))
    have ts : TgA E (upd H10 l3 (.lst ([.non, .bl true, .bl false, .int 0, .int 5, .int 6, .int (-1), .str "", .str "in", .str "both", .str "pick", .ref t1, .ref t2, .ref t3, .ref t4, .ref t5] ++ [.ref t7, .ref t8]))) ([.non, .bl true, .bl false, .int 0, .int 5, .int 6, .int (-1), .str "", .str "in", .str "both", .str "pick", .ref t1, .ref t2, .ref t3, .ref t4, .ref t5] ++ [.ref t7, .ref t8]) oddD :=
      .cons .non (.cons (.bl _) (.cons (.bl _) (.cons (.int _) (.cons (.int _) (.cons (.int _) (.cons (.int _) (.cons (.str _) (.cons (.str _) (.cons (.str _) (.cons (.str _) (.cons (k1.same (m2.trans s11)) (.cons (k2.same (m3.trans s11)) (.cons (k3.same (m4.trans s11)) (.cons (k4.same (m5.trans s11)) (.cons (k5.same (m6.trans s11)) (.cons (k7.same (m9.trans s11)) (.cons (k8.same (s10.trans s11)) .nil)))))))))))))))))
    have hl3 := upd_same (H := H10) (a := l3) (o := .lst ([.non, .bl true, .bl false, .int 0, .int 5, .int 6, .int (-1), .str "", .str "in", .str "both", .str "pick", .ref t1, .ref t2, .ref t3, .ref t4, .ref t5] ++ [.ref t7, .ref t8]))
    generalize hV : ([.non, .bl true, .bl false, .int 0, .int 5, .int 6, .int (-1), .str "", .str "in", .str "both", .str "pick", .ref t1, .ref t2, .ref t3, .ref t4, .ref t5] ++ [.ref t7, .ref t8] : List V) = vv at s11 ts hl3
    have lv : vv.length = 18 := by rw [← hV]; rfl
    have mH := m1.trans s11
    try dsimp only
    generalize upd H10 l3 (.lst vv) = H11 at s11 ts hl3 mH ⊢
    refine ⟨.ref p, rfl, p, 18, n, rfl, hB.same mH, by decide, by decide, by omega, fun G r c B l0 u0 => ?_⟩
    obtain ⟨j, rfl⟩ := nat_of l0
    have np : l3 ≠ p := fun e => by
      obtain ⟨a, b, c, hp, _⟩ := hB.same s1 |>.same m2 |>.same (Same.refl H10)
      rw [e] at n10
      rw [hp] at n10
      cases n10
    have jl : j < vv.length := by omega
    obtain ⟨dd, hd1, hd2⟩ := ts.get (List.getElem?_eq_getElem jl)
    refine ⟨l3, vv, (j : Nat), vv[j], rfl, rfl, SqL.mk (c _ _ np hl3), atI_nat (List.getElem?_eq_getElem jl), ?_⟩
    exact q G _ dd ((same_but mH).trans c) B (hd2.bt hE c) (odd_bd.get (List.mem_of_getElem? hd1))
/-! texts and things that are small -/
theorem ok_iff {x : Str} : PyData.strOk x = true ↔ ∀ c, c ∈ x.cps.toList → c < 0x110000 := by
  unfold PyData.strOk
  rw [Array.all_eq_true_iff_forall_mem]
  exact ⟨fun h c hc => by simpa using h c (Array.mem_toList_iff.mp hc), fun h c hc => by simpa using h c (Array.mem_toList_iff.mpr hc)⟩
theorem ok_app {a b : Str} (h : PyData.strOk a = true) (g : PyData.strOk b = true) : PyData.strOk (a ++ b) = true := by
  refine ok_iff.mpr fun c hc => ?_
  have hc : c ∈ (a.cps ++ b.cps).toList := hc
  rw [Array.toList_append] at hc
  rcases List.mem_append.mp hc with hc | hc
  · exact ok_iff.mp h c hc
  · exact ok_iff.mp g c hc
theorem ok_cut {a : Str} (lo hi : Option Int) (h : PyData.strOk a = true) : PyData.strOk (cutS a lo hi) = true := by
  refine ok_iff.mpr fun c hc => ?_
  have hc : c ∈ ((a.cps.toList.drop (HT.sIx a.length 0 lo)).take (HT.sIx a.length a.length hi - HT.sIx a.length 0 lo)).toArray.toList := hc
  rw [List.toList_toArray] at hc
  exact ok_iff.mp h c (List.mem_of_mem_drop (List.mem_of_mem_take hc))
theorem ok_of (s : String) : PyData.strOk (Str.ofString s) = true := by
  refine ok_iff.mpr fun c hc => ?_
  rw [Str.ofString_eq_toList] at hc
  simp only [List.toList_toArray, List.mem_map] at hc
  obtain ⟨x, _, rfl⟩ := hc
  have := x.valid
  rcases this with h | ⟨_, h⟩
  · show x.val.toNat < _
    omega
  · exact h
theorem bd_int {k : Nat} {i : Int} (h : i.natAbs < 10 ^ k) : Bd k 0 (4 * k + 1) (.int i) := ⟨by simp only [gd]; exact decide_eq_true h, (shs_int h).dp, (shs_int h).wt⟩
theorem bd_str {k : Nat} {z : Str} (h : PyData.strOk z = true) : Bd k 0 z.length (.str z) := ⟨by simpa only [gd] using h, by simp only [PyData.depth]; decide, by simp only [PyData.weight]; exact Nat.le_refl _⟩
theorem bd_bl {k : Nat} {b : Bool} : Bd k 0 0 (.bool b) := ⟨rfl, by simp only [PyData.depth]; decide, by simp only [PyData.weight]; decide⟩
theorem bd_len {k n w : Nat} {z : Str} (h : Bd k n w (.str z)) : PyData.strOk z = true ∧ z.length ≤ w := ⟨by simpa only [gd] using h.g, by have := h.wt; simp only [PyData.weight] at this; exact this⟩
theorem pow_t {k : Nat} (h : 2 ≤ k) : 100 ≤ 10 ^ k ∧ 10 ^ (k + 1) = 10 * 10 ^ k := ⟨Nat.le_trans (by decide) (Nat.pow_le_pow_right (n := 10) (by decide) h), by rw [Nat.pow_succ]; omega⟩
/-- six numbers and texts near a number -/
theorem num_bd {k : Nat} {i : Int} {b0 : Bool} {z : Str} (hk : 2 ≤ k) (k20 : k ≤ 20) (hi : i.natAbs < 10 ^ k) (hz : z = Str.ofString (toString i) ∨ z = "True" ∨ z = "False") : ∀ d, d ∈ [PyData.int (i + 1), .int (i - 1), .bool b0, .int 6, .str z, .int (5 - i)] → Bd (k + 1) 0 100 d := by
  obtain ⟨t1, t2⟩ := pow_t hk
  have ok : PyData.strOk z = true ∧ z.length ≤ 100 := by
    rcases hz with rfl | rfl | rfl
    · refine ⟨ok_of _, ?_⟩
      rw [PySem.ofString_length]
      have := int_text_length_le10 (k := k) (by omega) hi
      omega
    · exact ⟨ok_of _, by decide +kernel⟩
    · exact ⟨ok_of _, by decide +kernel⟩
  intro d hd
  simp only [List.mem_cons, List.not_mem_nil, or_false] at hd
  rcases hd with rfl | rfl | rfl | rfl | rfl | rfl
  · exact (bd_int (by omega)).mono (Nat.le_refl _) (Nat.le_refl _) (by omega)
  · exact (bd_int (by omega)).mono (Nat.le_refl _) (Nat.le_refl _) (by omega)
  · exact bd_bl.mono (Nat.le_refl _) (Nat.le_refl _) (by omega)
  · exact (bd_int (by omega)).mono (Nat.le_refl _) (Nat.le_refl _) (by omega)
  · exact (bd_str ok.1).mono (Nat.le_refl _) (Nat.le_refl _) ok.2
  · exact (bd_int (by omega)).mono (Nat.le_refl _) (Nat.le_refl _) (by omega)
theorem ix_at {n j : Nat} (h : j < n) : ixN n (j : Int) = some j := by
  unfold ixN
  rw [if_pos (by omega), if_pos (by omega)]
  simp
theorem ix_prev {n j : Nat} (h : j < n) : ∃ m, ixN n ((j : Int) - 1) = some m ∧ m < n := by
  by_cases z : j = 0
  · subst z
    exact ⟨n - 1, by unfold ixN; rw [if_neg (by omega), if_pos (by omega)]; exact congrArg some (by omega), by omega⟩
  · exact ⟨j - 1, by rw [show (j : Int) - 1 = ((j - 1 : Nat) : Int) by omega]; exact ix_at (by omega), by omega⟩
theorem weiA_set : ∀ {ds : List PyData} {i : Nat} {d x : PyData}, ds[i]? = some d → PyData.weightAll (ds.set i x) + d.weight = PyData.weightAll ds + x.weight
  | y :: ds, 0, d, x, h => by
    cases h
    simp only [List.set_cons_zero, PyData.weightAll]
    omega
  | y :: ds, i + 1, d, x, h => by
    have := weiA_set (ds := ds) (i := i) (d := d) (x := x) (by simpa using h)
    simp only [List.set_cons_succ, PyData.weightAll]
    omega
theorem weiA_erase : ∀ (ds : List PyData) (i : Nat), PyData.weightAll (ds.eraseIdx i) ≤ PyData.weightAll ds
  | [], _ => by simp
  | y :: ds, 0 => by
    simp only [List.eraseIdx_cons_zero, PyData.weightAll]
    omega
  | y :: ds, i + 1 => by
    have := weiA_erase ds i
    simp only [List.eraseIdx_cons_succ, PyData.weightAll]
    omega
theorem BdA.of {k n w : Nat} {ds : List PyData} (h : ∀ d, d ∈ ds → gd k d = true ∧ d.depth ≤ n) (l : PyData.weightAll ds ≤ w) : BdA k n w ds := ⟨gdA_all.mpr fun d hd => (h d hd).1, depA_of ds fun d hd => (h d hd).2, l⟩
theorem BdA.each {k n w : Nat} {ds : List PyData} (h : BdA k n w ds) {d : PyData} (hd : d ∈ ds) : gd k d = true ∧ d.depth ≤ n := ⟨gdA_all.mp h.g d hd, depA_mem hd h.dp⟩
theorem BdA.erase {k n w : Nat} {ds : List PyData} (h : BdA k n w ds) (i : Nat) : BdA k n w (ds.eraseIdx i) := .of (fun _ hd => h.each (List.mem_of_mem_eraseIdx hd)) (Nat.le_trans (weiA_erase ds i) h.wt)
theorem BdA.set {k n w v : Nat} {ds : List PyData} (h : BdA k n w ds) {i : Nat} {d x : PyData} (hd : ds[i]? = some d) (g : gd k x = true) (p : x.depth ≤ n) (l : PyData.weightAll ds + x.weight ≤ v + d.weight) : BdA k n v (ds.set i x) := .of (fun y hy => by
  rcases List.mem_or_eq_of_mem_set hy with hy | rfl
  · exact h.each hy
  · exact ⟨g, p⟩) (by have := weiA_set (x := x) hd; omega)
theorem weiA_ins (ds : List PyData) (i : Nat) (x : PyData) : PyData.weightAll (ds.take i ++ [x] ++ ds.drop i) = PyData.weightAll ds + x.weight + 1 := by
  have := weiA_app (ds.take i) (ds.drop i)
  rw [List.take_append_drop] at this
  rw [weiA_app, weiA_app, this]
  simp only [PyData.weightAll]
  omega
theorem BdA.ins {k n w v : Nat} {ds : List PyData} (h : BdA k n w ds) (i : Nat) {x : PyData} (g : gd k x = true) (p : x.depth ≤ n) (l : w + x.weight + 1 ≤ v) : BdA k n v (ds.take i ++ [x] ++ ds.drop i) := .of (fun y hy => by
  rcases List.mem_append.mp hy with hy | hy
  · rcases List.mem_append.mp hy with hy | hy
    · exact h.each (List.mem_of_mem_take hy)
    · rw [List.mem_singleton.mp hy]
      exact ⟨g, p⟩
  · exact h.each (List.mem_of_mem_drop hy)) (by rw [weiA_ins]; have := h.wt; omega)
theorem TgA.set {p : Addr → Prop} {H : Hp} {x : V} {d : PyData} (hx : Tg p H x d) : ∀ {ds : List PyData} {vs : List V}, TgA p H vs ds → ∀ i : Nat, TgA p H (vs.set i x) (ds.set i d)
  | [], _, h, i => by cases h; exact .nil
  | e :: ds, _, h, i => by
    cases h with
    | cons a b =>
      cases i with
      | zero => exact .cons hx b
      | succ i => exact .cons a (TgA.set hx b i)
theorem TgA.erase {p : Addr → Prop} {H : Hp} : ∀ {ds : List PyData} {vs : List V}, TgA p H vs ds → ∀ i : Nat, TgA p H (vs.eraseIdx i) (ds.eraseIdx i)
  | [], _, h, i => by cases h; exact .nil
  | e :: ds, _, h, i => by
    cases h with
    | cons a b =>
      cases i with
      | zero => exact b
      | succ i => exact .cons a (TgA.erase b i)
theorem TgA.ins {p : Addr → Prop} {H : Hp} {ds : List PyData} {vs : List V} (h : TgA p H vs ds) {x : V} {d : PyData} (hx : Tg p H x d) (i : Nat) : TgA p H (vs.take i ++ [x] ++ vs.drop i) (ds.take i ++ [d] ++ ds.drop i) := ((h.split i).1.app (.cons hx .nil)).app (h.split i).2
theorem at_menuV {Pr : V → Prop} {xs : List V} {r : Int} (h0 : 0 ≤ r) (h1 : r < xs.length) (hx : ∀ x, x ∈ xs → Pr x) : ∃ v, atI xs r = some v ∧ Pr v := by
  obtain ⟨j, rfl⟩ := Int.eq_ofNat_of_zero_le h0
  have hj : j < xs.length := by omega
  exact ⟨xs[j], atI_nat (List.getElem?_eq_getElem hj), hx _ (List.getElem_mem hj)⟩
theorem len_wei : ∀ ds : List PyData, ds.length ≤ PyData.weightAll ds
  | [] => Nat.zero_le _
  | x :: ds => by
    have := len_wei ds
    simp only [List.length_cons, PyData.weightAll]
    omega
theorem Bx.upd {H : Hp} {p l : Addr} {n : Nat} {o : HO} (B : Bx H p n) (h : l ≠ p) : Bx (upd H l o) p n := by
  obtain ⟨a, b, c, e, r⟩ := B
  exact ⟨a, b, c, (upd_ne h.symm).trans e, r⟩
def spr__law_otherwise (D : Nat) (_ : PySem.W.Frag) : Sp := fun vs H Q _ => ∃ (p : Addr) (n : Nat) (E : Addr → Prop) (v : V) (d : PyData) (k m w : Nat), vs = [.ref p, v] ∧ Bx H p n ∧ E p ∧ Sts E H ∧ Tg E H v d ∧ Bd k m w d ∧ d.depth < D ∧ 2 ≤ k ∧ k ≤ 20 ∧ m ≤ 30 ∧ w ≤ 100000 ∧ n + 8 * D ≤ 500000 ∧
  ∀ H' v' d', But p H H' → Bx H' p (n + 8 * D) → Tg E H' v' d' → Bd (k + 1) (m + 2) (2 * w + 300) d' → Q v' H'
theorem no__law_otherwise {K : PySem.W.Frag} {vs : List V} {H : Hp} {Q : VK} {E : XK} (h : spr__law_otherwise 0 K vs H Q E) : False := by
  obtain ⟨p, n, E, v, d, k, m, w, _, _, _, _, _, _, z, _⟩ := h
  omega
/-- the row that is spoilt -/
structure Row (p : Addr) (E : Addr → Prop) (H : Hp) (l : Addr) (B N W : Nat) (k : Nat) (G : Hp) (ys : List V) (es : List PyData) : Prop where
  but : But p H G
  box : Bx G p B
  at_ : G l = some (.lst ys)
  tg : TgA E G ys es
  bd : BdA k N W es
theorem okr__law_otherwise (T : Defs K mg) : ∀ d : Nat, FnOk P w K mg base CX0 (5 + d) T.f__law_otherwise T.fd__law_otherwise ["_law_box_here", "_law_thing"] (spr__law_otherwise d K)
  | 0 => ⟨fun _ _ _ _ z => (no__law_otherwise z).elim, fun _ _ _ _ _ _ _ _ _ _ _ _ _ z => (no__law_otherwise z).elim⟩
  | d + 1 => by
    have G__law_take : FnOk P w K mg base CX0 1 T.f__law_take T.fd__law_take ["_law_box_here", "_law_many"] (sp__law_take K) := ok__law_take T
    have G__law_odd : FnOk P w K mg base CX0 2 T.f__law_odd T.fd__law_odd ["_law_box_here"] (sp__law_odd K) := ok__law_odd T
    have G__law_otherwise : FnOk P w K mg base CX0 (5 + d) T.f__law_otherwise T.fd__law_otherwise ["_law_box_here", "_law_thing"] (spr__law_otherwise d K) := okr__law_otherwise T d
    show FnOk P w K mg base CX0 ((5 + d) + 1) T.f__law_otherwise T.fd__law_otherwise ["_law_box_here", "_law_thing"] (spr__law_otherwise (d + 1) K)
    refine T.F__law_otherwise.ok sc__law_otherwise (fun vs H Q E h => ?_) (fun cdv A outer s H vs Q E hr h => ?_)
    · obtain ⟨p, n, E, v, dd, k, m, wt, rfl, hB, hE, hS, hv, hbd, hd, k2, k20, m30, hw, hn, q⟩ := h
      rfl
    · obtain ⟨p, n, E, v, dd, k, m, wt, rfl, hB, hE, hS, hv, hbd, hd, k2, k20, m30, hw, hn, q⟩ := h
      refine ⟨_, PSs.nox (pss_cons (ps_par (i := 2) (j := 3) (by rfl) sc__law_otherwise.nd rfl rfl (by decide) rfl rfl (pa_cons (pe_call G__law_take (hr.mono (by omega)) (by rfl) T.g__law_take T.F__law_take.kp T.b__law_take .nil pass0 (pa_cons (pv 0) (pa_cons pe_int pa_nil))) (pa_cons (pe_call G__law_odd (hr.mono (by omega)) (by rfl) T.g__law_odd T.F__law_odd.kp T.b__law_odd .nil pass0 (pa_cons (pv 0) pa_nil)) pa_nil)) (by rfl))
    (pss_cons (ps_if (pt_cmpR op_eq (pv 2) pe_int (nomark _)) (pss_one (ps_ret (pv 3))) pss_nil)
    (pss_cons (ps_if (pt_val (pe_callB call_isi (by rfl) T.m_isinstance bt_isinstance (pa_cons (pv 1) (pa_cons (pe_bltn (v := .ty "str") (by rfl) T.m_str bt_str rfl) pa_nil)))) (pss_cons (ps_par (i := 4) (j := 5) (by rfl) sc__law_otherwise.nd rfl rfl (by decide) rfl rfl (pa_cons (pe_call G__law_take (hr.mono (by omega)) (by rfl) T.g__law_take T.F__law_take.kp T.b__law_take .nil pass0 (pa_cons (pv 0) (pa_cons (pe_op op_add (pe_callB call_lenX (by rfl) T.m_len bt_len (pa_cons (pv 1) pa_nil)) pe_int) pa_nil))) (pa_cons (pe_op op_mulS (pe_ix ix_str pe_str (pe_call G__law_take (hr.mono (by omega)) (by rfl) T.g__law_take T.F__law_take.kp T.b__law_take .nil pass0 (pa_cons (pv 0) (pa_cons pe_int pa_nil))) (fun _ _ => rfl)) (pe_callTy call_int1 (by rfl) T.m_int bt_int (pa_cons (pe_cmpR op_gt (pe_op op_mod (pv 2) pe_int) pe_int (nomark _)) pa_nil))) pa_nil)) (by rfl))
    (pss_cons (ps_set (i := 6) sc__law_otherwise.nd rfl (.inl rfl) (pe_ix ix_list (pe_lst (pa_cons pe_str (pa_cons pe_str (pa_cons pe_str (pa_cons pe_str (pa_cons pe_str (pa_cons pe_str pa_nil))))))) (pe_call G__law_take (hr.mono (by omega)) (by rfl) T.g__law_take T.F__law_take.kp T.b__law_take .nil pass0 (pa_cons (pv 0) (pa_cons pe_int pa_nil))) (fun _ _ => rfl)))
    (pss_one (ps_ret (pe_ifExp (pt_cmpR op_gt (pv 2) pe_int (nomark _)) (pv 6) (pe_op op_addS (pe_op op_addS (pe_slice sl_str (pv 1) po_none (po_some (pv 4))) (pv 5)) (pe_slice sl_str (pv 1) (po_some (pe_op op_add (pv 4) (pe_callTy call_int1 (by rfl) T.m_int bt_int (pa_cons (pe_cmpR op_lt (pe_op op_mod (pv 2) pe_int) pe_int (nomark _)) pa_nil)))) po_none))))))) pss_nil)
    (pss_cons (ps_if (pt_val (pe_callB call_isi (by rfl) T.m_isinstance bt_isinstance (pa_cons (pv 1) (pa_cons (pe_bltn (v := .ty "int") (by rfl) T.m_int bt_int rfl) pa_nil)))) (pss_one (ps_ret (pe_ix ix_list (pe_lst (pa_cons (pe_op op_addN1 (pv 1) pe_int) (pa_cons (pe_op op_subN1 (pv 1) pe_int) (pa_cons (pe_cmpR (op_eqD hr.units) (pv 1) pe_int (nomark _)) (pa_cons pe_int (pa_cons ((pe_callTy call_strN (by rfl) T.m_str bt_str (pa_cons (pv 1) pa_nil))) (pa_cons (pe_op op_subN2 pe_int (pv 1)) pa_nil))))))) (pe_op op_mod (pv 2) pe_int) (fun _ _ => rfl)))) pss_nil)
    (pss_cons (ps_if (PW.pt (pw_or (pt_not (pt_val (pe_callB call_isiT (by rfl) T.m_isinstance bt_isinstance (pa_cons (pv 1) (pa_cons (pe_tup (pa_cons (pe_bltn (v := .ty "tuple") (by rfl) T.m_tuple bt_tuple rfl) (pa_cons (pe_bltn (v := .ty "list") (by rfl) T.m_list bt_list rfl) pa_nil))) pa_nil))))) (pw_or1 (pt_cmpR op_eq (pe_callB call_lenX (by rfl) T.m_len bt_len (pa_cons (pv 1) pa_nil)) pe_int (nomark _))))) (pss_one (ps_ret (pv 3))) pss_nil)
    (pss_cons (ps_par (i := 4) (j := 7) (by rfl) sc__law_otherwise.nd rfl rfl (by decide) rfl rfl (pa_cons (pe_call G__law_take (hr.mono (by omega)) (by rfl) T.g__law_take T.F__law_take.kp T.b__law_take .nil pass0 (pa_cons (pv 0) (pa_cons (pe_callB call_lenX (by rfl) T.m_len bt_len (pa_cons (pv 1) pa_nil)) pa_nil))) (pa_cons (pe_callTy call_list_of (by rfl) T.m_list bt_list (pa_cons (pv 1) pa_nil)) pa_nil)) (by rfl))
    (pss_cons (ps_if (pt_cmpR op_eq (pv 2) pe_int (nomark _)) (pss_one (ps_ret (pe_ifExp (pt_val (pe_callB call_isi (by rfl) T.m_isinstance bt_isinstance (pa_cons (pv 1) (pa_cons (pe_bltn (v := .ty "tuple") (by rfl) T.m_tuple bt_tuple rfl) pa_nil)))) (pv 7) (pe_callTy call_tuple_of (by rfl) T.m_tuple bt_tuple (pa_cons (pv 7) pa_nil))))) pss_nil)
    (pss_cons (ps_if (pt_cmpR op_eq (pv 2) pe_int (nomark _)) (pss_one (ps_expr (pe_bm PySem.F.plainAttrs_list PySem.F.slot_list_pop PySem.F.type_list_pop mt_popAt (pv 7) (pa_cons (pv 4) pa_nil)))) (pss_one (ps_if (pt_cmpR op_eq (pv 2) pe_int (nomark _)) (pss_one (ps_expr (pe_bm PySem.F.plainAttrs_list PySem.F.slot_list_insert PySem.F.type_list_insert mt_insert (pv 7) (pa_cons (pv 4) (pa_cons (pe_ix ix_list (pv 7) (pv 4) (fun _ _ => rfl)) pa_nil))))) (pss_one (ps_if (pt_cmpR op_eq (pv 2) pe_int (nomark _)) (pss_one (ps_expr (pe_bm PySem.F.plainAttrs_list PySem.F.slot_list_insert PySem.F.type_list_insert mt_insert (pv 7) (pa_cons (pv 4) (pa_cons (pv 3) pa_nil))))) (pss_one (ps_if (pt_cmpR op_eq (pv 2) pe_int (nomark _)) (pss_one (ps_asg (pe_tup (pa_cons (pe_ix ix_list (pv 7) (pe_op op_sub (pv 4) pe_int) (fun _ _ => rfl)) (pa_cons (pe_ix ix_list (pv 7) (pv 4) (fun _ _ => rfl)) pa_nil))) (pg_tup rfl (pgs_cons (pg_sub (pv 7) (pv 4) set_list) (pgs_cons (pg_sub (pv 7) (pe_op op_sub (pv 4) pe_int) set_list) pgs_nil))))) (pss_one (ps_asg (pe_call G__law_otherwise (hr.mono (by omega)) (by rfl) T.g__law_otherwise T.F__law_otherwise.kp T.b__law_otherwise .nil pass0 (pa_cons (pv 0) (pa_cons (pe_ix ix_list (pv 7) (pv 4) (fun _ _ => rfl)) pa_nil))) (pg_sub (pv 7) (pv 4) set_list))))))))))
    (pss_one (ps_ret (pe_ifExp (pt_val (pe_callB call_isi (by rfl) T.m_isinstance bt_isinstance (pa_cons (pv 1) (pa_cons (pe_bltn (v := .ty "tuple") (by rfl) T.m_tuple bt_tuple rfl) pa_nil)))) (pe_callTy call_tuple_of (by rfl) T.m_tuple bt_tuple (pa_cons (pv 7) pa_nil)) (pv 7)))))))))))), ?_⟩
      have hsl : sizeLine = 16777216 := by decide
      refine ⟨.ref p, rfl, p, 14, n, rfl, hB, by decide, by decide, by omega, fun H1 way b1 B1 l1 u1 => ?_⟩
      have S1 := hS.but b1 B1
      refine ⟨.ref p, rfl, p, n + 1, E, rfl, B1, hE, S1, by omega, fun H2 od dod b2 B2 tod bod => ⟨_, _, rfl, ?_⟩⟩
      have b12 := b1.trans b2
      have S2 := S1.but b2 B2
      have hv2 := hv.bt hE b12
      have podd : ∀ G, Same H2 G → Q od G := fun G s => q G od dod (b12.trans (same_but s)) ((B2.same s).mono (by omega)) (tod.same s) (bod.mono (by omega) (by omega) (by omega))
      refine ⟨.int way, rfl, rfl, _, rfl, ite2 (fun _ => ⟨od, rfl, podd _ (Same.refl _)⟩) (fun _ => ?_)⟩
      obtain ⟨t0, ty, ki, -, kt, ks, -⟩ := hv2.ty (K := K)
      refine ⟨v, rfl, _, _, _, _, _, rfl, .ty "str", ty, ks, _, rfl, ?_⟩
      cases hv2 with
      | str z =>
        obtain ⟨zo, zl⟩ := bd_len hbd
        refine iteT ⟨.ref p, rfl, .str z, rfl, .inl ⟨z, rfl, by omega, _, _, rfl, rfl, p, _, _, rfl, B2, by omega, by omega, by omega, fun H3 at_ b3 B3 l3 u3 => ?_⟩⟩
        refine ⟨.ref p, rfl, p, 5, _, rfl, B3, by decide, by decide, by omega, fun H4 r4 b4 B4 l4 u4 => ?_⟩
        have lb : ("iloB " : Str).cps.toList.length = 5 := by decide +kernel
        obtain ⟨j4, rfl⟩ := nat_of l4
        have j4l : j4 < ("iloB " : Str).cps.toList.length := by omega
        have oc : PyData.strOk ⟨#[("iloB " : Str).cps.toList[j4]]⟩ = true := ok_iff.mpr fun c hc => by
          have e : c = ("iloB " : Str).cps.toList[j4] := by simpa using hc
          rw [e]
          exact ok_iff.mp (ok_of "iloB ") _ (List.getElem_mem j4l)
        refine ⟨"iloB ", (j4 : Nat), ("iloB " : Str).cps.toList[j4], rfl, rfl, (by decide +kernel), atI_nat (List.getElem?_eq_getElem j4l), ?_⟩
        refine ⟨.int way, rfl, _, _, rfl, rfl, (show (0 : Int) < 3 by decide), _, _, rfl, rfl, .inr ⟨_, rfl, _, _, rfl, rfl, (by split <;> simp), fun sg hsg => ?_⟩⟩
        have osg : PyData.strOk sg = true ∧ sg.length ≤ 1 := by
          rcases hsg with rfl | rfl
          · exact ⟨by decide +kernel, by decide +kernel⟩
          · exact ⟨oc, Nat.le_refl _⟩
        refine ⟨_, _, rfl, ?_⟩
        refine ⟨(show 6 ≤ sizeLine by decide), fun lo no => ?_⟩
        have s5 := same_upd no (o := .lst [.str "less", .str "both", .str "either", .str "oneof", .str "pick", .str "in"])
        have hlo := upd_same (H := H4) (a := lo) (o := .lst [.str "less", .str "both", .str "either", .str "oneof", .str "pick", .str "in"])
        have B5 := B4.same s5
        generalize upd H4 lo (.lst [.str "less", .str "both", .str "either", .str "oneof", .str "pick", .str "in"]) = H5 at s5 hlo B5 ⊢
        refine ⟨.ref p, rfl, p, 6, _, rfl, B5, by decide, by decide, by omega, fun H6 r6 b6 B6 l6 u6 => ?_⟩
        have nlo : lo ≠ p := fun e => by
          obtain ⟨a, b, c, hp, _⟩ := B4
          rw [e, hp] at no
          cases no
        obtain ⟨wv, hw1, ww, rfl, hw2, hw3⟩ := at_menuV (Pr := fun v => ∃ z : Str, v = .str z ∧ PyData.strOk z = true ∧ z.length ≤ 6) (xs := [.str "less", .str "both", .str "either", .str "oneof", .str "pick", .str "in"]) l6 u6 (fun x hx => by
          simp only [List.mem_cons, List.not_mem_nil, or_false] at hx
          rcases hx with rfl | rfl | rfl | rfl | rfl | rfl <;> exact ⟨_, rfl, by decide +kernel, by decide +kernel⟩)
        refine ⟨lo, _, r6, _, rfl, rfl, SqL.mk (b6 _ _ nlo hlo), hw1, ?_⟩
        have b16 : But p H H6 := ((b12.trans (b3.trans b4)).trans (same_but s5)).trans b6
        refine ⟨.int way, rfl, _, _, rfl, rfl, _, rfl, ite2 (fun _ => ⟨.str ww, rfl, ?_⟩) (fun _ => ?_)⟩
        · exact q H6 _ _ b16 (B6.mono (by omega)) (.str ww) ((bd_str (k := k) hw2).mono (by omega) (by omega) (by omega))
        have c1 := cutS_length z none (some at_)
        refine ⟨.str z, rfl, .int at_, rfl, at_, rfl, z, rfl, by omega, ?_⟩
        refine ⟨.str sg, rfl, _, _, rfl, rfl, by have := osg.2; omega, ?_⟩
        refine ⟨.str z, rfl, ?_⟩
        refine ⟨.int at_, rfl, .int way, rfl, _, _, rfl, rfl, (show (0 : Int) < 3 by decide), _, _, rfl, rfl, .inr ⟨_, rfl, _, _, rfl, rfl, _, rfl, z, rfl, by omega, ?_⟩⟩
        generalize (at_ + if decide (way % 3 < 2) = true then (1 : Int) else 0) = hi2
        have c2 := cutS_length z (some hi2) none
        have ln : (cutS z none (some at_) ++ sg).length = (cutS z none (some at_)).length + sg.length := strLen_append _ _
        have ln2 : ((cutS z none (some at_) ++ sg) ++ cutS z (some hi2) none).length = (cutS z none (some at_) ++ sg).length + (cutS z (some hi2) none).length := strLen_append _ _
        refine ⟨_, _, rfl, rfl, by omega, ?_⟩
        exact q H6 _ _ b16 (B6.mono (by omega)) (.str _) ((bd_str (k := k) (ok_app (ok_app (ok_cut _ _ zo) osg.1) (ok_cut _ _ zo))).mono (by omega) (by omega) (by omega))
      | int i =>
        refine iteF ⟨.int i, rfl, _, _, _, _, _, rfl, .ty "int", ty, ki, _, rfl, ?_⟩
        have hnum : numV (.int i) i := .inl rfl
        have hnb : i.natAbs < 10 ^ k := by
          have := hbd.g
          simp only [gd, decide_eq_true_eq] at this
          exact this
        have six : ∀ (b0 : Bool) (zt : Str), (zt = Str.ofString (toString i) ∨ zt = "True" ∨ zt = "False") → ∀ l, H2 l = none → ∃ v', atI [V.int (i + 1), .int (i - 1), .bl b0, .int 6, .str zt, .int (5 - i)] (way % 6) = some v' ∧ Q v' (upd H2 l (.lst [V.int (i + 1), .int (i - 1), .bl b0, .int 6, .str zt, .int (5 - i)])) := fun b0 zt hzt l nl => by
          obtain ⟨j, hj⟩ := nat_of (show 0 ≤ way % 6 by omega)
          have jl : j < 6 := by omega
          have sl := same_upd nl (o := .lst [V.int (i + 1), .int (i - 1), .bl b0, .int 6, .str zt, .int (5 - i)])
          have ts : TgA E (upd H2 l (.lst [V.int (i + 1), .int (i - 1), .bl b0, .int 6, .str zt, .int (5 - i)])) [V.int (i + 1), .int (i - 1), .bl b0, .int 6, .str zt, .int (5 - i)] [.int (i + 1), .int (i - 1), .bool b0, .int 6, .str zt, .int (5 - i)] := .cons (.int _) (.cons (.int _) (.cons (.bl _) (.cons (.int _) (.cons (.str _) (.cons (.int _) .nil)))))
          have jl2 : j < [V.int (i + 1), .int (i - 1), .bl b0, .int 6, .str zt, .int (5 - i)].length := jl
          obtain ⟨d', hd1, hd2⟩ := ts.get (List.getElem?_eq_getElem jl2)
          refine ⟨_, by rw [hj]; exact atI_nat (List.getElem?_eq_getElem jl2), q _ _ d' (b12.trans (same_but sl)) ((B2.same sl).mono (by omega)) hd2 ((num_bd k2 k20 hnb hzt d' (List.mem_of_getElem? hd1)).mono (Nat.le_refl _) (by omega) (by omega))⟩
        refine iteT ⟨.int i, rfl, i, 1, hnum, rfl, .int i, rfl, i, 1, hnum, rfl, .int i, rfl, .int i, .int 1, .int i, .int 1, hbd.shaped (by omega), rfl, .int i, rfl, _, i, rfl, hnum, log_sm (k := k) (by omega) hnb, fun zt hzt => ?_⟩
        refine ⟨.int i, rfl, 5, i, rfl, hnum, (show 6 ≤ sizeLine by decide), fun l nl => ?_⟩
        obtain ⟨v', h1, h2⟩ := six _ zt hzt l nl
        exact ⟨.int way, rfl, _, _, rfl, rfl, (show (0 : Int) < 6 by decide), l, _, _, v', rfl, rfl, SqL.mk upd_same, h1, h2⟩
      | bl b => 
        refine iteF ⟨.bl b, rfl, _, _, _, _, _, rfl, .ty "int", ty, ki, _, rfl, ?_⟩
        obtain ⟨i, hi⟩ : ∃ i : Int, i = if b = true then 1 else 0 := ⟨_, rfl⟩
        have hnum : numV (.bl b) i := .inr ⟨b, rfl, hi⟩
        have hnb : i.natAbs < 10 ^ k := by
          have := (pow_t k2).1
          have : i = 0 ∨ i = 1 := by
            rw [hi]
            cases b <;> simp
          omega
        have six : ∀ (b0 : Bool) (zt : Str), (zt = Str.ofString (toString i) ∨ zt = "True" ∨ zt = "False") → ∀ l, H2 l = none → ∃ v', atI [V.int (i + 1), .int (i - 1), .bl b0, .int 6, .str zt, .int (5 - i)] (way % 6) = some v' ∧ Q v' (upd H2 l (.lst [V.int (i + 1), .int (i - 1), .bl b0, .int 6, .str zt, .int (5 - i)])) := fun b0 zt hzt l nl => by
          obtain ⟨j, hj⟩ := nat_of (show 0 ≤ way % 6 by omega)
          have jl : j < 6 := by omega
          have sl := same_upd nl (o := .lst [V.int (i + 1), .int (i - 1), .bl b0, .int 6, .str zt, .int (5 - i)])
          have ts : TgA E (upd H2 l (.lst [V.int (i + 1), .int (i - 1), .bl b0, .int 6, .str zt, .int (5 - i)])) [V.int (i + 1), .int (i - 1), .bl b0, .int 6, .str zt, .int (5 - i)] [.int (i + 1), .int (i - 1), .bool b0, .int 6, .str zt, .int (5 - i)] := .cons (.int _) (.cons (.int _) (.cons (.bl _) (.cons (.int _) (.cons (.str _) (.cons (.int _) .nil)))))
          have jl2 : j < [V.int (i + 1), .int (i - 1), .bl b0, .int 6, .str zt, .int (5 - i)].length := jl
          obtain ⟨d', hd1, hd2⟩ := ts.get (List.getElem?_eq_getElem jl2)
          refine ⟨_, by rw [hj]; exact atI_nat (List.getElem?_eq_getElem jl2), q _ _ d' (b12.trans (same_but sl)) ((B2.same sl).mono (by omega)) hd2 ((num_bd k2 k20 hnb hzt d' (List.mem_of_getElem? hd1)).mono (Nat.le_refl _) (by omega) (by omega))⟩
        refine iteT ⟨.bl b, rfl, i, 1, hnum, rfl, .bl b, rfl, i, 1, hnum, rfl, .bl b, rfl, .bool b, .int 1, .bl b, .int 1, hbd.shaped (by omega), rfl, .bl b, rfl, _, i, rfl, hnum, log_sm (k := k) (by omega) hnb, fun zt hzt => ?_⟩
        refine ⟨.bl b, rfl, 5, i, rfl, hnum, (show 6 ≤ sizeLine by decide), fun l nl => ?_⟩
        obtain ⟨v', h1, h2⟩ := six _ zt hzt l nl
        exact ⟨.int way, rfl, _, _, rfl, rfl, (show (0 : Int) < 6 by decide), l, _, _, v', rfl, rfl, SqL.mk upd_same, h1, h2⟩
      | non =>
        refine iteF ⟨.non, rfl, _, _, _, _, _, rfl, .ty "int", ty, ki, _, rfl, ?_⟩
        refine iteF ⟨.non, rfl, (show 2 ≤ sizeLine by decide), fun tt nt => ?_⟩
        have s3 := same_upd nt (o := .tup [.ty "tuple", .ty "list"])
        obtain ⟨t3, ty3, -, -, -, -, ka⟩ := (Tg.non (p := E) (H := upd H2 tt (.tup [.ty "tuple", .ty "list"]))).ty (K := K)
        refine ⟨.non, tt, _, t3, _, _, rfl, upd_same, .cons (.ty "tuple") (.cons (.ty "list") .nil), ty3, ka, _, rfl, ?_⟩
        exact iteT ⟨od, rfl, podd _ s3⟩
      | lst ne ha ts =>
        rename_i a xs ds
        have np : a ≠ p := fun z => ne (z ▸ hE)
        refine iteF ⟨.ref a, rfl, _, _, _, _, _, rfl, .ty "int", ty, ki, _, rfl, ?_⟩
        refine iteF ⟨.ref a, rfl, (show 2 ≤ sizeLine by decide), fun tt nt => ?_⟩
        have s3 := same_upd nt (o := .tup [.ty "tuple", .ty "list"])
        have htt := upd_same (H := H2) (a := tt) (o := .tup [.ty "tuple", .ty "list"])
        have ha3 := s3 _ _ ha
        have ts3 := ts.same s3
        have S3 := S2.same s3
        have B3 := B2.same s3
        have podd3 := podd _ s3
        have tod3 := tod.same s3
        generalize upd H2 tt (.tup [.ty "tuple", .ty "list"]) = H3 at s3 htt ha3 ts3 S3 B3 podd3 tod3 ⊢
        obtain ⟨t3, ty3, -, -, -, -, ka⟩ := (Tg.lst ne ha3 ts3).ty (K := K)
        refine ⟨.ref a, tt, _, t3, _, _, rfl, htt, .cons (.ty "tuple") (.cons (.ty "list") .nil), ty3, ka, _, rfl, ?_⟩
        have lx := ts3.len
        have lw := len_wei ds
        have bI := hbd.itemsL.2
        have m1 := hbd.itemsL.1
        have lwt := bI.wt
        refine iteF ⟨.ref a, rfl, .inr ⟨a, xs, rfl, (.inl <| SqL.mk ha3), rfl, _, rfl, ?_⟩⟩
        refine ite2 (fun _ => ⟨od, rfl, podd3⟩) (fun e0 => ?_)
        have l0 : 0 < xs.length := Nat.pos_of_ne_zero fun z => e0 (by rw [z]; rfl)
        refine ⟨.ref p, rfl, .ref a, rfl, .inr ⟨a, xs, rfl, (.inl <| SqL.mk ha3), p, _, _, rfl, B3, by omega, by omega, by omega, fun H4 at_ b4 B4 l4 u4 => ?_⟩⟩
        have ha4 := b4 a _ np ha3
        have ts4 := ts3.bt hE b4
        have S4 := S3.but b4 B4
        have tod4 := tod3.bt hE b4
        have b24 : But p H H4 := (b12.trans (same_but s3)).trans b4
        refine ⟨.ref a, rfl, a, xs, rfl, (.inl <| SqL.mk ha4), fun l nl => ⟨_, _, rfl, ?_⟩⟩
        have nlp : l ≠ p := fun e => B4.some (e ▸ nl)
        have nEl := S4.not nl
        have s5 := same_upd nl (o := .lst xs)
        have hl5 := upd_same (H := H4) (a := l) (o := .lst xs)
        have B5 := B4.same s5
        obtain ⟨j, rfl⟩ := nat_of l4
        have jl : j < xs.length := by omega
        have hx : xs[j]? = some xs[j] := List.getElem?_eq_getElem jl
        obtain ⟨dx, hdx, tgx⟩ := ts4.get hx
        have ex := bI.each (List.mem_of_getElem? hdx)
        have wx := weiA_mem (List.mem_of_getElem? hdx)
        have b45 := same_but s5 (p := p)
        have put : ∀ (G : Hp) (o : HO), But p H4 G → But p H4 (upd G l o) := fun G o b c x hc e => (upd_ne (ne_of_none e nl)).trans (b c x hc e)
        generalize hH5 : upd H4 l (.lst xs) = H5 at s5 hl5 B5 b45 ⊢
        obtain ⟨t5, ty5, -, -, kt5, -, -⟩ := (Tg.lst (p := E) ne (s5 _ _ ha4) (ts4.same s5)).ty (K := K)
        refine ⟨.int way, rfl, rfl, _, rfl, ite2 (fun _ => ?_) (fun _ => ?_)⟩
        · refine ⟨.ref a, rfl, _, _, _, _, _, rfl, .ty "tuple", ty5, kt5, _, rfl, ?_⟩
          exact iteF ⟨.ref l, rfl, l, _, rfl, .inl ⟨SqL.mk hl5, fun t nt => q (upd H5 t (.tup xs)) (.ref t) (.tuple ds) (b24.trans (b45.trans (same_but (same_upd nt)))) ((B5.same (same_upd nt)).mono (by omega)) (.tup ((S4.same s5).not nt) upd_same ((ts4.same s5).same (same_upd nt))) ((bI.mono (show k ≤ k + 1 by omega) (show m - 1 ≤ m + 1 by omega) (show wt ≤ 2 * wt + 300 by omega)).tup)⟩⟩
        refine nx_via (fun σ G => ∃ (y5 y6 : Option V) (ys : List V) (es : List PyData), σ = [some (.ref p), some (.ref a), some (.int way), some od, some (.int (j : Nat)), y5, y6, some (.ref l)] ∧ But p H4 G ∧ Bx G p (n + 8 * (d + 1)) ∧ G l = some (.lst ys) ∧ TgA E G ys es ∧ BdA (k + 1) (m + 1) (2 * wt + 300) es) (fun N key => ?_) ?_
        · refine ⟨.int way, rfl, rfl, _, rfl, ite2 (fun _ => ?_) (fun _ => ?_)⟩
          · refine ⟨.ref l, rfl, .inl ⟨rfl, _, SqL.mk hl5⟩, .int (j : Nat), rfl, l, xs, (j : Nat), j, xs[j], rfl, rfl, hl5, by omega, by omega, (ixN_seq (ix_at jl)).1, hx, ?_⟩
            refine key _ _ ⟨_, _, _, ds.eraseIdx j, rfl, put H5 _ b45, (B5.upd nlp).mono (by omega), upd_same, (ts4.bt hE (put H5 _ b45)).erase j, (bI.erase j).mono (by omega) (by omega) (by omega)⟩
          refine ⟨.int way, rfl, rfl, _, rfl, ite2 (fun _ => ?_) (fun _ => ?_)⟩
          · refine ⟨.ref l, rfl, .inl ⟨rfl, _, SqL.mk hl5⟩, .int (j : Nat), rfl, .ref l, rfl, .int (j : Nat), rfl, l, xs, (j : Nat), xs[j], rfl, rfl, SqL.mk hl5, atI_nat hx, l, xs, (j : Nat), xs[j], rfl, rfl, hl5, by omega, by omega, by omega, ?_⟩
            refine key _ _ ⟨_, _, _, ds.take j ++ [dx] ++ ds.drop j, rfl, put H5 _ b45, (B5.upd nlp).mono (by omega), upd_same, (ts4.bt hE (put H5 _ b45)).ins (tgx.bt hE (put H5 _ b45)) j, (bI.ins j ex.1 ex.2 (v := 2 * wt + 300) (by omega)).mono (by omega) (by omega) (Nat.le_refl _)⟩
          refine ⟨.int way, rfl, rfl, _, rfl, ite2 (fun _ => ?_) (fun _ => ?_)⟩
          · refine ⟨.ref l, rfl, .inl ⟨rfl, _, SqL.mk hl5⟩, .int (j : Nat), rfl, od, rfl, l, xs, (j : Nat), od, rfl, rfl, hl5, by omega, by omega, by omega, ?_⟩
            have wo := bod.wt
            have go := bod.dp
            refine key _ _ ⟨_, _, _, ds.take j ++ [dod] ++ ds.drop j, rfl, put H5 _ b45, (B5.upd nlp).mono (by omega), upd_same, (ts4.bt hE (put H5 _ b45)).ins (tod4.bt hE (put H5 _ b45)) j, (bI.mono (Nat.le_refl _) (show m - 1 ≤ m + 1 by omega) (Nat.le_refl _)).ins j (gd_mono k2 _ bod.g) (by omega) (v := 2 * wt + 300) (by omega) |>.mono (by omega) (by omega) (Nat.le_refl _)⟩
          refine ⟨.int way, rfl, rfl, _, rfl, ite2 (fun _ => ?_) (fun _ => ?_)⟩
          · obtain ⟨m2, hm2, m2l⟩ := ix_prev jl
            have hy : xs[m2]? = some xs[m2] := List.getElem?_eq_getElem m2l
            obtain ⟨dy, hdy, tgy⟩ := ts4.get hy
            have ey := bI.each (List.mem_of_getElem? hdy)
            have a2 : atI xs ((j : Int) - 1) = some xs[m2] := by
              unfold atI
              rw [hm2]
              exact hy
            refine ⟨.ref l, rfl, .int (j : Nat), rfl, _, _, rfl, rfl, l, xs, _, _, rfl, rfl, SqL.mk hl5, a2, .ref l, rfl, .int (j : Nat), rfl, l, xs, _, _, rfl, rfl, SqL.mk hl5, atI_nat hx, (show 2 ≤ sizeLine by decide), fun tp ntp => ?_⟩
            have s6 := same_upd ntp (o := .tup [xs[m2], xs[j]])
            have htp := upd_same (H := H5) (a := tp) (o := .tup [xs[m2], xs[j]])
            have hl6 := s6 _ _ hl5
            have B6 := B5.same s6
            have b46 := b45.trans (same_but s6)
            generalize upd H5 tp (.tup [xs[m2], xs[j]]) = H6 at s6 htp hl6 B6 b46 ⊢
            have l2 : (xs.set j xs[m2]).length = xs.length := List.length_set
            refine ⟨tp, _, rfl, SqT.mk htp, rfl, _, _, rfl, .ref l, rfl, .int (j : Nat), rfl, l, xs, _, j, rfl, rfl, hl6, ix_at jl, _, _, rfl, .ref l, rfl, .int (j : Nat), rfl, _, _, rfl, rfl, l, _, _, m2, rfl, rfl, upd_same, by rw [l2]; exact hm2, rfl, ?_⟩
            have bb := put _ (.lst ((xs.set j xs[m2]).set m2 xs[j])) (put _ (.lst (xs.set j xs[m2])) b46)
            have e2 : (ds.set j dy)[m2]? = some dy := by
              by_cases z : j = m2
              · subst z
                rw [List.getElem?_set_self (by omega)]
              · rw [List.getElem?_set_ne z]
                exact hdy
            have q1 := bI.set hdx ey.1 ey.2 (v := wt + dy.weight) (by omega)
            have q2 := q1.wt
            refine key _ _ ⟨_, _, _, (ds.set j dy).set m2 dx, rfl, bb, ((B6.upd nlp).upd nlp).mono (by omega), upd_same, ((ts4.bt hE bb).set (tgy.bt hE bb) j).set (tgx.bt hE bb) m2, (q1.set e2 ex.1 ex.2 (v := 2 * wt + 300) (by omega)).mono (by omega) (by omega) (Nat.le_refl _)⟩
          · have S5' : Sts (fun q => q = l ∨ E q) H5 := fun q hq => by
              rcases hq with rfl | hq
              · rw [hl5]
                exact fun z => by cases z
              · exact (S4.same s5) q hq
            have tg5 : Tg (fun q => q = l ∨ E q) H5 xs[j] dx := tgx.to fun c o nc e => ⟨s5 c o e, fun h => h.elim (fun z => ne_of_none e nl z) nc⟩
            have dlt : dx.depth < d := by
              have := depA_mem (List.mem_of_getElem? hdx) (Nat.le_refl _)
              simp only [PyData.depth] at hd
              omega
            refine ⟨.ref p, rfl, .ref l, rfl, .int (j : Nat), rfl, l, xs, _, _, rfl, rfl, SqL.mk hl5, atI_nat hx, p, _, _, _, dx, k, m - 1, dx.weight, rfl, B5, .inr hE, S5', tg5, ⟨ex.1, ex.2, Nat.le_refl _⟩, dlt, k2, k20, by omega, by omega, by omega, fun G v' d' bG BG tG bdG => ?_⟩
            refine ⟨.ref l, rfl, .int (j : Nat), rfl, l, xs, _, j, rfl, rfl, bG _ _ nlp hl5, ix_at jl, ?_⟩
            have bb := put _ (.lst (xs.set j v')) (b45.trans bG)
            have tv : Tg E (upd G l (.lst (xs.set j v'))) v' d' := tG.to fun c o nc e => ⟨(upd_ne (fun z => nc (.inl z))).trans e, fun h => nc (.inr h)⟩
            have wv := bdG.wt
            have dv := bdG.dp
            refine key _ _ ⟨_, _, _, ds.set j d', rfl, bb, (BG.upd nlp).mono (by omega), upd_same, (ts4.bt hE bb).set tv j, (bI.mono (show k ≤ k + 1 by omega) (show m - 1 ≤ m + 1 by omega) (Nat.le_refl _)).set hdx bdG.g (by omega) (by omega)⟩
        · rintro σ G ⟨y5, y6, ys, es, rfl, bG, BG, hlG, tG, bdG⟩
          obtain ⟨t6, ty6, -, -, kt6, -, -⟩ := (Tg.lst (p := E) ne (bG _ _ np ha4) (ts4.bt hE bG)).ty (K := K)
          refine ⟨.ref a, rfl, _, _, _, _, _, rfl, .ty "tuple", ty6, kt6, _, rfl, ?_⟩
          exact iteF ⟨.ref l, rfl, q G (.ref l) (.list es) (b24.trans bG) BG (.lst nEl hlG tG) bdG.lst⟩
      | tup ne ha ts =>
        rename_i a xs ds
        have np : a ≠ p := fun z => ne (z ▸ hE)
        refine iteF ⟨.ref a, rfl, _, _, _, _, _, rfl, .ty "int", ty, ki, _, rfl, ?_⟩
        refine iteF ⟨.ref a, rfl, (show 2 ≤ sizeLine by decide), fun tt nt => ?_⟩
        have s3 := same_upd nt (o := .tup [.ty "tuple", .ty "list"])
        have htt := upd_same (H := H2) (a := tt) (o := .tup [.ty "tuple", .ty "list"])
        have ha3 := s3 _ _ ha
        have ts3 := ts.same s3
        have S3 := S2.same s3
        have B3 := B2.same s3
        have podd3 := podd _ s3
        have tod3 := tod.same s3
        generalize upd H2 tt (.tup [.ty "tuple", .ty "list"]) = H3 at s3 htt ha3 ts3 S3 B3 podd3 tod3 ⊢
        obtain ⟨t3, ty3, -, -, -, -, ka⟩ := (Tg.tup ne ha3 ts3).ty (K := K)
        refine ⟨.ref a, tt, _, t3, _, _, rfl, htt, .cons (.ty "tuple") (.cons (.ty "list") .nil), ty3, ka, _, rfl, ?_⟩
        have lx := ts3.len
        have lw := len_wei ds
        have bI := hbd.itemsT.2
        have m1 := hbd.itemsT.1
        have lwt := bI.wt
        refine iteF ⟨.ref a, rfl, .inr ⟨a, xs, rfl, (.inr <| SqT.mk ha3), rfl, _, rfl, ?_⟩⟩
        refine ite2 (fun _ => ⟨od, rfl, podd3⟩) (fun e0 => ?_)
        have l0 : 0 < xs.length := Nat.pos_of_ne_zero fun z => e0 (by rw [z]; rfl)
        refine ⟨.ref p, rfl, .ref a, rfl, .inr ⟨a, xs, rfl, (.inr <| SqT.mk ha3), p, _, _, rfl, B3, by omega, by omega, by omega, fun H4 at_ b4 B4 l4 u4 => ?_⟩⟩
        have ha4 := b4 a _ np ha3
        have ts4 := ts3.bt hE b4
        have S4 := S3.but b4 B4
        have tod4 := tod3.bt hE b4
        have b24 : But p H H4 := (b12.trans (same_but s3)).trans b4
        refine ⟨.ref a, rfl, a, xs, rfl, (.inr <| SqT.mk ha4), fun l nl => ⟨_, _, rfl, ?_⟩⟩
        have nlp : l ≠ p := fun e => B4.some (e ▸ nl)
        have nEl := S4.not nl
        have s5 := same_upd nl (o := .lst xs)
        have hl5 := upd_same (H := H4) (a := l) (o := .lst xs)
        have B5 := B4.same s5
        obtain ⟨j, rfl⟩ := nat_of l4
        have jl : j < xs.length := by omega
        have hx : xs[j]? = some xs[j] := List.getElem?_eq_getElem jl
        obtain ⟨dx, hdx, tgx⟩ := ts4.get hx
        have ex := bI.each (List.mem_of_getElem? hdx)
        have wx := weiA_mem (List.mem_of_getElem? hdx)
        have b45 := same_but s5 (p := p)
        have put : ∀ (G : Hp) (o : HO), But p H4 G → But p H4 (upd G l o) := fun G o b c x hc e => (upd_ne (ne_of_none e nl)).trans (b c x hc e)
        generalize hH5 : upd H4 l (.lst xs) = H5 at s5 hl5 B5 b45 ⊢
        obtain ⟨t5, ty5, -, -, kt5, -, -⟩ := (Tg.tup (p := E) ne (s5 _ _ ha4) (ts4.same s5)).ty (K := K)
        refine ⟨.int way, rfl, rfl, _, rfl, ite2 (fun _ => ?_) (fun _ => ?_)⟩
        · refine ⟨.ref a, rfl, _, _, _, _, _, rfl, .ty "tuple", ty5, kt5, _, rfl, ?_⟩
          exact iteT ⟨.ref l, rfl, q H5 (.ref l) (.list ds) (b24.trans b45) (B5.mono (by omega)) (.lst nEl hl5 (ts4.same s5)) ((bI.mono (show k ≤ k + 1 by omega) (show m - 1 ≤ m + 1 by omega) (show wt ≤ 2 * wt + 300 by omega)).lst)⟩
        refine nx_via (fun σ G => ∃ (y5 y6 : Option V) (ys : List V) (es : List PyData), σ = [some (.ref p), some (.ref a), some (.int way), some od, some (.int (j : Nat)), y5, y6, some (.ref l)] ∧ But p H4 G ∧ Bx G p (n + 8 * (d + 1)) ∧ G l = some (.lst ys) ∧ TgA E G ys es ∧ BdA (k + 1) (m + 1) (2 * wt + 300) es) (fun N key => ?_) ?_
        · refine ⟨.int way, rfl, rfl, _, rfl, ite2 (fun _ => ?_) (fun _ => ?_)⟩
          · refine ⟨.ref l, rfl, .inl ⟨rfl, _, SqL.mk hl5⟩, .int (j : Nat), rfl, l, xs, (j : Nat), j, xs[j], rfl, rfl, hl5, by omega, by omega, (ixN_seq (ix_at jl)).1, hx, ?_⟩
            refine key _ _ ⟨_, _, _, ds.eraseIdx j, rfl, put H5 _ b45, (B5.upd nlp).mono (by omega), upd_same, (ts4.bt hE (put H5 _ b45)).erase j, (bI.erase j).mono (by omega) (by omega) (by omega)⟩
          refine ⟨.int way, rfl, rfl, _, rfl, ite2 (fun _ => ?_) (fun _ => ?_)⟩
          · refine ⟨.ref l, rfl, .inl ⟨rfl, _, SqL.mk hl5⟩, .int (j : Nat), rfl, .ref l, rfl, .int (j : Nat), rfl, l, xs, (j : Nat), xs[j], rfl, rfl, SqL.mk hl5, atI_nat hx, l, xs, (j : Nat), xs[j], rfl, rfl, hl5, by omega, by omega, by omega, ?_⟩
            refine key _ _ ⟨_, _, _, ds.take j ++ [dx] ++ ds.drop j, rfl, put H5 _ b45, (B5.upd nlp).mono (by omega), upd_same, (ts4.bt hE (put H5 _ b45)).ins (tgx.bt hE (put H5 _ b45)) j, (bI.ins j ex.1 ex.2 (v := 2 * wt + 300) (by omega)).mono (by omega) (by omega) (Nat.le_refl _)⟩
          refine ⟨.int way, rfl, rfl, _, rfl, ite2 (fun _ => ?_) (fun _ => ?_)⟩
          · refine ⟨.ref l, rfl, .inl ⟨rfl, _, SqL.mk hl5⟩, .int (j : Nat), rfl, od, rfl, l, xs, (j : Nat), od, rfl, rfl, hl5, by omega, by omega, by omega, ?_⟩
            have wo := bod.wt
            have go := bod.dp
            refine key _ _ ⟨_, _, _, ds.take j ++ [dod] ++ ds.drop j, rfl, put H5 _ b45, (B5.upd nlp).mono (by omega), upd_same, (ts4.bt hE (put H5 _ b45)).ins (tod4.bt hE (put H5 _ b45)) j, (bI.mono (Nat.le_refl _) (show m - 1 ≤ m + 1 by omega) (Nat.le_refl _)).ins j (gd_mono k2 _ bod.g) (by omega) (v := 2 * wt + 300) (by omega) |>.mono (by omega) (by omega) (Nat.le_refl _)⟩
          refine ⟨.int way, rfl, rfl, _, rfl, ite2 (fun _ => ?_) (fun _ => ?_)⟩
          · obtain ⟨m2, hm2, m2l⟩ := ix_prev jl
            have hy : xs[m2]? = some xs[m2] := List.getElem?_eq_getElem m2l
            obtain ⟨dy, hdy, tgy⟩ := ts4.get hy
            have ey := bI.each (List.mem_of_getElem? hdy)
            have a2 : atI xs ((j : Int) - 1) = some xs[m2] := by
              unfold atI
              rw [hm2]
              exact hy
            refine ⟨.ref l, rfl, .int (j : Nat), rfl, _, _, rfl, rfl, l, xs, _, _, rfl, rfl, SqL.mk hl5, a2, .ref l, rfl, .int (j : Nat), rfl, l, xs, _, _, rfl, rfl, SqL.mk hl5, atI_nat hx, (show 2 ≤ sizeLine by decide), fun tp ntp => ?_⟩
            have s6 := same_upd ntp (o := .tup [xs[m2], xs[j]])
            have htp := upd_same (H := H5) (a := tp) (o := .tup [xs[m2], xs[j]])
            have hl6 := s6 _ _ hl5
            have B6 := B5.same s6
            have b46 := b45.trans (same_but s6)
            generalize upd H5 tp (.tup [xs[m2], xs[j]]) = H6 at s6 htp hl6 B6 b46 ⊢
            have l2 : (xs.set j xs[m2]).length = xs.length := List.length_set
            refine ⟨tp, _, rfl, SqT.mk htp, rfl, _, _, rfl, .ref l, rfl, .int (j : Nat), rfl, l, xs, _, j, rfl, rfl, hl6, ix_at jl, _, _, rfl, .ref l, rfl, .int (j : Nat), rfl, _, _, rfl, rfl, l, _, _, m2, rfl, rfl, upd_same, by rw [l2]; exact hm2, rfl, ?_⟩
            have bb := put _ (.lst ((xs.set j xs[m2]).set m2 xs[j])) (put _ (.lst (xs.set j xs[m2])) b46)
            have e2 : (ds.set j dy)[m2]? = some dy := by
              by_cases z : j = m2
              · subst z
                rw [List.getElem?_set_self (by omega)]
              · rw [List.getElem?_set_ne z]
                exact hdy
            have q1 := bI.set hdx ey.1 ey.2 (v := wt + dy.weight) (by omega)
            have q2 := q1.wt
            refine key _ _ ⟨_, _, _, (ds.set j dy).set m2 dx, rfl, bb, ((B6.upd nlp).upd nlp).mono (by omega), upd_same, ((ts4.bt hE bb).set (tgy.bt hE bb) j).set (tgx.bt hE bb) m2, (q1.set e2 ex.1 ex.2 (v := 2 * wt + 300) (by omega)).mono (by omega) (by omega) (Nat.le_refl _)⟩
          · have S5' : Sts (fun q => q = l ∨ E q) H5 := fun q hq => by
              rcases hq with rfl | hq
              · rw [hl5]
                exact fun z => by cases z
              · exact (S4.same s5) q hq
            have tg5 : Tg (fun q => q = l ∨ E q) H5 xs[j] dx := tgx.to fun c o nc e => ⟨s5 c o e, fun h => h.elim (fun z => ne_of_none e nl z) nc⟩
            have dlt : dx.depth < d := by
              have := depA_mem (List.mem_of_getElem? hdx) (Nat.le_refl _)
              simp only [PyData.depth] at hd
              omega
            refine ⟨.ref p, rfl, .ref l, rfl, .int (j : Nat), rfl, l, xs, _, _, rfl, rfl, SqL.mk hl5, atI_nat hx, p, _, _, _, dx, k, m - 1, dx.weight, rfl, B5, .inr hE, S5', tg5, ⟨ex.1, ex.2, Nat.le_refl _⟩, dlt, k2, k20, by omega, by omega, by omega, fun G v' d' bG BG tG bdG => ?_⟩
            refine ⟨.ref l, rfl, .int (j : Nat), rfl, l, xs, _, j, rfl, rfl, bG _ _ nlp hl5, ix_at jl, ?_⟩
            have bb := put _ (.lst (xs.set j v')) (b45.trans bG)
            have tv : Tg E (upd G l (.lst (xs.set j v'))) v' d' := tG.to fun c o nc e => ⟨(upd_ne (fun z => nc (.inl z))).trans e, fun h => nc (.inr h)⟩
            have wv := bdG.wt
            have dv := bdG.dp
            refine key _ _ ⟨_, _, _, ds.set j d', rfl, bb, (BG.upd nlp).mono (by omega), upd_same, (ts4.bt hE bb).set tv j, (bI.mono (show k ≤ k + 1 by omega) (show m - 1 ≤ m + 1 by omega) (Nat.le_refl _)).set hdx bdG.g (by omega) (by omega)⟩
        · rintro σ G ⟨y5, y6, ys, es, rfl, bG, BG, hlG, tG, bdG⟩
          obtain ⟨t6, ty6, -, -, kt6, -, -⟩ := (Tg.tup (p := E) ne (bG _ _ np ha4) (ts4.bt hE bG)).ty (K := K)
          refine ⟨.ref a, rfl, _, _, _, _, _, rfl, .ty "tuple", ty6, kt6, _, rfl, ?_⟩
          exact iteT ⟨.ref l, rfl, l, _, rfl, .inl ⟨SqL.mk hlG, fun t nt => q (upd G t (.tup ys)) (.ref t) (.tuple es) (b24.trans (bG.trans (same_but (same_upd nt)))) (BG.same (same_upd nt)) (.tup ((S4.but bG BG).not nt) upd_same (tG.same (same_upd nt))) bdG.tup⟩⟩
def sp__law_otherwise (K : PySem.W.Frag) : Sp := spr__law_otherwise 14 K
theorem ok__law_otherwise (T : Defs K mg) : FnOk P w K mg base CX0 19 T.f__law_otherwise T.fd__law_otherwise ["_law_box_here", "_law_thing"] (sp__law_otherwise K) := okr__law_otherwise T 14
/-- a call of a def whose promise holds where no text is being made -/
theorem pe_callG {X : Cx} {CX : CXT} {lv : Nat} {fa : Addr} {fdt : FuncData} {prs : List Str} {pr : Sp} {EE : XK} {nm : Str} {p0 p1 : Pos} {a1 : Expr} {as : List Expr} {ta : TA} {us0 : List Value} {vs0 : List V}
    (none_ : X.A.guards = some []) (G : GOk X.prog X.w X.K X.mg X.base CX lv fa fdt prs pr) (room : Room lv X.A) (gl : Gl X nm) (md : X.mg nm = some (.ref fa)) (kp : PySem.W.keepIn X.K (.ref fa) = true) (bs : Binds X.K fdt prs us0) (rl : Vals vs0 us0) (ps : Passes CX X EE)
    (ar : PA X (a1 :: as) ta) (nd : (nm == ("__debug__" : Str)) = false := by decide) (st : starEach (a1 :: as) X.env = (false, eval a1 X.env) :: starEach as X.env := by rfl) (pl : (backTo p1 (starEach as X.env)).any (·.1) = false := by rfl) :
    PE X (.Call (.Name nm p0) (a1 :: as) [] p1) (tCall pr vs0 EE ta) := by
  constructor
  intro pins s0 σ0 H0 Q0 I0 hh
  have go : ∀ (us : List Value) (s1 : Shared) (vs : List V) (H1 : Hp), Inv X pins σ0 H1 s1 → Vals vs us → pr (vs ++ vs0) H1 Q0 EE → wpAny (model X.prog X.w) X.A (call (.ref fa) us) (EP X pins σ0 Q0) X.xe s1 := fun us s1 vs H1 J rv hp => by
    have both_ : Vals (vs ++ vs0) (us ++ us0) := rv.append rl
    have lns : (us ++ us0).length = prs.length := both_.length.symm.trans (G.len _ _ _ _ hp)
    have body := G.run X.A X.stack s1 H1 ⟨us, []⟩ (us ++ us0) (vs ++ vs0) Q0 EE none_ room J.env0 (bs s1 us J.kIn lns) both_ hp
    refine wpAny_call (codeAny_mono body fun res s2 hres => ?_)
    match res, hres with
    | .ok (.ret u), hres => exact J.after hres
    | .ok .next, hres => exact hres.elim
    | .ok .brk, hres => exact hres.elim
    | .ok .cont, hres => exact hres.elim
    | .error er, hres => exact ps pins σ0 H1 s1 er s2 J hres
  refine wpAny_Call_Name_kw (ld_glob I0 gl md ?_ nd)
  exact PySem.W.callWith_K (h₀ := X.base) I0.ok.mod.kin kp (thn (ar.run p1 pins s0 σ0 H0 _ I0 hh) fun us s1 ⟨vs, H1, J, rv, hp⟩ => ⟨J.kIn, go us s1 vs H1 J rv hp⟩) st pl
def sp__law_asked (_ : PySem.W.Frag) : Sp := fun vs H Q _ => ∃ (p : Addr → Prop) (v : V) (d : PyData), vs = [v] ∧ Tg p H v d ∧ d.depth < 16 ∧ Bd 15 58 100000 d ∧ ∀ H', Same H H' → Q (.bl true) H'
theorem kBB : PySem.W.kitOne K (.type "bool") (.type "bool") = some true := kit_ty (by decide +kernel)
theorem ok__law_asked (T : Defs K mg) : GOk P w K mg base CX0 19 T.f__law_asked T.fd__law_asked ["_law_thing"] (sp__law_asked K) := by
  have G_is_formula : FnOk P w K mg base CX0 4 T.f_is_formula T.fd_is_formula ["thing"] (sp_is_formula K) := ok_is_formula T
  have G__law_is_right : FnOk P w K mg base CX0 18 T.f__law_is_right T.fd__law_is_right ["_law_thing"] (sp__law_is_right K) := ok__law_is_right T
  refine gok_of T.F__law_asked sc__law_asked (fun vs H Q E h => ?_) (fun cdv A outer s H vs Q E hg hr h => ?_)
  · obtain ⟨p, v, d, rfl, hv, hd, bd, q⟩ := h
    rfl
  · obtain ⟨p, v, d, rfl, hv, hd, bd, q⟩ := h
    refine ⟨_, PSs.nox (pss_cons (ps_par (i := 1) (j := 2) (by rfl) sc__law_asked.nd rfl rfl (by decide) rfl rfl (pa_cons (pe_callB (cr_reprX hg (u65g hr)) (by rfl) T.m_repr bt_repr (pa_cons (pv 0) pa_nil)) (pa_cons (pe_call G_is_formula (hr.mono (by decide)) (by rfl) T.g_is_formula T.F_is_formula.kp T.b_is_formula .nil pass0 (pa_cons (pv 0) pa_nil)) pa_nil)) (by rfl))
    (pss_one (ps_ret (pe_and (pe_callB call_isi (by rfl) T.m_isinstance bt_isinstance (pa_cons (pv 2) (pa_cons (pe_bltn (v := .ty "bool") (by rfl) T.m_bool bt_bool rfl) pa_nil))) (pe_and (pe_cmpR op_eq (pv 2) (pe_call G__law_is_right (hr.mono (by decide)) (by rfl) T.g__law_is_right T.F__law_is_right.kp T.b__law_is_right .nil pass0 (pa_cons (pv 0) pa_nil)) (nomark _)) (pe_one (pe_cmpR op_eq (pe_callB (cr_reprX hg (u65g hr)) (by rfl) T.m_repr bt_repr (pa_cons (pv 0) pa_nil)) (pv 1) (nomark _)))))))), ?_⟩
    have sh : Sho d := bd.shs.sho (by decide) (by decide) (by decide) (by decide)
    refine ⟨v, rfl, v, d, rfl, hv.dp, sh, v, rfl, p, v, d, rfl, hv, fun H1 s1 => ⟨_, _, rfl, ?_⟩⟩
    refine ⟨.bl (isF d), rfl, _, _, _, _, _, rfl, .ty "bool", .base (.bl _), kBB, _, rfl, ?_⟩
    refine iteT ⟨.bl (isF d), rfl, v, rfl, p, v, d, rfl, hv.same s1, hd, bd.mono (by decide) (by decide) (by decide), fun H2 s2 => ?_⟩
    refine ⟨rfl, _, rfl, ?_⟩
    rw [decide_eq_true rfl]
    refine iteT ⟨v, rfl, v, d, rfl, (hv.same (s1.trans s2)).dp, sh, _, rfl, rfl, ?_⟩
    have e : decide (V.str d.shown = V.str d.shown) = true := decide_eq_true rfl
    show Q (.bl (decide (V.str d.shown = V.str d.shown))) H2
    rw [e]
    exact q _ (s1.trans s2)
theorem fm_gd : ∀ {f : Fm}, (∀ i, i ∈ f.ins → i < 6) → gd 12 f.data = true
  | .inp i, h => by
    have := h i List.mem_cons_self
    simp only [Fm.data, gd, gdA, Bool.and_true, Bool.and_eq_true, decide_eq_true_eq]
    exact ⟨ok_of _, by omega⟩
  | .less f, h => by
    simp only [Fm.data, gd, gdA, Bool.and_true, fm_gd (f := f) h]
    exact ok_of _
  | .both f g, h => by
    simp only [Fm.data, gd, gdA, Bool.and_true, fm_gd (f := f) fun i hi => h i (List.mem_append_left _ hi), fm_gd (f := g) fun i hi => h i (List.mem_append_right _ hi)]
    exact ok_of _
  | .either f g, h => by
    simp only [Fm.data, gd, gdA, Bool.and_true, fm_gd (f := f) fun i hi => h i (List.mem_append_left _ hi), fm_gd (f := g) fun i hi => h i (List.mem_append_right _ hi)]
    exact ok_of _
  | .oneof f g, h => by
    simp only [Fm.data, gd, gdA, Bool.and_true, fm_gd (f := f) fun i hi => h i (List.mem_append_left _ hi), fm_gd (f := g) fun i hi => h i (List.mem_append_right _ hi)]
    exact ok_of _
  | .pick f g k, h => by
    simp only [Fm.data, gd, gdA, Bool.and_true, fm_gd (f := f) fun i hi => h i (List.mem_append_left _ hi), fm_gd (f := g) fun i hi => h i (List.mem_append_right _ (List.mem_append_left _ hi)), fm_gd (f := k) fun i hi => h i (List.mem_append_right _ (List.mem_append_right _ hi))]
    exact ok_of _
theorem fm_bd {f : Fm} (h : ∀ i, i ∈ f.ins → i < 6) : Bd 12 f.dep (80 * f.sz) f.data := ⟨fm_gd h, (fm_shs h).dp, (fm_shs h).wt⟩
def sp_law {K : PySem.W.Frag} {mg : Str → Option Value} (_ : Defs K mg) : Sp := fun vs H Q _ => ∃ (a : Addr) (ns : List Int), vs = [.ref a] ∧ SqL K H a (ns.map V.int) ∧ ns.length ≤ 63 ∧ True ∧ ∀ H', Q (.bl true) H'
theorem ok_law (T : Defs K mg) : GOk P w K mg base CX0 20 T.f_law T.fd_law ["_law_script"] (sp_law T) := by
  have G__law_folded : FnOk P w K mg base CX0 1 T.f__law_folded T.fd__law_folded ["_law_script", "_law_many"] (sp__law_folded K) := ok__law_folded T
  have G__law_box : FnOk P w K mg base CX0 1 T.f__law_box T.fd__law_box ["_law_script", "_law_k"] (sp__law_box K) := ok__law_box T
  have G__law_any : FnOk P w K mg base CX0 12 T.f__law_any T.fd__law_any ["_law_box_here"] (sp__law_any K) := ok__law_any T
  have G__law_take : FnOk P w K mg base CX0 1 T.f__law_take T.fd__law_take ["_law_box_here", "_law_many"] (sp__law_take K) := ok__law_take T
  have G__law_asked : GOk P w K mg base CX0 19 T.f__law_asked T.fd__law_asked ["_law_thing"] (sp__law_asked K) := ok__law_asked T
  have G__law_otherwise : FnOk P w K mg base CX0 19 T.f__law_otherwise T.fd__law_otherwise ["_law_box_here", "_law_thing"] (sp__law_otherwise K) := ok__law_otherwise T
  refine gok_of T.F_law sc_law (fun vs H Q E h => ?_) (fun cdv A outer s H vs Q E hg hr h => ?_)
  · obtain ⟨a, ns, rfl, hS, hlen, _, q⟩ := h
    rfl
  · obtain ⟨a, ns, rfl, hS, hlen, _, q⟩ := h
    refine ⟨_, PSs.nox (pss_cons (ps_set (i := 1) sc_law.nd rfl (.inl rfl) (pe_call G__law_folded (hr.mono (by decide)) (by rfl) T.g__law_folded T.F__law_folded.kp T.b__law_folded .nil pass0 (pa_cons (pv 0) (pa_cons pe_int pa_nil))))
    (pss_cons ((ps_for PassesOwn.never rfl (pi_range1 (by rfl) T.m_range (pa_cons (pe_callB call_len_seq (by rfl) T.m_len bt_len (pa_cons (pv 1) pa_nil)) pa_nil)) (pg_name (i := 2) sc_law.nd rfl (.inl rfl)) (pss_cons (ps_set (i := 3) sc_law.nd rfl (.inl rfl) (pe_call G__law_box (hr.mono (by decide)) (by rfl) T.g__law_box T.F__law_box.kp T.b__law_box .nil pass0 (pa_cons (pv 1) (pa_cons (pv 2) pa_nil))))
    (pss_cons (ps_par (i := 4) (j := 5) (by rfl) sc_law.nd rfl rfl (by decide) rfl rfl (pa_cons (pe_call G__law_any (hr.mono (by decide)) (by rfl) T.g__law_any T.F__law_any.kp T.b__law_any .nil pass0 (pa_cons (pv 3) pa_nil)) (pa_cons (pe_call G__law_take (hr.mono (by decide)) (by rfl) T.g__law_take T.F__law_take.kp T.b__law_take .nil pass0 (pa_cons (pv 3) (pa_cons pe_int pa_nil))) pa_nil)) (by rfl))
    (pss_cons (ps_set (i := 6) sc_law.nd rfl (.inl rfl) (pv 4))
    (pss_cons ((ps_for PassesOwn.never rfl (pi_range1 (by rfl) T.m_range (pa_cons (pv 5) pa_nil)) (pg_name (i := 7) sc_law.nd rfl (.inl rfl)) (pss_one (ps_set (i := 6) sc_law.nd rfl (.inl rfl) (pe_tup (pa_cons pe_str (pa_cons (pv 6) pa_nil)))))))
    (pss_cons (ps_set (i := 8) sc_law.nd rfl (.inl rfl) (pe_tup (pa_cons pe_str (pa_cons (pv 6) (pa_cons (pe_tup (pa_cons pe_str (pa_cons (pv 6) (pa_cons (pe_tup (pa_cons pe_str (pa_cons (pe_call G__law_take (hr.mono (by decide)) (by rfl) T.g__law_take T.F__law_take.kp T.b__law_take .nil pass0 (pa_cons (pv 3) (pa_cons pe_int pa_nil))) pa_nil))) pa_nil)))) pa_nil)))))
    (pss_cons (ps_if (PW.pt (pw_or (pt_not (pt_val (pe_callG hg G__law_asked (hr.mono (by decide)) (by rfl) T.g__law_asked T.F__law_asked.kp T.b__law_asked .nil pass0 (pa_cons (pv 4) pa_nil)))) (pw_or (pt_not (pt_val (pe_callG hg G__law_asked (hr.mono (by decide)) (by rfl) T.g__law_asked T.F__law_asked.kp T.b__law_asked .nil pass0 (pa_cons (pv 6) pa_nil)))) (pw_or1 (pt_not (pt_val (pe_callG hg G__law_asked (hr.mono (by decide)) (by rfl) T.g__law_asked T.F__law_asked.kp T.b__law_asked .nil pass0 (pa_cons (pv 8) pa_nil)))))))) (pss_one (ps_ret pe_bl)) pss_nil)
    (pss_one ((ps_for PassesOwn.never rfl (pi_range1 (by rfl) T.m_range (pa_cons pe_int pa_nil)) (pg_name (i := 7) sc_law.nd rfl (.inl rfl)) (pss_cons (ps_par (i := 9) (j := 10) (by rfl) sc_law.nd rfl rfl (by decide) rfl rfl (pa_cons (pe_cmpR op_eq (pe_call G__law_take (hr.mono (by decide)) (by rfl) T.g__law_take T.F__law_take.kp T.b__law_take .nil pass0 (pa_cons (pv 3) (pa_cons pe_int pa_nil))) pe_int (nomark _)) (pa_cons (pe_call G__law_otherwise (hr.mono (by decide)) (by rfl) T.g__law_otherwise T.F__law_otherwise.kp T.b__law_otherwise .nil pass0 (pa_cons (pv 3) (pa_cons (pv 4) pa_nil))) pa_nil)) (by rfl))
    (pss_one (ps_if (pt_not (pt_val (pe_callG hg G__law_asked (hr.mono (by decide)) (by rfl) T.g__law_asked T.F__law_asked.kp T.b__law_asked .nil pass0 (pa_cons (pe_ifExp (pt_val (pv 9)) (pe_call G__law_otherwise (hr.mono (by decide)) (by rfl) T.g__law_otherwise T.F__law_otherwise.kp T.b__law_otherwise .nil pass0 (pa_cons (pv 3) (pa_cons (pv 10) pa_nil))) (pv 10)) pa_nil)))) (pss_one (ps_ret pe_bl)) pss_nil))))))))))))))
    (pss_one (ps_ret pe_bl)))), ?_⟩
    have hsl : sizeLine = 16777216 := by decide
    refine ⟨.ref a, rfl, a, ns, 4, rfl, hS, hlen, by decide, by decide, fun H1 c cs s1 nc hc lc => ?_⟩
    refine ⟨.ref c, rfl, c, _, rfl, .inl (SqL.mk hc), _, rfl, by rw [List.length_map]; omega, by rw [List.length_map]; omega, for_range (fun i σ H2 => ∃ y2 y3 y4 y5 y6 y7 y8 y9 y10, σ = [some (.ref a), some (.ref c), y2, y3, y4, y5, y6, y7, y8, y9, y10] ∧ Same H1 H2) ⟨none, none, none, none, none, none, none, none, none, rfl, Same.refl H1⟩ ?_ ?_⟩
    rotate_left
    · rintro σ H2 ⟨y2, y3, y4, y5, y6, y7, y8, y9, y10, rfl, s2⟩
      exact q _
    rintro i σ H2 hi ⟨y2, y3, y4, y5, y6, y7, y8, y9, y10, rfl, s2⟩
    have hi2 : i < 1000 := by
      rw [List.length_map] at hi
      omega
    refine ⟨.ref c, rfl, .int (0 + (i : Int)), rfl, c, cs, i, by rw [Int.zero_add]; rfl, SqL.mk (s2 _ _ hc), hi2, fun H3 b s3 nb hB => ?_⟩
    have nb1 : H1 b = none := s2.free nb
    have s13 := s2.trans s3
    refine ⟨.ref b, rfl, b, 0, rfl, hB, by decide, fun G1 v f c1 B1 hf dp sz h6 => ?_⟩
    obtain ⟨va, rfl⟩ : ∃ va, v = .ref va := by
      rcases hf.shape with ⟨_, a, _, e, _⟩ | ⟨a, _, e, _⟩
      · exact ⟨a, e⟩
      · exact ⟨a, e⟩
    refine ⟨.ref b, rfl, b, 3, _, rfl, B1, by decide, by decide, by omega, fun G2 more c2 B2 l2 u2 => ⟨_, _, rfl, ?_⟩⟩
    have hf2 := hf.but B1 c2
    have s1G : Same H1 G2 := But.same nb1 s13 (c1.trans c2)
    clear c1 B1 c2
    obtain ⟨mr, rfl⟩ := nat_of l2
    refine ⟨.ref va, rfl, .int (mr : Nat), rfl, (mr : Nat), rfl, by omega, by omega, for_range (fun t σ G => ∃ (g : Fm) (u y7 : Option V) (uv : V), σ = [some (.ref a), some (.ref c), some (.int (0 + (i : Int))), some (.ref b), some (.ref va), some (.int (mr : Nat)), some uv, y7, y8, y9, y10] ∧ Same G2 G ∧ FmAt G g uv ∧ g.dep ≤ 8 + t ∧ g.sz ≤ 24 + t ∧ ∀ i, i ∈ g.ins → i < 6) ⟨f, none, _, _, rfl, Same.refl G2, hf2, dp, sz, h6⟩ ?_ ?_⟩
    · rintro t σ G _ ⟨g, _, y7', uv, rfl, sG, hg, dg, zg, ig⟩
      refine ⟨uv, rfl, (show 2 ≤ sizeLine by decide), fun tn nn => ?_⟩
      have sn := same_upd nn (o := .tup [.str "less", uv])
      exact ⟨.less g, none, _, _, rfl, sG.trans sn, ⟨tn, uv, rfl, upd_same, hg.same sn⟩, by simp only [Fm.dep]; omega, by simp only [Fm.sz]; omega, ig⟩
    rintro σ G ⟨g, _, y7', uv, rfl, sG, hg, dg, zg, ig⟩
    have mr3 : ((mr : Nat) : Int).toNat ≤ 2 := by omega
    refine ⟨uv, rfl, uv, rfl, .ref b, rfl, b, 6, _, rfl, B2.same sG, by decide, by decide, by omega, fun G4 r6 c4 B4 l6 u6 => ?_⟩
    obtain ⟨ri, rfl⟩ := nat_of l6
    have hg4 := hg.but (B2.same sG) c4
    have hf4 := (hf2.same sG).but (B2.same sG) c4
    have s14 : Same H1 G4 := But.same nb1 (s1G.trans sG) c4
    refine ⟨(show 2 ≤ sizeLine by decide), fun t1 n1 => ⟨(show 3 ≤ sizeLine by decide), fun t2 n2 => ⟨(show 3 ≤ sizeLine by decide), fun t3 n3 => ?_⟩⟩⟩
    have r1 := same_upd n1 (o := .tup [.str "in", .int (ri : Nat)])
    have e1 := upd_same (H := G4) (a := t1) (o := .tup [.str "in", .int (ri : Nat)])
    generalize upd G4 t1 (.tup [.str "in", .int (ri : Nat)]) = G5 at r1 e1 n2 n3 ⊢
    have r2 := same_upd n2 (o := .tup [.str "oneof", uv, .ref t1])
    have e2 := upd_same (H := G5) (a := t2) (o := .tup [.str "oneof", uv, .ref t1])
    generalize upd G5 t2 (.tup [.str "oneof", uv, .ref t1]) = G6 at r2 e2 n3 ⊢
    have r3 := same_upd n3 (o := .tup [.str "both", uv, .ref t2])
    have e3 := upd_same (H := G6) (a := t3) (o := .tup [.str "both", uv, .ref t2])
    generalize upd G6 t3 (.tup [.str "both", uv, .ref t2]) = G7 at r3 e3 ⊢
    have r47 := r1.trans (r2.trans r3)
    have hw7 : FmAt G7 (.both g (.oneof g (.inp ri))) (.ref t3) := ⟨t3, uv, .ref t2, rfl, e3, hg4.same r47, t2, uv, .ref t1, rfl, r3 _ _ e2, hg4.same r47, t1, rfl, r3 _ _ (r2 _ _ e1)⟩
    have hg7 := hg4.same r47
    have hf7 := hf4.same r47
    have B7 := B4.same r47
    have s17 := s14.trans r47
    have iw : ∀ i, i ∈ (Fm.both g (.oneof g (.inp ri))).ins → i < 6 := fun i hi => by
      simp only [Fm.ins, List.mem_append, List.mem_singleton] at hi
      rcases hi with h | h | rfl
      · exact ig i h
      · exact ig i h
      · omega
    have tgf : ∀ (F : Hp) (x : Fm) (xv : V) (k : Nat), FmAt F x xv → Bx F b k → Tg (fun q => q = b) F xv x.data := fun F x xv k hx B => tg_fm (fun c xs e => B.ne_tup e) hx
    have df := (fm_bd h6).dp
    have dgg := (fm_bd ig).dp
    have dw := (fm_bd iw).dp
    refine ⟨.ref va, rfl, (fun q => q = b), .ref va, f.data, rfl, tgf _ _ _ _ hf7 B7, by omega, (fm_bd h6).mono (by decide) (by omega) (by omega), fun F1 q1 => ⟨_, rfl, iteF ?_⟩⟩
    refine ⟨uv, rfl, (fun q => q = b), uv, g.data, rfl, tgf _ _ _ _ (hg7.same q1) (B7.same q1), by omega, (fm_bd ig).mono (by decide) (by omega) (by omega), fun F2 q2 => ⟨_, rfl, iteF ?_⟩⟩
    have dwl : (Fm.both g (.oneof g (.inp ri))).dep ≤ 12 := by simp only [Fm.dep]; omega
    have dwz : (Fm.both g (.oneof g (.inp ri))).sz ≤ 60 := by simp only [Fm.sz]; omega
    refine ⟨.ref t3, rfl, (fun q => q = b), .ref t3, _, rfl, tgf _ _ _ _ ((hw7.same q1).same q2) ((B7.same q1).same q2), by omega, (fm_bd iw).mono (by decide) (by omega) (by omega), fun F3 q3 => ⟨_, rfl, iteF ?_⟩⟩
    have q13 := q1.trans (q2.trans q3)
    have B8 := B7.same q13
    have hf8 := hf7.same q13
    have s18 := s17.trans q13
    generalize hN : (0 + 200 + 1 + 1 : Nat) = N0 at B8
    refine ⟨16, rfl, by decide, by decide, for_range (fun t σ F => ∃ (y7 y9 y10 : Option V), σ = [some (.ref a), some (.ref c), some (.int (0 + (i : Int))), some (.ref b), some (.ref va), some (.int (mr : Nat)), some uv, y7, some (.ref t3), y9, y10] ∧ Same H1 F ∧ FmAt F f (.ref va) ∧ Bx F b (N0 + 300 * t)) ⟨_, _, _, rfl, s18, hf8, B8.mono (by omega)⟩ ?_ ?_⟩
    rotate_left
    · rintro σ F ⟨y7, y9, y10, rfl, sF, _, _⟩
      exact ⟨_, _, _, _, _, _, _, _, _, rfl, sF⟩
    rintro t σ F ht ⟨y7, y9, y10, rfl, sF, hfF, BF⟩
    have t16 : t < 16 := ht
    refine ⟨.ref b, rfl, b, 3, _, rfl, BF, by decide, by decide, by omega, fun F4 r3' c4' B4' l3 u3 => ⟨rfl, ?_⟩⟩
    have hfF4 := hfF.but BF c4'
    have st : ∀ (X : Hp) (k : Nat), Bx X b k → Sts (fun q => q = b) X := fun X k B q e => e ▸ B.some
    have bf := fm_bd h6
    refine ⟨.ref b, rfl, .ref va, rfl, b, _, (fun q => q = b), .ref va, f.data, 12, 8, 1920, rfl, B4', rfl, st _ _ B4', tgf _ _ _ _ hfF4 B4', bf.mono (by decide) dp (by omega), by omega, by decide, by decide, by decide, by decide, by omega, fun F5 v5 d5 c5 B5 t5 bd5 => ⟨_, _, rfl, ?_⟩⟩
    have c45 := c4'.trans c5
    have hfF5 := hfF4.but B4' c5
    have d5l := bd5.dp
    refine ⟨_, rfl, _, rfl, ite2 (fun _ => ?_) (fun _ => ?_)⟩
    · refine ⟨.ref b, rfl, v5, rfl, b, _, (fun q => q = b), v5, d5, 13, 10, 4140, rfl, B5, rfl, st _ _ B5, t5, bd5.mono (by decide) (by decide) (by decide), by omega, by decide, by decide, by decide, by decide, by omega, fun F6 v6 d6 c6 B6 t6 bd6 => ?_⟩
      have d6l := bd6.dp
      refine ⟨_, v6, d6, rfl, t6, by omega, bd6.mono (by decide) (by decide) (by decide), fun F7 q7 => ⟨_, rfl, iteF ?_⟩⟩
      exact ⟨_, _, _, rfl, (But.same nb1 sF (c45.trans c6)).trans q7, (hfF5.but B5 c6).same q7, (B6.same q7).mono (by omega)⟩
    · refine ⟨v5, rfl, _, v5, d5, rfl, t5, by omega, bd5.mono (by decide) (by decide) (by decide), fun F7 q7 => ⟨_, rfl, iteF ?_⟩⟩
      exact ⟨_, _, _, rfl, (But.same nb1 sF c45).trans q7, hfF5.same q7, (B5.same q7).mono (by omega)⟩
end
def d_is_number : He.DefD := ⟨("is_number", none), "is_number", "is_number", defArgs s_is_number, defBody s_is_number, defScope s_is_number, [], []⟩
def d_is_within : He.DefD := ⟨("is_within", none), "is_within", "is_within", defArgs s_is_within, defBody s_is_within, defScope s_is_within, [], []⟩
def d_is_part : He.DefD := ⟨("is_part", none), "is_part", "is_part", defArgs s_is_part, defBody s_is_part, defScope s_is_part, [], []⟩
def d_sides_of : He.DefD := ⟨("sides_of", none), "sides_of", "sides_of", defArgs s_sides_of, defBody s_sides_of, defScope s_sides_of, [], []⟩
def d_is_formula : He.DefD := ⟨("is_formula", none), "is_formula", "is_formula", defArgs s_is_formula, defBody s_is_formula, defScope s_is_formula, [], []⟩
def d__law_box : He.DefD := ⟨("_law_box", none), "_law_box", "_law_box", defArgs s__law_box, defBody s__law_box, defScope s__law_box, [], []⟩
def d__law_take : He.DefD := ⟨("_law_take", none), "_law_take", "_law_take", defArgs s__law_take, defBody s__law_take, defScope s__law_take, [], []⟩
def d__law_folded : He.DefD := ⟨("_law_folded", none), "_law_folded", "_law_folded", defArgs s__law_folded, defBody s__law_folded, defScope s__law_folded, [], []⟩
def d__law_formula : He.DefD := ⟨("_law_formula", none), "_law_formula", "_law_formula", defArgs s__law_formula, defBody s__law_formula, defScope s__law_formula, [], []⟩
def d__law_any : He.DefD := ⟨("_law_any", none), "_law_any", "_law_any", defArgs s__law_any, defBody s__law_any, defScope s__law_any, [], []⟩
def d__law_measure : He.DefD := ⟨("_law_measure", none), "_law_measure", "_law_measure", defArgs s__law_measure, defBody s__law_measure, defScope s__law_measure, [], []⟩
def d__law_is_right : He.DefD := ⟨("_law_is_right", none), "_law_is_right", "_law_is_right", defArgs s__law_is_right, defBody s__law_is_right, defScope s__law_is_right, [], []⟩
def d__law_odd : He.DefD := ⟨("_law_odd", none), "_law_odd", "_law_odd", defArgs s__law_odd, defBody s__law_odd, defScope s__law_odd, [], []⟩
def d__law_otherwise : He.DefD := ⟨("_law_otherwise", none), "_law_otherwise", "_law_otherwise", defArgs s__law_otherwise, defBody s__law_otherwise, defScope s__law_otherwise, [], []⟩
def d__law_asked : He.DefD := ⟨("_law_asked", none), "_law_asked", "_law_asked", defArgs s__law_asked, defBody s__law_asked, defScope s__law_asked, [], []⟩
def d_law : He.DefD := ⟨("law", none), "law", "law", defArgs s_law, defBody s_law, defScope s_law, [], []⟩
def hfn : List He.DefD := [d_is_number, d_is_within, d_is_part, d_sides_of, d_is_formula, d__law_box, d__law_take, d__law_folded, d__law_formula, d__law_any, d__law_measure, d__law_is_right, d__law_odd, d__law_otherwise, d__law_asked, d_law]
def hfa : List He.Fa := [.glo "is_number", .glo "is_within", .glo "is_part", .glo "sides_of", .glo "is_formula", .glo "_law_box", .glo "_law_take", .glo "_law_folded", .glo "_law_formula", .glo "_law_any", .glo "_law_measure", .glo "_law_is_right", .glo "_law_odd", .glo "_law_otherwise", .glo "_law_asked", .glo "law", .free "abs", .free "bool", .free "divmod", .free "enumerate", .free "int", .free "isinstance", .free "len", .free "list", .free "max", .free "range", .free "repr", .free "str", .free "sum", .free "tuple", .glo "SIDES", .int "GREATEST_INPUT" 5, .int "MOST_PARTS" 24, .int "DEEPEST" 8]
def hts : List He.Tab := [((fun K => He.ga K "SIDES"), ["less", "both", "either", "oneof", "pick"])]
def htf : List He.Defn := []
abbrev Hex (K : PySem.W.Frag) : Prop := (dicB K (He.ga K "SIDES") dl_SIDES = true)
instance (K : PySem.W.Frag) : Decidable (Hex K) := inferInstance
def hex : PySem.W.Frag → Bool := fun K => decide (Hex K)
abbrev R : PySem.W.OpenRow := PySem.W.OpenLaw.row PySem.Challenge.rw_shareones_k33_formulas_or_not
abbrev hk : PySem.W.Hook := He.hookX 4 hfa hfn hts htf hex
def ob (s : PySem.W.SharedT) : He.AlX := He.obsX 4 hfa hfn hts htf hex (HandSHeadRun.getT s)
theorem ob_eq (s : PySem.W.SharedT) : ob s = hk.obs s.abs := He.obsX_eq (HandSHeadRun.getT_eq s)
def loose : List Str := "is_number" :: "is_within" :: "is_part" :: "sides_of" :: "is_formula" :: "_law_box" :: "_law_take" :: "_law_folded" :: "_law_formula" :: "_law_any" :: "_law_measure" :: "_law_is_right" :: "_law_odd" :: "_law_otherwise" :: "_law_asked" :: "SIDES" :: "GREATEST_INPUT" :: "MOST_PARTS" :: "DEEPEST" :: []
theorem run (w : World) : HandSHeadRun.RunEq R (PySem.W.view R.prog [22]) hk ob 6000 loose w := PySem.W.byRow2 "special-get-raises" (P := fun w => HandSHeadRun.RunEq R (PySem.W.view R.prog [22]) hk ob 6000 loose w) (fun w => by
  intro os
  kernel_rfl) (fun w => by
  intro os
  kernel_rfl) w
theorem facts {l : PySem.W.OpenLaw} {w : World} {K : PySem.W.Frag} {h : Heap} {mg : Str → Option Value} {f : Addr} (X : K.In h) (G : h.Ns mainGlobals mg) (hfa_ : mg ("law" : Str) = some (.ref f)) (cc : He.SaysX hfa hfn hts htf hex w h K) :
    ∃ (fd : FuncData) (sp : Sp), (∀ (s : Shared) (u : Value), BindsTo s fd ⟨[u], []⟩ [("_law_script", u)]) ∧ (∀ (H : Hp) (a : Addr) (ns : List Int), ns.length ≤ 63 → Only H → SqL K H a (ns.map V.int) → sp [.ref a] H (fun v _ => v = .bl true) fun _ _ _ => False) ∧ ∀ base : Heap, K.In base → base.Ns mainGlobals mg → GOk l.prog w K mg base CX0 20 f fd ["_law_script"] sp := by
  have c : He.SaysD hfa hfn K := congrArg (fun z : He.AlT => z.1) cc.t
  obtain ⟨fd_is_number, F_is_number⟩ := c.def_ 0 (d := d_is_number) rfl
  obtain ⟨fd_is_within, F_is_within⟩ := c.def_ 1 (d := d_is_within) rfl
  obtain ⟨fd_is_part, F_is_part⟩ := c.def_ 2 (d := d_is_part) rfl
  obtain ⟨fd_sides_of, F_sides_of⟩ := c.def_ 3 (d := d_sides_of) rfl
  obtain ⟨fd_is_formula, F_is_formula⟩ := c.def_ 4 (d := d_is_formula) rfl
  obtain ⟨fd__law_box, F__law_box⟩ := c.def_ 5 (d := d__law_box) rfl
  obtain ⟨fd__law_take, F__law_take⟩ := c.def_ 6 (d := d__law_take) rfl
  obtain ⟨fd__law_folded, F__law_folded⟩ := c.def_ 7 (d := d__law_folded) rfl
  obtain ⟨fd__law_formula, F__law_formula⟩ := c.def_ 8 (d := d__law_formula) rfl
  obtain ⟨fd__law_any, F__law_any⟩ := c.def_ 9 (d := d__law_any) rfl
  obtain ⟨fd__law_measure, F__law_measure⟩ := c.def_ 10 (d := d__law_measure) rfl
  obtain ⟨fd__law_is_right, F__law_is_right⟩ := c.def_ 11 (d := d__law_is_right) rfl
  obtain ⟨fd__law_odd, F__law_odd⟩ := c.def_ 12 (d := d__law_odd) rfl
  obtain ⟨fd__law_otherwise, F__law_otherwise⟩ := c.def_ 13 (d := d__law_otherwise) rfl
  obtain ⟨fd__law_asked, F__law_asked⟩ := c.def_ 14 (d := d__law_asked) rfl
  obtain ⟨fd_law, F_law⟩ := c.def_ 15 (d := d_law) rfl
  have e := hfa_.symm.trans (He.glo_ok X G (c.fact 15 (f := .glo "law") rfl))
  cases e
  have b := FunD.bindsA (ps := ["_law_script"]) F_law fun _ _ _ _ _ _ us hl => match us, hl with | [_], _ => rfl
  have hm : Hex K := of_decide_eq_true cc.more
  have h0 := hm
  haveI : DW K w := ⟨cc.t.tab 0 rfl, h0⟩
  let T : Defs K mg := ⟨_, fd_is_number, F_is_number, (He.glo_ok X G (c.fact 0 (f := .glo "is_number") rfl)), (FunD.bindsN F_is_number fun _ _ _ _ _ _ us hl => match us, hl with | [_], _ => rfl), _, fd_is_within, F_is_within, (He.glo_ok X G (c.fact 1 (f := .glo "is_within") rfl)), (FunD.bindsN F_is_within fun _ _ _ _ _ _ us hl => match us, hl with | [_, _, _], _ => rfl), _, fd_is_part, F_is_part, (He.glo_ok X G (c.fact 2 (f := .glo "is_part") rfl)), (FunD.bindsN F_is_part fun _ _ _ _ _ _ us hl => match us, hl with | [_], _ => rfl), _, fd_sides_of, F_sides_of, (He.glo_ok X G (c.fact 3 (f := .glo "sides_of") rfl)), (FunD.bindsN F_sides_of fun _ _ _ _ _ _ us hl => match us, hl with | [_], _ => rfl), _, fd_is_formula, F_is_formula, (He.glo_ok X G (c.fact 4 (f := .glo "is_formula") rfl)), (FunD.bindsN F_is_formula fun _ _ _ _ _ _ us hl => match us, hl with | [_], _ => rfl), _, fd__law_box, F__law_box, (He.glo_ok X G (c.fact 5 (f := .glo "_law_box") rfl)), (FunD.bindsN F__law_box fun _ _ _ _ _ _ us hl => match us, hl with | [_, _], _ => rfl), _, fd__law_take, F__law_take, (He.glo_ok X G (c.fact 6 (f := .glo "_law_take") rfl)), (FunD.bindsN F__law_take fun _ _ _ _ _ _ us hl => match us, hl with | [_, _], _ => rfl), _, fd__law_folded, F__law_folded, (He.glo_ok X G (c.fact 7 (f := .glo "_law_folded") rfl)), (FunD.bindsN F__law_folded fun _ _ _ _ _ _ us hl => match us, hl with | [_, _], _ => rfl), _, fd__law_formula, F__law_formula, (He.glo_ok X G (c.fact 8 (f := .glo "_law_formula") rfl)), (FunD.bindsN F__law_formula fun _ _ _ _ _ _ us hl => match us, hl with | [_, _, _, _], _ => rfl), _, fd__law_any, F__law_any, (He.glo_ok X G (c.fact 9 (f := .glo "_law_any") rfl)), (FunD.bindsN F__law_any fun _ _ _ _ _ _ us hl => match us, hl with | [_], _ => rfl), _, fd__law_measure, F__law_measure, (He.glo_ok X G (c.fact 10 (f := .glo "_law_measure") rfl)), (FunD.bindsN F__law_measure fun _ _ _ _ _ _ us hl => match us, hl with | [_], _ => rfl), _, fd__law_is_right, F__law_is_right, (He.glo_ok X G (c.fact 11 (f := .glo "_law_is_right") rfl)), (FunD.bindsN F__law_is_right fun _ _ _ _ _ _ us hl => match us, hl with | [_], _ => rfl), _, fd__law_odd, F__law_odd, (He.glo_ok X G (c.fact 12 (f := .glo "_law_odd") rfl)), (FunD.bindsN F__law_odd fun _ _ _ _ _ _ us hl => match us, hl with | [_], _ => rfl), _, fd__law_otherwise, F__law_otherwise, (He.glo_ok X G (c.fact 13 (f := .glo "_law_otherwise") rfl)), (FunD.bindsN F__law_otherwise fun _ _ _ _ _ _ us hl => match us, hl with | [_, _], _ => rfl), _, fd__law_asked, F__law_asked, (He.glo_ok X G (c.fact 14 (f := .glo "_law_asked") rfl)), (FunD.bindsN F__law_asked fun _ _ _ _ _ _ us hl => match us, hl with | [_], _ => rfl), _, fd_law, F_law, (He.glo_ok X G (c.fact 15 (f := .glo "law") rfl)), (FunD.bindsN F_law fun _ _ _ _ _ _ us hl => match us, hl with | [_], _ => rfl), _, (He.glo_ok X G (c.fact 30 (f := .glo "SIDES") rfl)), rfl, (He.free_ok X G (c.fact 16 (f := .free "abs") rfl)), (He.free_ok X G (c.fact 17 (f := .free "bool") rfl)), (He.free_ok X G (c.fact 18 (f := .free "divmod") rfl)), (He.free_ok X G (c.fact 19 (f := .free "enumerate") rfl)), (He.free_ok X G (c.fact 20 (f := .free "int") rfl)), (He.free_ok X G (c.fact 21 (f := .free "isinstance") rfl)), (He.free_ok X G (c.fact 22 (f := .free "len") rfl)), (He.free_ok X G (c.fact 23 (f := .free "list") rfl)), (He.free_ok X G (c.fact 24 (f := .free "max") rfl)), (He.free_ok X G (c.fact 25 (f := .free "range") rfl)), (He.free_ok X G (c.fact 26 (f := .free "repr") rfl)), (He.free_ok X G (c.fact 27 (f := .free "str") rfl)), (He.free_ok X G (c.fact 28 (f := .free "sum") rfl)), (He.free_ok X G (c.fact 29 (f := .free "tuple") rfl)), (He.int_ok X G (c.fact 31 (f := .int "GREATEST_INPUT" 5) rfl)), (He.int_ok X G (c.fact 32 (f := .int "MOST_PARTS" 24) rfl)), (He.int_ok X G (c.fact 33 (f := .int "DEEPEST" 8) rfl))⟩
  exact ⟨fd_law, sp_law T, fun s v => b s [v] rfl, fun H a ns hl _ hS => ⟨a, ns, rfl, hS, hl, trivial, fun _ => rfl⟩, fun base _ _ => ok_law T⟩
end Fq
open PySem PySem.W PySem.Calls PyProof.Rows
set_option maxHeartbeats 0 in
theorem PySem.Challenge.cw_shareones_k33_formulas_or_not_holds : PySem.Challenge.rw_shareones_k33_formulas_or_not.Holds := by
  w_on; o_law
  refine HandSHeadRun.head_any (r := OpenLaw.row PySem.Challenge.rw_shareones_k33_formulas_or_not) (q := view (OpenLaw.row PySem.Challenge.rw_shareones_k33_formulas_or_not).prog [22]) (H := Fq.hk) (ob := Fq.ob) (M := 6000) (loose := Fq.loose) (d := HandSHeadRun.topDef (OpenLaw.row PySem.Challenge.rw_shareones_k33_formulas_or_not).prog 22) (kwd := []) Fq.ob_eq
    (by kernel_rfl) (fun s => by kernel_rfl) Fq.run (by kernel_rfl) (by kernel_rfl) (by kernel_rfl) (by rfl) (by first | assumption | decide +kernel) (by decide +kernel) ⟨rfl, rfl, rfl, rfl, rfl, by decide +kernel⟩ ?hw ?hc
  case hw => w_witness2
  case hc =>
    refine Fq.walk_ofG (l := PySem.Challenge.rw_shareones_k33_formulas_or_not) (n := 63) (k := 20) (x := "_law_script") rfl (by decide) (by kernel_rfl) ⟨rfl, by decide, by decide⟩ ?F
    intro w mg fa h Y G hmg0
    obtain ⟨K, KX, c⟩ := Y
    have hmg : mg ("law" : PySem.Str) = some (.ref fa) := by
      have e : (HandSHeadRun.topDef (OpenLaw.row PySem.Challenge.rw_shareones_k33_formulas_or_not).prog 22).name = ("law" : PySem.Str) := by kernel_rfl
      rw [← e]
      exact hmg0
    obtain ⟨fd, sp, a1, a2, a3⟩ := Fq.facts (l := PySem.Challenge.rw_shareones_k33_formulas_or_not) KX G hmg c
    exact ⟨K, fd, sp, KX, a1, a2, a3⟩
