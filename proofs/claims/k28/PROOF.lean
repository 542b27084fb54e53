import PyProof.Rows.All
import Wide.All
import OpenK.AllK
import Wide.FinOn
import KE.KStateDown
import Lean
import HandS.ForMost
import HandS.Wide
import HandS.WideBits
import HandS.IsInst
import HandS.Walk
import HandS.Evl
import HandS.Style
import HandS.NoneIn
import HandS.Defaults
import HandS.Head0
import HandS.Head1
import HandS.Head2
import HandS.HeadEnd
import HandS.HeadHook1
import HandS.HeadHook2
import HandS.AnyAll
import HandS.TupAny
import HandS.TupMul
import HandS.Zip
import HandS.HeadHook3
import HandS.HeadHook4
import HandS.HeadWalk
import HandS.EndTab
import PyProof.TupleOfGen
import KE.KNest
import KE.KDictWalk
import HandS.Set
import HandS.Strs
import KE.GoesSet
import KE.GoesMore
import KE.GoesZip
import KE.GoesEnum
import PyProof.GenCompT
import PySem.Challenge.RW_shareones_k28_the_worst_stretch
set_option Elab.async false
set_option linter.all false
set_option maxRecDepth 100000
set_option maxHeartbeats 4000000
namespace Fq
open PySem PySem.Spec PyProof.Rows L2
section
variable {P : Program} {w : World} {K : PySem.W.Frag} {mg : Str → Option Value} {base : Heap}
def topS (i : Nat) : Stmt := PySem.Challenge.pw_shareones_k28_the_worst_stretch.main.body.getD i (.Pass ⟨0, 0, 0, 0⟩)
abbrev FnP (K : PySem.W.Frag) (x : Str) (st : Stmt) (f : Addr) (fd : FuncData) : Prop := FunD K x x (defArgs st) (defBody st) (defScope st) [] [] f fd
abbrev s_common_divisor : Stmt := topS 1
abbrev N_common_divisor : List Str := ["one", "other"]
theorem sc_common_divisor : FnScope N_common_divisor ["one", "other"] (defScope s_common_divisor) := ⟨rfl, rfl, rfl, by decide +kernel, rfl, by decide +kernel, by decide +kernel⟩
abbrev s_fraction : Stmt := topS 2
abbrev N_fraction : List Str := ["top", "bottom", "divisor"]
theorem sc_fraction : FnScope N_fraction ["top", "bottom"] (defScope s_fraction) := ⟨rfl, rfl, rfl, by decide +kernel, rfl, by decide +kernel, by decide +kernel⟩
abbrev s_ones : Stmt := topS 4
abbrev N_ones : List Str := ["row"]
theorem sc_ones : FnScope N_ones ["row"] (defScope s_ones) := ⟨rfl, rfl, rfl, by decide +kernel, rfl, by decide +kernel, by decide +kernel⟩
abbrev s_offs_by : Stmt := topS 6
abbrev N_offs_by : List Str := ["row", "many", "length", "offs", "bit"]
theorem sc_offs_by : FnScope N_offs_by ["row", "many", "length"] (defScope s_offs_by) := ⟨rfl, rfl, rfl, by decide +kernel, rfl, by decide +kernel, by decide +kernel⟩
abbrev s_offs_of : Stmt := topS 7
abbrev N_offs_of : List Str := ["row"]
theorem sc_offs_of : FnScope N_offs_of ["row"] (defScope s_offs_of) := ⟨rfl, rfl, rfl, by decide +kernel, rfl, by decide +kernel, by decide +kernel⟩
abbrev s_worst_stretch : Stmt := topS 8
abbrev N_worst_stretch : List Str := ["row", "offs", "least", "greatest", "begin", "end"]
theorem sc_worst_stretch : FnScope N_worst_stretch ["row"] (defScope s_worst_stretch) := ⟨rfl, rfl, rfl, by decide +kernel, rfl, by decide +kernel, by decide +kernel⟩
abbrev s__law_box : Stmt := topS 10
abbrev N__law_box : List Str := ["_law_script", "_law_k", "_law_cell"]
theorem sc__law_box : FnScope N__law_box ["_law_script", "_law_k"] (defScope s__law_box) := ⟨rfl, rfl, rfl, by decide +kernel, rfl, by decide +kernel, by decide +kernel⟩
abbrev s__law_take : Stmt := topS 11
abbrev N__law_take : List Str := ["_law_box_here", "_law_many", "_law_found", "_law_once"]
theorem sc__law_take : FnScope N__law_take ["_law_box_here", "_law_many"] (defScope s__law_take) := ⟨rfl, rfl, rfl, by decide +kernel, rfl, by decide +kernel, by decide +kernel⟩
abbrev s__law_folded : Stmt := topS 12
abbrev N__law_folded : List Str := ["_law_script", "_law_many", "_law_cells", "_law_k", "_law_cell"]
theorem sc__law_folded : FnScope N__law_folded ["_law_script", "_law_many"] (defScope s__law_folded) := ⟨rfl, rfl, rfl, by decide +kernel, rfl, by decide +kernel, by decide +kernel⟩
abbrev s__law_row : Stmt := topS 13
abbrev N__law_row : List Str := ["_law_box_here", "_law_many", "_law_way", "_law_count", "_law_step", "_law_first", "_law_k"]
theorem sc__law_row : FnScope N__law_row ["_law_box_here", "_law_many"] (defScope s__law_row) := ⟨rfl, rfl, rfl, by decide +kernel, rfl, by decide +kernel, by decide +kernel⟩
abbrev s__law_lowest : Stmt := topS 14
abbrev N__law_lowest : List Str := ["_law_top", "_law_bottom", "_law_one", "_law_other"]
theorem sc__law_lowest : FnScope N__law_lowest ["_law_top", "_law_bottom"] (defScope s__law_lowest) := ⟨rfl, rfl, rfl, by decide +kernel, rfl, by decide +kernel, by decide +kernel⟩
abbrev s__law_right : Stmt := topS 15
abbrev N__law_right : List Str := ["_law_row_here", "_law_many", "_law_long", "_law_best", "_law_twice", "_law_begin", "_law_count", "_law_end", "_law_turn", "_law_found", "_law_part"]
theorem sc__law_right : FnScope N__law_right ["_law_row_here"] (defScope s__law_right) := ⟨rfl, rfl, rfl, by decide +kernel, rfl, by decide +kernel, by decide +kernel⟩
abbrev s__law_off : Stmt := topS 16
abbrev N__law_off : List Str := ["_law_twice", "_law_begin", "_law_many", "_law_long", "_law_count", "_law_best", "_law_n"]
theorem sc__law_off : FnScope N__law_off ["_law_twice", "_law_begin", "_law_many", "_law_long"] (defScope s__law_off) := ⟨rfl, rfl, rfl, by decide +kernel, rfl, by decide +kernel, by decide +kernel⟩
abbrev s__law_long_right : Stmt := topS 17
abbrev N__law_long_right : List Str := ["_law_row_here", "_law_many", "_law_long", "_law_offs", "_law_bit", "_law_ends_of_it", "_law_greatest", "_law_off_here", "_law_begin", "_law_end", "_law_ahead", "_law_one", "_law_place"]
theorem sc__law_long_right : FnScope N__law_long_right ["_law_row_here"] (defScope s__law_long_right) := ⟨rfl, rfl, rfl, by decide +kernel, rfl, by decide +kernel, by decide +kernel⟩
abbrev s_law : Stmt := topS 18
abbrev N_law : List Str := ["_law_script", "_law_cells", "_law_k", "_law_box_here", "_law_turn", "_law_many"]
theorem sc_law : FnScope N_law ["_law_script"] (defScope s_law) := ⟨rfl, rfl, rfl, by decide +kernel, rfl, by decide +kernel, by decide +kernel⟩
structure Defs (K : PySem.W.Frag) (mg : Str → Option Value) where
  f_common_divisor : Addr
  fd_common_divisor : FuncData
  F_common_divisor : FnP K "common_divisor" s_common_divisor f_common_divisor fd_common_divisor
  g_common_divisor : mg "common_divisor" = some (.ref f_common_divisor)
  b_common_divisor : Binds K fd_common_divisor ["one", "other"] []
  f_fraction : Addr
  fd_fraction : FuncData
  F_fraction : FnP K "fraction" s_fraction f_fraction fd_fraction
  g_fraction : mg "fraction" = some (.ref f_fraction)
  b_fraction : Binds K fd_fraction ["top", "bottom"] []
  f_ones : Addr
  fd_ones : FuncData
  F_ones : FnP K "ones" s_ones f_ones fd_ones
  g_ones : mg "ones" = some (.ref f_ones)
  b_ones : Binds K fd_ones ["row"] []
  f_offs_by : Addr
  fd_offs_by : FuncData
  F_offs_by : FnP K "offs_by" s_offs_by f_offs_by fd_offs_by
  g_offs_by : mg "offs_by" = some (.ref f_offs_by)
  b_offs_by : Binds K fd_offs_by ["row", "many", "length"] []
  f_offs_of : Addr
  fd_offs_of : FuncData
  F_offs_of : FnP K "offs_of" s_offs_of f_offs_of fd_offs_of
  g_offs_of : mg "offs_of" = some (.ref f_offs_of)
  b_offs_of : Binds K fd_offs_of ["row"] []
  f_worst_stretch : Addr
  fd_worst_stretch : FuncData
  F_worst_stretch : FnP K "worst_stretch" s_worst_stretch f_worst_stretch fd_worst_stretch
  g_worst_stretch : mg "worst_stretch" = some (.ref f_worst_stretch)
  b_worst_stretch : Binds K fd_worst_stretch ["row"] []
  f__law_box : Addr
  fd__law_box : FuncData
  F__law_box : FnP K "_law_box" s__law_box f__law_box fd__law_box
  g__law_box : mg "_law_box" = some (.ref f__law_box)
  b__law_box : Binds K fd__law_box ["_law_script", "_law_k"] []
  f__law_take : Addr
  fd__law_take : FuncData
  F__law_take : FnP K "_law_take" s__law_take f__law_take fd__law_take
  g__law_take : mg "_law_take" = some (.ref f__law_take)
  b__law_take : Binds K fd__law_take ["_law_box_here", "_law_many"] []
  f__law_folded : Addr
  fd__law_folded : FuncData
  F__law_folded : FnP K "_law_folded" s__law_folded f__law_folded fd__law_folded
  g__law_folded : mg "_law_folded" = some (.ref f__law_folded)
  b__law_folded : Binds K fd__law_folded ["_law_script", "_law_many"] []
  f__law_row : Addr
  fd__law_row : FuncData
  F__law_row : FnP K "_law_row" s__law_row f__law_row fd__law_row
  g__law_row : mg "_law_row" = some (.ref f__law_row)
  b__law_row : Binds K fd__law_row ["_law_box_here", "_law_many"] []
  f__law_lowest : Addr
  fd__law_lowest : FuncData
  F__law_lowest : FnP K "_law_lowest" s__law_lowest f__law_lowest fd__law_lowest
  g__law_lowest : mg "_law_lowest" = some (.ref f__law_lowest)
  b__law_lowest : Binds K fd__law_lowest ["_law_top", "_law_bottom"] []
  f__law_right : Addr
  fd__law_right : FuncData
  F__law_right : FnP K "_law_right" s__law_right f__law_right fd__law_right
  g__law_right : mg "_law_right" = some (.ref f__law_right)
  b__law_right : Binds K fd__law_right ["_law_row_here"] []
  f__law_off : Addr
  fd__law_off : FuncData
  F__law_off : FnP K "_law_off" s__law_off f__law_off fd__law_off
  g__law_off : mg "_law_off" = some (.ref f__law_off)
  b__law_off : Binds K fd__law_off ["_law_twice", "_law_begin", "_law_many", "_law_long"] []
  f__law_long_right : Addr
  fd__law_long_right : FuncData
  F__law_long_right : FnP K "_law_long_right" s__law_long_right f__law_long_right fd__law_long_right
  g__law_long_right : mg "_law_long_right" = some (.ref f__law_long_right)
  b__law_long_right : Binds K fd__law_long_right ["_law_row_here"] []
  f_law : Addr
  fd_law : FuncData
  F_law : FnP K "law" s_law f_law fd_law
  g_law : mg "law" = some (.ref f_law)
  b_law : Binds K fd_law ["_law_script"] []
  m_abs : mg "abs" = none
  m_any : mg "any" = none
  m_bool : mg "bool" = none
  m_divmod : mg "divmod" = none
  m_enumerate : mg "enumerate" = none
  m_int : mg "int" = none
  m_isinstance : mg "isinstance" = none
  m_len : mg "len" = none
  m_list : mg "list" = none
  m_max : mg "max" = none
  m_min : mg "min" = none
  m_range : mg "range" = none
  m_sum : mg "sum" = none
  m_tuple : mg "tuple" = none
theorem bt_abs : bootBuiltins "abs" = some (.builtin "abs") := by decide +kernel
theorem bt_any : bootBuiltins "any" = some (.builtin "any") := by decide +kernel
theorem bt_bool : bootBuiltins "bool" = some (.type "bool") := by decide +kernel
theorem bt_divmod : bootBuiltins "divmod" = some (.builtin "divmod") := by decide +kernel
theorem bt_enumerate : bootBuiltins "enumerate" = some (.type "enumerate") := by decide +kernel
theorem bt_int : bootBuiltins "int" = some (.type "int") := by decide +kernel
theorem bt_isinstance : bootBuiltins "isinstance" = some (.builtin "isinstance") := by decide +kernel
theorem bt_len : bootBuiltins "len" = some (.builtin "len") := by decide +kernel
theorem bt_list : bootBuiltins "list" = some (.type "list") := by decide +kernel
theorem bt_max : bootBuiltins "max" = some (.builtin "max") := by decide +kernel
theorem bt_min : bootBuiltins "min" = some (.builtin "min") := by decide +kernel
theorem bt_range : bootBuiltins "range" = some (.type "range") := by decide +kernel
theorem bt_sum : bootBuiltins "sum" = some (.builtin "sum") := by decide +kernel
theorem bt_tuple : bootBuiltins "tuple" = some (.type "tuple") := by decide +kernel
def frT (t b : Int) : Int := (b.sign * t) / (Int.gcd t b : Int)
def frB (t b : Int) : Int := (b.natAbs : Int) / (Int.gcd t b : Int)
theorem fr_ex (t : Int) {b : Int} (hb : b ≠ 0) : ∃ (g : Nat) (x y : Int), 0 < g ∧ Int.gcd t b = g ∧ t = (g : Int) * x ∧ b = (g : Int) * y ∧ y ≠ 0 ∧ Int.gcd x y = 1 := by
  have hg : 0 < Int.gcd t b := Int.gcd_pos_of_ne_zero_right t hb
  obtain ⟨x, hx⟩ := Int.gcd_dvd_left t b
  obtain ⟨y, hy⟩ := Int.gcd_dvd_right t b
  refine ⟨Int.gcd t b, x, y, hg, rfl, hx, hy, fun e => hb (by rw [hy, e, Int.mul_zero]), ?_⟩
  generalize eg : Int.gcd t b = g at hg hx hy
  have e : g = g * Int.gcd x y := by
    rw [← eg]
    conv => lhs; rw [hx, hy, Int.gcd_mul_left]
    rw [Int.natAbs_natCast, eg]
  exact Nat.eq_of_mul_eq_mul_left hg (by rw [← e, Nat.mul_one])
theorem sgn {b : Int} {g : Nat} {y : Int} (hg : 0 < g) (hb : b = (g : Int) * y) : b.sign = y.sign := by
  rw [hb, Int.sign_mul, Int.sign_eq_one_of_pos (by omega), Int.one_mul]
theorem fr_vals {t b : Int} {g : Nat} {x y : Int} (hg : 0 < g) (eg : Int.gcd t b = g) (ht : t = (g : Int) * x) (hb : b = (g : Int) * y) : frT t b = y.sign * x ∧ frB t b = (y.natAbs : Int) := by
  have g0 : (g : Int) ≠ 0 := by omega
  constructor
  · unfold frT
    rw [eg, sgn hg hb, ht, show y.sign * ((g : Int) * x) = (g : Int) * (y.sign * x) by rw [Int.mul_left_comm]]
    exact Int.mul_ediv_cancel_left _ g0
  · unfold frB
    rw [eg, hb, Int.natAbs_mul, Int.natAbs_natCast, Int.natCast_mul]
    exact Int.mul_ediv_cancel_left _ g0
theorem sgn_abs {y : Int} (hy : y ≠ 0) : y.sign.natAbs = 1 := Int.natAbs_sign_of_ne_zero hy
theorem fr_pos (t : Int) {b : Int} (hb : b ≠ 0) : 0 < frB t b := by
  obtain ⟨g, x, y, hg, eg, ht, hy, hy0, h1⟩ := fr_ex t hb
  rw [(fr_vals hg eg ht hy).2]
  omega
theorem fr_gcd (t : Int) {b : Int} (hb : b ≠ 0) : Int.gcd (frT t b) (frB t b) = 1 := by
  obtain ⟨g, x, y, hg, eg, ht, hy, hy0, h1⟩ := fr_ex t hb
  rw [(fr_vals hg eg ht hy).1, (fr_vals hg eg ht hy).2]
  show Nat.gcd (y.sign * x).natAbs ((y.natAbs : Int)).natAbs = 1
  rw [Int.natAbs_mul, sgn_abs hy0, Nat.one_mul, Int.natAbs_natCast]
  exact h1
theorem fr_eq (t : Int) {b : Int} (hb : b ≠ 0) : frT t b * b = t * frB t b := by
  obtain ⟨g, x, y, hg, eg, ht, hy, hy0, h1⟩ := fr_ex t hb
  rw [(fr_vals hg eg ht hy).1, (fr_vals hg eg ht hy).2]
  rw [ht, hy]
  have e : y * y.sign = (y.natAbs : Int) := Int.mul_sign_self y
  rw [← e]
  simp only [Int.mul_comm, Int.mul_left_comm, Int.mul_assoc]
theorem fr_absT (t : Int) {b : Int} (hb : b ≠ 0) : (frT t b).natAbs ≤ t.natAbs := by
  obtain ⟨g, x, y, hg, eg, ht, hy, hy0, h1⟩ := fr_ex t hb
  rw [(fr_vals hg eg ht hy).1, ht, Int.natAbs_mul, sgn_abs hy0, Nat.one_mul, Int.natAbs_mul, Int.natAbs_natCast]
  exact Nat.le_mul_of_pos_left _ hg
theorem fr_absB (t : Int) {b : Int} (hb : b ≠ 0) : (frB t b).natAbs ≤ b.natAbs := by
  obtain ⟨g, x, y, hg, eg, ht, hy, hy0, h1⟩ := fr_ex t hb
  rw [(fr_vals hg eg ht hy).2, hy, Int.natAbs_mul, Int.natAbs_natCast, Int.natAbs_natCast]
  exact Nat.le_mul_of_pos_left _ hg
theorem fr_negT (t b : Int) : frT (-t) (-b) = frT t b := by
  unfold frT
  rw [Int.sign_neg, Int.neg_mul_neg, Int.gcd_neg, Int.neg_gcd]
theorem fr_negB (t b : Int) : frB (-t) (-b) = frB t b := by
  unfold frB
  rw [Int.natAbs_neg, Int.gcd_neg, Int.neg_gcd]
/-- what the program's two ways reckon -/
theorem fd_pos {g : Nat} {x : Int} (hg : 0 < g) : ((g : Int) * x).fdiv (g : Int) = x := by
  rw [Int.fdiv_eq_ediv_of_nonneg _ (by omega)]
  exact Int.mul_ediv_cancel_left _ (by omega)
theorem fd_neg {g : Nat} {x : Int} (hg : 0 < g) : ((g : Int) * x).fdiv (-(g : Int)) = -x := by
  rw [show (g : Int) * x = -(g : Int) * (-x) by rw [Int.neg_mul_neg]]
  exact Int.mul_fdiv_cancel_left _ (by omega)
theorem fr_lt (t : Int) {b : Int} (hb : b < 0) : t.fdiv (-(Int.gcd t b : Int)) = frT t b ∧ b.fdiv (-(Int.gcd t b : Int)) = frB t b := by
  obtain ⟨g, x, y, hg, eg, ht, hy, hy0, h1⟩ := fr_ex t (show b ≠ 0 by omega)
  rw [(fr_vals hg eg ht hy).1, (fr_vals hg eg ht hy).2, eg]
  have yn : y < 0 := by
    rw [hy] at hb
    exact Int.neg_of_mul_neg_right hb (by omega)
  constructor
  · conv => lhs; rw [ht]
    rw [fd_neg hg, Int.sign_eq_neg_one_of_neg yn]
    omega
  · conv => lhs; rw [hy]
    rw [fd_neg hg]
    omega
theorem fr_ge (t : Int) {b : Int} (hb : 0 < b) : t.fdiv (Int.gcd t b : Int) = frT t b ∧ b.fdiv (Int.gcd t b : Int) = frB t b := by
  obtain ⟨g, x, y, hg, eg, ht, hy, hy0, h1⟩ := fr_ex t (show b ≠ 0 by omega)
  rw [(fr_vals hg eg ht hy).1, (fr_vals hg eg ht hy).2, eg]
  have yn : 0 < y := by
    rw [hy] at hb
    exact Int.pos_of_mul_pos_right hb (by omega)
  constructor
  · conv => lhs; rw [ht]
    rw [fd_pos hg, Int.sign_eq_one_of_pos yn]
    omega
  · conv => lhs; rw [hy]
    rw [fd_pos hg]
    omega
/-! sizes -/
def S (n : Nat) (x : Int) : Prop := x.natAbs < 2 ^ n
theorem S.mono {n m : Nat} {x : Int} (h : S n x) (l : n ≤ m) : S m x := Nat.lt_of_lt_of_le h (Nat.pow_le_pow_right (by decide) l)
theorem S.mul {n m : Nat} {x y : Int} (h : S n x) (k : S m y) : S (n + m) (x * y) := by
  unfold S at *
  rw [Int.natAbs_mul, Nat.pow_add]
  exact Nat.mul_lt_mul'' h k
theorem S.add {n : Nat} {x y : Int} (h : S n x) (k : S n y) : S (n + 1) (x + y) := by
  unfold S at *
  rw [Nat.pow_succ]
  omega
theorem S.sub {n : Nat} {x y : Int} (h : S n x) (k : S n y) : S (n + 1) (x - y) := by
  unfold S at *
  rw [Nat.pow_succ]
  omega
theorem S.frT {n : Nat} {t b : Int} (h : S n t) (hb : b ≠ 0) : S n (frT t b) := Nat.lt_of_le_of_lt (fr_absT t hb) h
theorem S.frB {n : Nat} {t b : Int} (h : S n b) (hb : b ≠ 0) : S n (frB t b) := Nat.lt_of_le_of_lt (fr_absB t hb) h
theorem abs_eq (i : Int) : (if i < 0 then -i else i) = (i.natAbs : Int) := by
  split <;> omega
/-! the same rules with the written part by its name: for the inside of comprehensions -/
theorem pg_tupK {X : Cx} {K : PySem.W.Frag} {es : List Expr} {k n : Nat} {pos : Pos} {t : TGs} (h : X.K = K) (hc : X.calm = true) (hg : PGs X es t) (hn : (assignEach es X.env).length = n := by rfl) (hst : (assignEach es X.env).findIdx? (·.1) = none := by rfl) : PG X (.Tuple es k pos) (gTup K n t) := by
  subst h
  exact pg_tup hc hg hn hst
theorem isiK {X : Cx} {K : PySem.W.Frag} (h : X.K = K) : CallR X (.builtin "isinstance") (rIsi K) := by
  subst h
  exact call_isi
theorem ixlK {X : Cx} {K : PySem.W.Frag} (h : X.K = K) : IxR X (rIxL K) := by
  subst h
  exact ix_list
theorem ixtK {X : Cx} {K : PySem.W.Frag} (h : X.K = K) : IxR X (rIxT K) := by
  subst h
  exact ix_tup
theorem lenK {X : Cx} {K : PySem.W.Frag} (h : X.K = K) : CallR X (.builtin "len") (fun xs H Q => ∃ p ys, xs = [.ref p] ∧ (SqL K H p ys ∨ SqT K H p ys) ∧ Q (.int ys.length) H) := by
  subst h
  exact call_len_seq
theorem sumK {X : Cx} {K : PySem.W.Frag} (h : X.K = K) (hc : X.calm = true) : CallR X (.builtin "sum") (rSum K) := by
  subst h
  exact cr_sum hc
theorem yes_ite {σ : L2.St} {H : Hp} {A B : Hp → Prop} (h : A H) : tYes σ H (fun b H3 => if b = true then A H3 else B H3) := by
  show if true = true then A H else B H
  rw [if_pos rfl]
  exact h
/-! heaps -/
theorem same_upd {H : Hp} {p : Addr} {o : HO} (h : H p = none) : Same H (upd H p o) := fun b x e => by
  rw [upd_ne (ne_of_none e h)]
  exact e
def But (p : Addr) (H H' : Hp) : Prop := ∀ b o, b ≠ p → H b = some o → H' b = some o
theorem But.trans {p : Addr} {H H1 H2 : Hp} (a : But p H H1) (b : But p H1 H2) : But p H H2 := fun c o n e => b c o n (a c o n e)
theorem But.refl (p : Addr) (H : Hp) : But p H H := fun _ _ _ e => e
theorem But.put {p : Addr} {H H' : Hp} {o : HO} (a : But p H H') : But p H (L2.upd H' p o) := fun c x n e => by
  rw [upd_ne n]
  exact a c x n e
theorem same_but {p : Addr} {H H' : Hp} (a : Same H H') : But p H H' := fun c x _ e => a c x e
theorem But.new {p q : Addr} {H H' : Hp} {o : HO} (a : But p H H') (n : H' q = none) : But p H (upd H' q o) := fun c x hn e => by
  have e2 := a c x hn e
  rw [upd_ne (ne_of_none e2 n)]
  exact e2
/-- objects made since H may change: what H has stays -/
theorem same_newer {H H' : Hp} {q : Addr} {o : HO} (a : Same H H') (n : H q = none) : Same H (upd H' q o) := fun c x e => by
  rw [upd_ne (ne_of_none e n)]
  exact a c x e
theorem But.same {p : Addr} {H H1 H2 : Hp} (n : H p = none) (a : Same H H1) (b : But p H1 H2) : Same H H2 := fun c x e =>
  b c x (ne_of_none e n) (a c x e)
/-- the box: a rest, a begin, how often -/
def Bx (H : Hp) (p : Addr) (n : Nat) : Prop := ∃ a b c : Int, H p = some (.lst [.int a, .int b, .int c]) ∧ 0 ≤ a ∧ 0 ≤ b ∧ b < 2147483647 ∧ 0 ≤ c ∧ c ≤ n
theorem Bx.same {H H' : Hp} {p : Addr} {n : Nat} (h : Bx H p n) (s : Same H H') : Bx H' p n := by
  obtain ⟨a, b, c, hp, r⟩ := h
  exact ⟨a, b, c, s _ _ hp, r⟩
theorem Bx.mono {H : Hp} {p : Addr} {n m : Nat} (h : Bx H p n) (l : n ≤ m) : Bx H p m := by
  obtain ⟨a, b, c, hp, h1, h2, h3, h4, h5⟩ := h
  exact ⟨a, b, c, hp, h1, h2, h3, h4, by omega⟩
theorem Bx.new {H : Hp} {p q : Addr} {n : Nat} {o : HO} (h : Bx H p n) (nq : H q = none) : Bx (L2.upd H q o) p n := h.same (same_upd nq)
theorem Bx.ne_tup {H : Hp} {p q : Addr} {n : Nat} {xs : List V} (h : Bx H p n) (e : H q = some (.tup xs)) : q ≠ p := by
  obtain ⟨a, b, c, hp, _⟩ := h
  exact ne_of e hp (fun z => by cases z)
/-- an item of a menu of numbers -/
theorem at_menu {Pr : Int → Prop} {xs : List Int} {r : Int} (h0 : 0 ≤ r) (h1 : r < xs.length) (hx : ∀ x, x ∈ xs → Pr x) : ∃ v, atI (xs.map V.int) r = some (V.int v) ∧ Pr v := by
  obtain ⟨j, rfl⟩ := Int.eq_ofNat_of_zero_le h0
  have hj : j < xs.length := by omega
  refine ⟨xs[j], atI_nat (by rw [List.getElem?_map, List.getElem?_eq_getElem hj]; rfl), hx _ (List.getElem_mem hj)⟩
theorem SqL.mk {K : PySem.W.Frag} {H : Hp} {a : Addr} {xs : List V} (h : H a = some (.lst xs)) : SqL K H a xs := .inl (.inl h)
theorem SqT.mk {K : PySem.W.Frag} {H : Hp} {a : Addr} {xs : List V} (h : H a = some (.tup xs)) : SqT K H a xs := .inl (.inl h)
theorem same_tup {K : PySem.W.Frag} {H H' : Hp} {a : Addr} {xs : List V} (e : Same H H') (h : SqT K H a xs) : SqT K H' a xs := by
  rcases h with (h | ⟨o, h⟩) | h
  · exact .inl (.inl (e _ _ h))
  · exact .inl (.inr ⟨o, e _ _ h⟩)
  · exact .inr h
theorem ixn {n j : Nat} (hj : j < n) : ixN n (j : Int) = some j := by
  unfold ixN
  rw [if_pos (by omega), if_pos (by omega)]
  simp
theorem cdivP {a m : Int} (h0 : 0 < m) (h1 : m < 2 ^ 60) : CDivP a m := ⟨h0, PyProof.noPylong_of_log2 (wide_div (i := a) (b := 60) h0 (by omega) (by decide) (by decide)).2⟩
theorem i01 {c : Prop} [Decidable c] : -(2 ^ 64) < (if c then (1 : Int) else 0) ∧ (if c then (1 : Int) else 0) < 2 ^ 64 := by
  split <;> decide
theorem i01n {c : Prop} [Decidable c] : 0 ≤ (if c then (1 : Int) else 0) := by
  split <;> decide
theorem absn (i : Int) : 0 ≤ (if i < 0 then -i else i) := by
  split <;> omega
/-! the box of a cell -/
def sp__law_box (K : PySem.W.Frag) : Sp := fun vs H Q _ => ∃ (a : Addr) (ns : List Int) (k : Nat), vs = [.ref a, .int (k : Nat)] ∧ SqL K H a (ns.map V.int) ∧ k < 1000 ∧
  ∀ H' p, Same H H' → H p = none → Bx H' p 0 → Q (.ref p) H'
theorem ok__law_box (T : Defs K mg) : FnOk P w K mg base CX0 1 T.f__law_box T.fd__law_box ["_law_script", "_law_k"] (sp__law_box K) := by
  refine T.F__law_box.ok sc__law_box (fun vs H Q E h => ?_) (fun cdv A outer s H vs Q E hr h => ?_)
  · obtain ⟨a, ns, k, rfl, hS, hk, q⟩ := h
    rfl
  · obtain ⟨a, ns, k, rfl, hS, hk, q⟩ := h
    refine ⟨_, PSs.nox (pss_cons (ps_set (i := 2) sc__law_box.nd rfl (.inl rfl) pe_int)
    (pss_cons (ps_if (pt_cmpR op_lt (pv 1) (pe_callB call_len_seq (by rfl) T.m_len bt_len (pa_cons (pv 0) pa_nil)) (nomark _)) (pss_one (ps_set (i := 2) sc__law_box.nd rfl (.inl rfl) (pe_ix ix_list (pv 0) (pv 1) (fun _ _ => rfl)))) pss_nil)
    (pss_one (ps_ret (pe_lst (pa_cons (pe_op op_mul (pe_callB call_abs (by rfl) T.m_abs bt_abs (pa_cons (pv 2) pa_nil)) (pe_callTy call_int1 (by rfl) T.m_int bt_int (pa_cons (pe_cmpR op_ge (pe_callB call_abs (by rfl) T.m_abs bt_abs (pa_cons (pv 2) pa_nil)) (pe_op op_pow pe_int pe_int) (nomark _)) pa_nil))) (pa_cons (pe_op op_mod (pe_op op_add (pv 2) (pe_op op_mul (pe_op op_mul pe_int (pv 1)) (pv 1))) pe_int) (pa_cons pe_int pa_nil)))))))), ?_⟩
    refine ⟨.int k, rfl, .ref a, rfl, a, _, rfl, .inl hS, _, _, rfl, rfl, _, rfl, ite2 (fun e => ?_) (fun e => ?_)⟩
    · have hl : (k : Int) < ((ns.map V.int).length : Nat) := of_decide_eq_true e
      rw [List.length_map] at hl
      have hj : k < ns.length := by omega
      refine ⟨.ref a, rfl, .int k, rfl, a, _, _, .int ns[k], rfl, rfl, hS, atI_nat (by rw [List.getElem?_map, List.getElem?_eq_getElem hj]; rfl), ?_⟩
      refine ⟨_, rfl, _, rfl, _, rfl, _, rfl, _, _, rfl, rfl, ⟨by decide, by decide, by decide⟩, _, _, rfl, rfl, .inr ⟨_, rfl, _, _, rfl, rfl, .inr i01, _, rfl, .int k, rfl, _, _, rfl, rfl, .inl ⟨by decide, by decide⟩, .int k, rfl, _, _, rfl, rfl, .inr ⟨by omega, by omega⟩, _, _, rfl, rfl, _, _, rfl, rfl, (show (0 : Int) < 2147483647 by decide), (show 3 ≤ sizeLine by decide), fun p np => ?_⟩⟩
      refine q _ p (same_upd np) np ⟨_, _, _, upd_same, ?_, Int.emod_nonneg _ (by decide), Int.emod_lt_of_pos _ (by decide), Int.le_refl 0, Int.le_refl 0⟩
      exact Int.mul_nonneg (absn _) i01n
    · refine ⟨_, rfl, _, rfl, _, rfl, _, rfl, _, _, rfl, rfl, ⟨by decide, by decide, by decide⟩, _, _, rfl, rfl, .inr ⟨_, rfl, _, _, rfl, rfl, .inr i01, _, rfl, .int k, rfl, _, _, rfl, rfl, .inl ⟨by decide, by decide⟩, .int k, rfl, _, _, rfl, rfl, .inr ⟨by omega, by omega⟩, _, _, rfl, rfl, _, _, rfl, rfl, (show (0 : Int) < 2147483647 by decide), (show 3 ≤ sizeLine by decide), fun p np => ?_⟩⟩
      refine q _ p (same_upd np) np ⟨_, _, _, upd_same, ?_, Int.emod_nonneg _ (by decide), Int.emod_lt_of_pos _ (by decide), Int.le_refl 0, Int.le_refl 0⟩
      exact Int.mul_nonneg (absn _) i01n
/-! one number taken -/
def sp__law_take (K : PySem.W.Frag) : Sp := fun vs H Q _ => ∃ (p : Addr) (m : Int) (n : Nat), vs = [.ref p, .int m] ∧ Bx H p n ∧ 0 < m ∧ m < 2 ^ 60 ∧ n < 1000000000000 ∧
  ∀ H' r, But p H H' → Bx H' p (n + 1) → 0 ≤ r → r < m → Q (.int r) H'
theorem ok__law_take (T : Defs K mg) : FnOk P w K mg base CX0 1 T.f__law_take T.fd__law_take ["_law_box_here", "_law_many"] (sp__law_take K) := by
  refine T.F__law_take.ok sc__law_take (fun vs H Q E h => ?_) (fun cdv A outer s H vs Q E hr h => ?_)
  · obtain ⟨p, m, n, rfl, ⟨a, b, c, hp, ha, hb, hb2, hc, hc2⟩, h0, h1, hn, q⟩ := h
    rfl
  · obtain ⟨p, m, n, rfl, ⟨a, b, c, hp, ha, hb, hb2, hc, hc2⟩, h0, h1, hn, q⟩ := h
    refine ⟨_, PSs.nox (pss_cons (ps_if (pt_cmpR op_gt (pe_ix ix_list (pv 0) pe_int (fun _ _ => rfl)) pe_int (nomark _)) (pss_cons (ps_asg (pe_callB call_divmodW (by rfl) T.m_divmod bt_divmod (pa_cons (pe_ix ix_list (pv 0) pe_int (fun _ _ => rfl)) (pa_cons (pv 1) pa_nil))) (pg_tup rfl (pgs_cons (pg_sub (pv 0) pe_int set_list) (pgs_cons (pg_name (i := 2) sc__law_take.nd rfl (.inl rfl)) pgs_nil))))
    (pss_one (ps_ret (pv 2)))) pss_nil)
    (pss_cons (ps_asg (pe_op op_add (pe_ix ix_list (pv 0) pe_int (fun _ _ => rfl)) pe_int) (pg_sub (pv 0) pe_int set_list))
    (pss_cons (ps_set (i := 3) sc__law_take.nd rfl (.inl rfl) (pe_op op_mod (pe_op op_pow (pe_op op_add (pe_ix ix_list (pv 0) pe_int (fun _ _ => rfl)) (pe_op op_mul pe_int (pe_ix ix_list (pv 0) pe_int (fun _ _ => rfl)))) pe_int) pe_int))
    (pss_one (ps_ret (pe_op op_mod (pe_op op_fdiv (pe_op op_mod (pe_op op_add (pe_op op_mul (pv 3) pe_int) (pe_op op_mul (pe_op op_mul (pe_ix ix_list (pv 0) pe_int (fun _ _ => rfl)) (pe_ix ix_list (pv 0) pe_int (fun _ _ => rfl))) pe_int)) pe_int) pe_int) (pv 1))))))), ?_⟩
    have SQ : SqL K H p [.int a, .int b, .int c] := SqL.mk hp
    refine ⟨.ref p, rfl, p, _, 0, _, rfl, rfl, SQ, atI_nat (j := 0) rfl, _, _, rfl, rfl, _, rfl, ite2 (fun e => ?_) (fun e => ?_)⟩
    · refine ⟨.ref p, rfl, p, _, 0, _, rfl, rfl, SQ, atI_nat (j := 0) rfl, .int m, rfl, a, m, rfl, cdivP h0 h1, fun t nt => ?_⟩
      have hp1 : (upd H t (.tup [.int (a / m), .int (a % m)])) p = some (.lst [.int a, .int b, .int c]) := by
        rw [upd_ne (ne_of_none hp nt)]
        exact hp
      refine ⟨t, _, rfl, SqT.mk upd_same, rfl, _, _, rfl, .ref p, rfl, p, _, 0, 0, rfl, rfl, hp1, rfl, _, _, rfl, rfl, _, rfl, ?_⟩
      refine q _ _ ((But.refl p H).new nt).put ⟨_, _, _, upd_same, Int.ediv_nonneg ha (by omega), hb, hb2, hc, by omega⟩ (Int.emod_nonneg _ (by omega)) (Int.emod_lt_of_pos _ h0)
    · refine ⟨.ref p, rfl, p, _, 2, _, rfl, rfl, SQ, atI_nat (j := 2) rfl, _, _, rfl, rfl, .ref p, rfl, p, _, 2, 2, rfl, rfl, hp, rfl, ?_⟩
      have SQ1 : SqL K (upd H p (.lst [.int a, .int b, .int (c + 1)])) p [.int a, .int b, .int (c + 1)] := SqL.mk upd_same
      refine ⟨.ref p, rfl, p, _, 1, _, rfl, rfl, SQ1, atI_nat (j := 1) rfl, .ref p, rfl, p, _, 2, _, rfl, rfl, SQ1, atI_nat (j := 2) rfl, _, _, rfl, rfl, .inl ⟨by decide, by decide⟩, _, _, rfl, rfl, _, _, rfl, rfl, ⟨by decide, by decide, by omega⟩, _, _, rfl, rfl, (show (0 : Int) < 2147483647 by decide), ?_⟩
      refine ⟨_, rfl, _, _, rfl, rfl, .inr ⟨by decide, by decide⟩, .ref p, rfl, p, _, 2, _, rfl, rfl, SQ1, atI_nat (j := 2) rfl, .ref p, rfl, p, _, 2, _, rfl, rfl, SQ1, atI_nat (j := 2) rfl, _, _, rfl, rfl, .inl ⟨by omega, by omega⟩, _, _, rfl, rfl, .inr ⟨by decide, by decide⟩, _, _, rfl, rfl, _, _, rfl, rfl, (show (0 : Int) < 2147483629 by decide), _, _, rfl, rfl, ⟨by decide, by decide⟩, .int m, rfl, _, _, rfl, rfl, h0, ?_⟩
      refine q _ _ (But.refl p H).put ⟨_, _, _, upd_same, ha, hb, hb2, by omega, by omega⟩ (Int.emod_nonneg _ (by omega)) (Int.emod_lt_of_pos _ h0)
/-! the folded cells -/
theorem cut_take (ns : List Int) (m : Nat) : cutV (ns.map V.int) none (some (m : Int)) = (ns.take m).map V.int := by
  unfold cutV
  rw [HT.sIx_none, HT.sIx_nat, List.drop_zero, List.length_map, Nat.sub_zero, ← List.map_take]
  congr 1
  by_cases h : m ≤ ns.length
  · rw [Nat.min_eq_left h]
  · rw [Nat.min_eq_right (by omega), List.take_length, List.take_of_length_le (by omega)]
theorem cut_rest (ns : List Int) (m k : Nat) : ∃ ms : List Int, cutV (ns.map V.int) (some (m : Int)) (some (k : Int)) = ms.map V.int ∧ (0 < ms.length → m < ns.length) ∧ ms.length ≤ ns.length := by
  unfold cutV
  rw [HT.sIx_nat, HT.sIx_nat, List.length_map]
  refine ⟨(ns.drop (min m ns.length)).take (min k ns.length - min m ns.length), ?_, fun h => ?_, ?_⟩
  · rw [List.map_take, List.map_drop]
  · rw [List.length_take, List.length_drop] at h
    omega
  · rw [List.length_take, List.length_drop]
    omega
def sp__law_folded (K : PySem.W.Frag) : Sp := fun vs H Q _ => ∃ (a : Addr) (ns : List Int) (m : Nat), vs = [.ref a, .int (m : Nat)] ∧ SqL K H a (ns.map V.int) ∧ ns.length ≤ 63 ∧ 0 < m ∧ m < 64 ∧
  ∀ H' p (cs : List Int), Same H H' → H p = none → H' p = some (.lst (cs.map V.int)) → cs.length ≤ m → Q (.ref p) H'
theorem ok__law_folded (T : Defs K mg) : FnOk P w K mg base CX0 1 T.f__law_folded T.fd__law_folded ["_law_script", "_law_many"] (sp__law_folded K) := by
  refine T.F__law_folded.ok sc__law_folded (fun vs H Q E h => ?_) (fun cdv A outer s H vs Q E hr h => ?_)
  · obtain ⟨a, ns, m, rfl, hS, hlen, hm, hm2, q⟩ := h
    rfl
  · obtain ⟨a, ns, m, rfl, hS, hlen, hm, hm2, q⟩ := h
    refine ⟨_, PSs.nox (pss_cons (ps_set (i := 2) sc__law_folded.nd rfl (.inl rfl) (pe_callTy call_list_of (by rfl) T.m_list bt_list (pa_cons (pe_slice sl_list (pv 0) po_none (po_some (pv 1))) pa_nil)))
    (pss_cons (ps_for PassesOwn.never rfl (pi_enum (by rfl) T.m_enumerate (pa_cons (pe_slice sl_list (pv 0) (po_some (pv 1)) (po_some pe_int)) pa_nil)) (pg_tup rfl (pgs_cons (pg_name (i := 3) sc__law_folded.nd rfl (.inl rfl)) (pgs_cons (pg_name (i := 4) sc__law_folded.nd rfl (.inl rfl)) pgs_nil))) (pss_one (ps_asg (pe_op op_add (pe_ix ix_list (pv 2) (pe_op op_mod (pv 3) (pv 1)) (fun _ _ => rfl)) (pe_op op_mul (pv 4) (pe_op op_add (pv 3) pe_int))) (pg_sub (pv 2) (pe_op op_mod (pv 3) (pv 1)) set_list))))
    (pss_one (ps_ret (pv 2))))), ?_⟩
    refine ⟨.ref a, rfl, .int m, rfl, m, rfl, a, _, rfl, hS, fun c nc => ?_⟩
    rw [cut_take]
    have s1 : Same H (upd H c (.lst ((ns.take m).map V.int))) := same_upd nc
    refine ⟨c, _, rfl, .inl (SqL.mk upd_same), fun l nl => ?_⟩
    have s2 := s1.trans (same_upd nl (o := .lst ((ns.take m).map V.int)))
    refine ⟨.ref a, rfl, .int m, rfl, m, rfl, 63, rfl, a, _, rfl, s2.seq hS, fun d nd => ?_⟩
    obtain ⟨ms, em, hms, hms2⟩ := cut_rest ns m 63
    rw [show (63 : Int) = ((63 : Nat) : Int) from rfl, em]
    have nl0 : H l = none := s1.free nl
    have nd0 : H d = none := s2.free nd
    have ndl : l ≠ d := fun e => by
      rw [← e, upd_same] at nd
      cases nd
    refine ⟨d, _, rfl, SqL.mk upd_same, for_it (walk_enum (xs := ms.map V.int)) (fun i σ H3 => ∃ y3 y4, ∃ cs : List Int, σ = [some (.ref a), some (.int m), some (.ref l), y3, y4] ∧ Same H H3 ∧ H3 l = some (.lst (cs.map V.int)) ∧ cs.length = (ns.take m).length ∧ H3 d = some (.lst (ms.map V.int))) ⟨none, none, ns.take m, rfl, s2.trans (same_upd nd), ?_, rfl, upd_same⟩ ?_ ?_ ?_⟩
    · rw [upd_ne ndl, upd_same]
    · rintro i σ H3 hi ⟨y3, y4, cs, rfl, s3, hl, hc, hd⟩
      exact SqL.mk hd
    · rintro i x σ H3 H4 hi ⟨y3, y4, cs, rfl, s3, hl, hc, hd⟩ ⟨t, x1, x2, rfl, nt, rfl, e1, e2⟩
      rw [List.length_map] at hi
      have lm : m < ns.length := hms (by omega)
      have lc : cs.length = m := by
        rw [hc, List.length_take]
        omega
      have ex1 : x1 = .int (i : Nat) := (Option.some.inj e1).symm
      have ex2 : x2 = .int ms[i] := by
        have e2 : (ms.map V.int)[i]? = some x2 := e2
        rw [List.getElem?_map, List.getElem?_eq_getElem hi] at e2
        exact (Option.some.inj e2).symm
      subst ex1 ex2
      have hl1 : (upd H3 t (.tup [.int (i : Nat), .int ms[i]])) l = some (.lst (cs.map V.int)) := by
        rw [upd_ne (ne_of_none hl nt)]
        exact hl
      have him : i % m < cs.length := by
        rw [lc]
        exact Nat.mod_lt _ hm
      have eim : ((i : Int) % (m : Int)) = ((i % m : Nat) : Int) := by omega
      refine ⟨t, _, rfl, SqT.mk upd_same, rfl, _, _, rfl, _, _, rfl, rfl, ?_⟩
      refine ⟨.ref l, rfl, .int (i : Nat), rfl, .int m, rfl, _, _, rfl, rfl, (show (0 : Int) < (m : Int) by omega), l, _, _, .int cs[i % m], rfl, rfl, SqL.mk hl1, ?_, .int ms[i], rfl, .int (i : Nat), rfl, _, _, rfl, rfl, _, _, rfl, rfl, .inr ⟨by omega, by omega⟩, _, _, rfl, rfl, .ref l, rfl, .int (i : Nat), rfl, .int m, rfl, _, _, rfl, rfl, (show (0 : Int) < (m : Int) by omega), l, _, _, i % m, rfl, rfl, hl1, ?_, ?_⟩
      · rw [eim]
        exact atI_nat (by rw [List.getElem?_map, List.getElem?_eq_getElem him]; rfl)
      · rw [eim]
        exact ixn (by rw [List.length_map]; exact him)
      · refine ⟨_, _, cs.set (i % m) (cs[i % m] + ms[i] * ((i : Int) + 2)), rfl, same_newer (s3.trans (same_upd nt)) nl0, ?_, by rw [List.length_set, hc], ?_⟩
        · rw [upd_same, List.map_set]
        · rw [upd_ne ndl.symm, upd_ne (ne_of_none hd nt)]
          exact hd
    · rintro σ H3 ⟨y3, y4, cs, rfl, s3, hl, hc, hd⟩
      exact ⟨.ref l, rfl, q H3 l cs s3 nl0 hl (by rw [hc, List.length_take]; omega)⟩
/-! the program's own -/
theorem op_fdivNW {X : Cx} : OpR X (binaryOp .FloorDiv) (rI (fun _ j => j ≠ 0 ∧ j.natAbs.log2 < 9000) fun i j => .int (i.fdiv j)) := opI fun _ _ _ _ _ _ _ hc q => floordiv_int hc.1 q (.inl (PyProof.noPylong_of_log2 hc.2))
theorem gcd_step (x y : Nat) : Nat.gcd y (x % y) = Nat.gcd x y := by
  rw [Nat.gcd_comm y, ← Nat.gcd_rec, Nat.gcd_comm]
theorem gcd_small {t b : Int} (hb : b ≠ 0) (h : S 4000 b) : (Int.gcd t b : Int).natAbs.log2 < 9000 := by
  have h1 : Int.gcd t b ≤ b.natAbs := Nat.le_of_dvd (by omega) (Nat.gcd_dvd_right _ _)
  have h2 : 0 < Int.gcd t b := Int.gcd_pos_of_ne_zero_right t hb
  exact (wide_div (i := 0) (j := (Int.gcd t b : Int)) (b := 4000) (by omega) (by rw [Int.natAbs_natCast]; exact Nat.lt_of_le_of_lt h1 h) (by decide) (by decide)).2
def sp_common_divisor (_ : PySem.W.Frag) : Sp := fun vs H Q _ => ∃ a b : Int, vs = [.int a, .int b] ∧ Q (.int (if (1 : Int) > (Int.gcd a b : Int) then 1 else (Int.gcd a b : Int))) H
theorem ok_common_divisor (T : Defs K mg) : FnOk P w K mg base CX0 1 T.f_common_divisor T.fd_common_divisor ["one", "other"] (sp_common_divisor K) := by
  refine T.F_common_divisor.ok sc_common_divisor (fun vs H Q E h => ?_) (fun cdv A outer s H vs Q E hr h => ?_)
  · obtain ⟨a, b, rfl, q⟩ := h
    rfl
  · obtain ⟨a, b, rfl, q⟩ := h
    refine ⟨_, PSs.nox (pss_cons (ps_set (i := 0) sc_common_divisor.nd rfl (.inl rfl) (pe_callB call_abs (by rfl) T.m_abs bt_abs (pa_cons (pv 0) pa_nil)))
    (pss_cons (ps_set (i := 1) sc_common_divisor.nd rfl (.inl rfl) (pe_callB call_abs (by rfl) T.m_abs bt_abs (pa_cons (pv 1) pa_nil)))
    (pss_cons (ps_while PassesOwn.never (pt_cmpR op_gt (pv 1) pe_int (nomark _)) (pss_one (ps_par (i := 0) (j := 1) (by rfl) sc_common_divisor.nd rfl rfl (by decide) rfl rfl (pa_cons (pv 1) (pa_cons (pe_op op_mod (pv 0) (pv 1)) pa_nil)) (by rfl))))
    (pss_one (ps_ret (pe_callB (call_max2 rfl) (by rfl) T.m_max bt_max (pa_cons (pv 0) (pa_cons pe_int pa_nil)))))))), ?_⟩
    refine ⟨.int a, rfl, a, rfl, .int b, rfl, b, rfl, ?_⟩
    refine while_by (fun σ H1 => H1 = H ∧ ∃ x y : Nat, σ = [some (.int (x : Nat)), some (.int (y : Nat))] ∧ Nat.gcd x y = Int.gcd a b) (fun σ _ => match σ with | [_, some (.int y)] => y.toNat | _ => 0) ⟨rfl, a.natAbs, b.natAbs, ?_, rfl⟩ ?_ ?_
    · rw [abs_eq, abs_eq]
      rfl
    · rintro σ H1 ⟨rfl, x, y, rfl, hg⟩
      refine ⟨.int (y : Nat), rfl, _, _, rfl, rfl, _, rfl, ite2 (fun e => ?_) (fun e => ?_)⟩
      · have hy : (0 : Int) < (y : Int) := of_decide_eq_true e
        refine ⟨.int (y : Nat), rfl, .int (x : Nat), rfl, .int (y : Nat), rfl, _, _, rfl, rfl, hy, _, _, rfl, ⟨rfl, y, x % y, ?_, ?_⟩, ?_⟩
        · rfl
        · rw [gcd_step, hg]
        · show ((x : Int) % (y : Int)).toNat < ((y : Int)).toNat
          have := Int.emod_lt_of_pos (x : Int) hy
          have := Int.emod_nonneg (x : Int) (show (y : Int) ≠ 0 by omega)
          omega
      · have hy : ¬ (0 : Int) < (y : Int) := fun z => e (decide_eq_true z)
        have y0 : y = 0 := by omega
        subst y0
        rw [Nat.gcd_zero_right] at hg
        refine ⟨.int (x : Nat), rfl, _, _, rfl, ?_⟩
        rw [hg]
        exact q
    · rintro σ H1 Q1 Q2 hQ ⟨v, hv, i, j, e1, e2, k, e3, h3⟩
      exact ⟨v, hv, i, j, e1, e2, k, e3, hQ _ _ h3⟩
def sp_fraction (_ : PySem.W.Frag) : Sp := fun vs H Q _ => ∃ t b : Int, vs = [.int t, .int b] ∧ b ≠ 0 ∧ S 4000 b ∧ ∀ H' p, Same H H' → H p = none → H' p = some (.tup [.int (frT t b), .int (frB t b)]) → Q (.ref p) H'
theorem ok_fraction (T : Defs K mg) : FnOk P w K mg base CX0 2 T.f_fraction T.fd_fraction ["top", "bottom"] (sp_fraction K) := by
  have G_common_divisor : FnOk P w K mg base CX0 1 T.f_common_divisor T.fd_common_divisor ["one", "other"] (sp_common_divisor K) := ok_common_divisor T
  refine T.F_fraction.ok sc_fraction (fun vs H Q E h => ?_) (fun cdv A outer s H vs Q E hr h => ?_)
  · obtain ⟨t, b, rfl, hb, hs, q⟩ := h
    rfl
  · obtain ⟨t, b, rfl, hb, hs, q⟩ := h
    refine ⟨_, PSs.nox (pss_cons (ps_set (i := 2) sc_fraction.nd rfl (.inl rfl) (pe_call G_common_divisor (hr.mono (by decide)) (by rfl) T.g_common_divisor T.F_common_divisor.kp T.b_common_divisor .nil pass0 (pa_cons (pv 0) (pa_cons (pv 1) pa_nil))))
    (pss_cons (ps_if (pt_cmpR op_lt (pv 1) pe_int (nomark _)) (pss_one (ps_set (i := 2) sc_fraction.nd rfl (.inl rfl) (pe_un un_neg (pv 2)))) pss_nil)
    (pss_one (ps_ret (pe_tup (pa_cons (pe_op op_fdivNW (pv 0) (pv 2)) (pa_cons (pe_op op_fdivNW (pv 1) (pv 2)) pa_nil))))))), ?_⟩
    have hg : 0 < Int.gcd t b := Int.gcd_pos_of_ne_zero_right t hb
    have hd := gcd_small (t := t) hb hs
    refine ⟨.int t, rfl, .int b, rfl, t, b, rfl, ?_⟩
    rw [if_neg (show ¬ (1 : Int) > (Int.gcd t b : Int) by omega)]
    refine ⟨.int b, rfl, _, _, rfl, rfl, _, rfl, ite2 (fun e => ?_) (fun e => ?_)⟩
    · have hb1 : b < 0 := of_decide_eq_true e
      refine ⟨_, rfl, _, rfl, .int t, rfl, _, rfl, _, _, rfl, rfl, ⟨by omega, by rw [Int.natAbs_neg]; exact hd⟩, .int b, rfl, _, rfl, _, _, rfl, rfl, ⟨by omega, by rw [Int.natAbs_neg]; exact hd⟩, (show 2 ≤ sizeLine by decide), fun p np => ?_⟩
      refine q _ p (same_upd np) np ?_
      rw [upd_same]
      exact congrArg some (by rw [← (fr_lt t hb1).1, ← (fr_lt t hb1).2])
    · have hb1 : ¬ b < 0 := fun z => e (decide_eq_true z)
      refine ⟨.int t, rfl, _, rfl, _, _, rfl, rfl, ⟨by omega, hd⟩, .int b, rfl, _, rfl, _, _, rfl, rfl, ⟨by omega, hd⟩, (show 2 ≤ sizeLine by decide), fun p np => ?_⟩
      refine q _ p (same_upd np) np ?_
      rw [upd_same]
      exact congrArg some (by rw [← (fr_ge t (show 0 < b by omega)).1, ← (fr_ge t (show 0 < b by omega)).2])
/-! sum(tuple) -/
theorem preSum_take (ns : List Int) : ∀ k, preSum (fun i => ns.getD i 0) k = (ns.take k).sum
  | 0 => rfl
  | k + 1 => by
    show preSum (fun i => ns.getD i 0) k + ns.getD k 0 = _
    rw [preSum_take ns k, List.take_add_one, List.getD_eq_getElem?_getD]
    cases ns[k]? with
    | none => simp
    | some x => simp
def rSumT (K : PySem.W.Frag) : List V → Hp → VK → Prop := fun vs H Q => ∃ (a : Addr) (ns : List Int), vs = [V.ref a] ∧ SqT K H a (ns.map V.int) ∧ Q (.int ns.sum) H
theorem cr_sumT {X : Cx} (hc : X.calm = true) : CallR X (.builtin "sum") (rSumT X.K) := by
  intro pins s σ H vs us Q I r h
  obtain ⟨a, ns, rfl, hs, q⟩ := h
  obtain ⟨its, rv, ht, _⟩ := I.tuple hs
  rw [Vals.ref1 r]
  have hh := I.ok.hd hc
  have lta : a < s.heap.objs.size := by
    obtain ⟨o, ho, _⟩ := ht
    exact Heap.lt_size ho
  have hl := rv.length
  rw [List.length_map] at hl
  refine call_sum_walkG (wpAny_pyIter_tuple (show s.heap.IsTuple a its.toArray from ht) ⟨s.heap.objs.size, _, _, _, _, _, fun i => ns.getD i 0, rfl, Walks.tuple (A := X.A.in1) hh s.heap.objs.size a (Nat.ne_of_lt lta) its.toArray, ⟨⟨_, Heap.get?_push_size _ rfl, rfl, rfl⟩, (show s.heap.IsTuple a its.toArray from ht).at fun o e => Heap.get?_push_of_some _ e⟩, fun b hb => ?_, fun i v hv => ?_, fun h' tk t' hk => ?_⟩)
  · show b < (s.heap.push _).objs.size
    rw [Heap.size_push]
    rcases List.mem_cons.mp hb with z | z
    · rw [z]
      exact Nat.lt_succ_self _
    · rw [List.mem_singleton.mp z]
      exact Nat.lt_succ_of_lt lta
  · have hv2 : its[i]? = some v := by simpa using hv
    have hi : i < ns.length := by
      have := (List.getElem?_eq_some_iff.mp hv2).1
      omega
    obtain ⟨u, hu, ru⟩ := rv.get (show (ns.map V.int)[i]? = some (V.int ns[i]) by rw [List.getElem?_map, List.getElem?_eq_getElem hi]; rfl)
    rw [hv2] at hu
    cases hu
    obtain ⟨t, rfl⟩ := (show ∃ t, v = Value.int ns[i] t from ru)
    exact ⟨t, by
      show Value.int ns[i] t = Value.int (ns.getD i 0) t
      rw [List.getD_eq_getElem?_getD, List.getElem?_eq_getElem hi]
      rfl⟩
  · rw [preSum_take, List.take_of_length_le (by rw [List.size_toArray]; omega)]
    refine ⟨.int _, H, I.kept fun b o e => hk b o (fun z => ?_) (Heap.get?_push_of_some _ e), ⟨_, rfl⟩, q⟩
    rw [List.mem_singleton] at z
    rw [z] at e
    exact Nat.lt_irrefl _ (Heap.lt_size e)
theorem sumTK {X : Cx} {K : PySem.W.Frag} (h : X.K = K) (hc : X.calm = true) : CallR X (.builtin "sum") (rSumT K) := by
  subst h
  exact cr_sumT hc
/-! heaps with tables -/
theorem trip0 : TriplesOk (#[] : Array Value).toList := trivial
structure Sam (H H' : Hp) : Prop where
  obj : ∀ b o, (∀ ps, o ≠ .tbl ps) → H b = some o → H' b = some o
  tab : ∀ b ps, H b = some (.tbl ps) → ∃ ps', H' b = some (.tbl ps') ∧ (TriplesOk ps.toList → TriplesOk ps'.toList)
theorem Sam.of {H H' : Hp} (s : Same H H') : Sam H H' := ⟨fun b o _ e => s b o e, fun b ps e => ⟨ps, s b _ e, fun z => z⟩⟩
theorem Sam.refl (H : Hp) : Sam H H := .of (Same.refl H)
theorem Sam.trans {H H1 H2 : Hp} (a : Sam H H1) (b : Sam H1 H2) : Sam H H2 := ⟨fun c o n e => b.obj c o n (a.obj c o n e), fun c ps e => by
  obtain ⟨p1, e1, t1⟩ := a.tab c ps e
  obtain ⟨p2, e2, t2⟩ := b.tab c p1 e1
  exact ⟨p2, e2, fun z => t2 (t1 z)⟩⟩
theorem Sam.tabG {H H' : Hp} {P : Addr} (a : Sam H H') (t : GxR.TabG H P) : GxR.TabG H' P := by
  obtain ⟨ps, e, z⟩ := t
  obtain ⟨p1, e1, t1⟩ := a.tab P ps e
  exact ⟨p1, e1, t1 z⟩
theorem Sam.tup {H H' : Hp} {a : Addr} {xs : List V} (s : Sam H H') (h : H a = some (.tup xs)) : H' a = some (.tup xs) := s.obj _ _ (fun _ z => by cases z) h
theorem Sam.lst {H H' : Hp} {a : Addr} {xs : List V} (s : Sam H H') (h : H a = some (.lst xs)) : H' a = some (.lst xs) := s.obj _ _ (fun _ z => by cases z) h
theorem Sam.free {H H' : Hp} (s : Sam H H') {l : Addr} (h : H' l = none) : H l = none := by
  cases q : H l with
  | none => rfl
  | some o =>
    cases o with
    | tbl ps =>
      obtain ⟨p1, e1, _⟩ := s.tab l ps q
      rw [e1] at h
      cases h
    | _ =>
      rw [s.obj l _ (fun _ z => by cases z) q] at h
      cases h
theorem Sam.tabbed {P : Addr} {H H' : Hp} (g : GxR.TabG H P) (t : GxR.Tabbed P H H') : Sam H H' := by
  obtain ⟨⟨p1, e1, z1⟩, k⟩ := t
  obtain ⟨p0, e0, _⟩ := g
  refine ⟨fun b o n e => ?_, fun b ps e => ?_⟩
  · by_cases hb : b = P
    · rw [hb, e0] at e
      exact absurd (Option.some.inj e).symm (n p0)
    · rw [k b hb]
      exact e
  · by_cases hb : b = P
    · rw [hb]
      exact ⟨p1, e1, fun _ => z1⟩
    · exact ⟨ps, by rw [k b hb]; exact e, fun z => z⟩
theorem sam_newer {H H' : Hp} {q : Addr} {o : HO} (a : Sam H H') (n : H q = none) : Sam H (upd H' q o) := ⟨fun c x hx e => by
    rw [upd_ne (ne_of_none e n)]
    exact a.obj c x hx e, fun c ps e => by
    obtain ⟨p1, e1, t1⟩ := a.tab c ps e
    exact ⟨p1, by rw [upd_ne (ne_of_none e n)]; exact e1, t1⟩⟩
/-- all but the box stays, tables grow -/
structure Bus (p : Addr) (H H' : Hp) : Prop where
  obj : ∀ b o, b ≠ p → (∀ ps, o ≠ .tbl ps) → H b = some o → H' b = some o
  tab : ∀ b ps, b ≠ p → H b = some (.tbl ps) → ∃ ps', H' b = some (.tbl ps') ∧ (TriplesOk ps.toList → TriplesOk ps'.toList)
theorem Bus.of {p : Addr} {H H' : Hp} (s : But p H H') : Bus p H H' := ⟨fun b o n _ e => s b o n e, fun b ps n e => ⟨ps, s b _ n e, fun z => z⟩⟩
theorem Bus.sam {p : Addr} {H H' : Hp} (s : Sam H H') : Bus p H H' := ⟨fun b o _ n e => s.obj b o n e, fun b ps _ e => s.tab b ps e⟩
theorem Bus.refl (p : Addr) (H : Hp) : Bus p H H := .of (But.refl p H)
theorem Bus.trans {p : Addr} {H H1 H2 : Hp} (a : Bus p H H1) (b : Bus p H1 H2) : Bus p H H2 := ⟨fun c o h n e => b.obj c o h n (a.obj c o h n e), fun c ps h e => by
  obtain ⟨p1, e1, t1⟩ := a.tab c ps h e
  obtain ⟨p2, e2, t2⟩ := b.tab c p1 h e1
  exact ⟨p2, e2, fun z => t2 (t1 z)⟩⟩
theorem Bus.tup {p : Addr} {H H' : Hp} {n : Nat} {a : Addr} {xs : List V} (s : Bus p H H') (B : Bx H p n) (h : H a = some (.tup xs)) : H' a = some (.tup xs) := s.obj _ _ (B.ne_tup h) (fun _ z => by cases z) h
theorem Bus.lst {p : Addr} {H H' : Hp} {a : Addr} {xs : List V} (s : Bus p H H') (ne : a ≠ p) (h : H a = some (.lst xs)) : H' a = some (.lst xs) := s.obj _ _ ne (fun _ z => by cases z) h
theorem Bus.tabG {p : Addr} {H H' : Hp} {n : Nat} {P : Addr} (s : Bus p H H') (B : Bx H p n) (t : GxR.TabG H P) : GxR.TabG H' P := by
  obtain ⟨ps, e, z⟩ := t
  obtain ⟨a, b, c, hp, _⟩ := B
  obtain ⟨p1, e1, t1⟩ := s.tab P ps (ne_of e hp (fun z => by cases z)) e
  exact ⟨p1, e1, t1 z⟩
theorem Bus.new {p q : Addr} {H H' : Hp} {o : HO} (a : Bus p H H') (n : H' q = none) : Bus p H (upd H' q o) := a.trans (.of ((But.refl p H').new n))
/-- a thing made since H may change -/
theorem bus_newer {p q : Addr} {H H' : Hp} {o : HO} (a : Bus p H H') (n : H q = none) : Bus p H (upd H' q o) := ⟨fun c x h hx e => by
    rw [upd_ne (ne_of_none e n)]
    exact a.obj c x h hx e, fun c ps h e => by
    obtain ⟨p1, e1, t1⟩ := a.tab c ps h e
    exact ⟨p1, by rw [upd_ne (ne_of_none e n)]; exact e1, t1⟩⟩
theorem Bus.free {p : Addr} {H H' : Hp} {n : Nat} (s : Bus p H H') (B : Bx H p n) (B' : ∃ m, Bx H' p m) {l : Addr} (h : H' l = none) : H l = none := by
  cases q : H l with
  | none => rfl
  | some o =>
    have nl : l ≠ p := fun z => by
      obtain ⟨m, _, _, _, hp, _⟩ := B'
      rw [z, hp] at h
      cases h
    cases o with
    | tbl ps =>
      obtain ⟨p1, e1, _⟩ := s.tab l ps nl q
      rw [e1] at h
      cases h
    | _ =>
      rw [s.obj l _ nl (fun _ z => by cases z) q] at h
      cases h
theorem Bx.sam {H H' : Hp} {p : Addr} {n : Nat} (h : Bx H p n) (s : Sam H H') : Bx H' p n := by
  obtain ⟨a, b, c, hp, r⟩ := h
  exact ⟨a, b, c, s.lst hp, r⟩
theorem bus_same {p : Addr} {H H1 H2 : Hp} (n : H p = none) (a : Sam H H1) (b : Bus p H1 H2) : Sam H H2 := ⟨fun c x h e => b.obj c x (ne_of_none e n) h (a.obj c x h e), fun c ps e => by
  obtain ⟨p1, e1, t1⟩ := a.tab c ps e
  obtain ⟨p2, e2, t2⟩ := b.tab c p1 (ne_of_none e n) e1
  exact ⟨p2, e2, fun z => t2 (t1 z)⟩⟩
theorem ne_new {H : Hp} {p q : Addr} {n : Nat} (B : Bx H p n) (nq : H q = none) : q ≠ p := fun e => by
  obtain ⟨_, _, _, hp, _⟩ := B
  rw [e, hp] at nq
  cases nq
/-! a tuple so many times -/
theorem tuple_once (l : Addr) (items : Array Value) (n : Nat) (dd : Option Addr) (sl : Array (Option Value)) (u : Tok) :
    Meets (Builtin.«tuple.__mul__» ⟨[.ref l, .int 1 u], []⟩) (fun _ R s => s.heap.get? l = some { cls := .type "tuple", dict := dd, data := .seq items n, slots := sl } ∧ R (.ok (.ret (Value.ref l))) { s with toks := s.toks }) :=
  .of_wp fun prog w A R s h => by
    obtain ⟨hp, g, d, tk, os⟩ := s
    obtain ⟨hl, h⟩ := h
    have f1 := AutoSeq1.idx_int
    have c1 : (items.isEmpty || (1 : Int) == 1) = true := by simp
    wp_walk using wpAny_loadPart' hl
    repeat (first
      | (refine wpAny_ite_true (decide_eq_true c1) ?_; wp_walk using wpAny_loadPart' hl)
      | (refine wpAny_ite_false (decide_eq_false (by decide)) ?_; wp_walk using wpAny_loadPart' hl))
    exact ⟨_, rfl, h⟩
def rRepA (K : PySem.W.Frag) : R2 := fun x y H Q => ∃ (l : Addr) (k : Nat) (xs : List V), x = .ref l ∧ y = .int (k : Nat) ∧ SqT K H l xs ∧ xs ≠ [] ∧ 1 ≤ k ∧ xs.length * k ≤ 1000000 ∧ (k = 1 → Q (.ref l) H) ∧
  (2 ≤ k → ∀ p, H p = none → Q (.ref p) (upd H p (.tup (List.replicate k xs).flatten)))
theorem op_repA {X : Cx} : OpR X (binaryOp .Mult) (rRepA X.K) := by
  intro pins s σ H x y v u Q I rx ry h
  obtain ⟨l, k, xs, rfl, rfl, hT, hne, h1, hz, q1, q2⟩ := h
  cases rx
  obtain ⟨t, rfl⟩ := ry
  obtain ⟨its, r, ⟨⟨cls, dd, data, sl⟩, ho, hc, n, hd⟩, hs⟩ := I.tuple hT
  simp only at hc hd
  subst hc hd
  have lx : 0 < xs.length := List.length_pos_iff.mpr hne
  have le : its.length = xs.length := r.length.symm
  have ke : k * xs.length ≤ 1000000 := by
    rw [Nat.mul_comm]
    exact hz
  have kl : k ≤ 1000000 := Nat.le_trans (Nat.le_mul_of_pos_right k lx) ke
  have ne : its.toArray.isEmpty = false := by
    cases its with
    | nil =>
      rw [← le] at lx
      cases lx
    | cons a b => rfl
  by_cases k1 : k = 1
  · subst k1
    refine wpAny_binaryOp_repeat_ref (T := "tuple") (U := "int") (by decide) ⟨_, ho, rfl⟩ (fun s' => typeIs_int s' _ t) noFill_tuple_mul F.fills_int_mul F.slot_int_rmul repeat_tuple F.slot_int_index.lookup
      (call_meets F.slot_int_rmul (typeIs_int s _ t) F.entry_int_rmul (F.args_int_rmul_2 _ _) (int_rmul_tuple _ t l its.toArray n dd sl)
        ⟨ho, rfl, ⟨_, ho, rfl⟩, call_meets F.slot_tuple_mul ⟨_, ho, rfl⟩ F.entry_tuple_mul (F.args_tuple_mul_2 _ _) (tuple_once l its.toArray n dd sl t) ⟨ho, ?_⟩⟩)
    exact ⟨.ref l, H, I, rfl, q1 rfl⟩
  · have k2 : 2 ≤ k := by omega
    have sz : its.toArray.size = xs.length := by rw [List.size_toArray, le]
    have pr : ((its.toArray.size : Nat) : Int) * (k : Int) ≤ 1000000 := by
      rw [sz, ← Int.natCast_mul]
      omega
    have fl : (List.replicate k its).flatten.length ≤ sizeLine := by
      rw [PyProof.Rows.lm_len_rep_flat, le, sizeLine_eq]
      omega
    have d0 : (decide ((k : Int) < -(2 ^ 63)) || decide ((k : Int) ≥ 2 ^ 63)) = false := by
      rw [decide_eq_false (show ¬ (k : Int) < -(2 ^ 63) by omega), decide_eq_false (show ¬ (k : Int) ≥ 2 ^ 63 by omega)] <;> rfl
    have d1 : (its.toArray.isEmpty || (k : Int) == 1) = false := by
      rw [ne, Bool.false_or]
      exact beq_eq_false_iff_ne.mpr (by omega)
    have d2 : (decide ((k : Int) ≤ 0) || its.toArray.isEmpty) = false := by
      rw [ne, Bool.or_false]
      exact decide_eq_false (by omega)
    have d4 : Builtin.Tuple.tupleTooMany (((its.toArray.size : Nat) : Int) * (k : Int)) = false := by
      unfold Builtin.Tuple.tupleTooMany
      rw [sizeLine_eq]
      exact decide_eq_false (by omega)
    refine wpAny_binaryOp_repeat_ref (T := "tuple") (U := "int") (by decide) ⟨_, ho, rfl⟩ (fun s' => typeIs_int s' _ t) noFill_tuple_mul F.fills_int_mul F.slot_int_rmul repeat_tuple F.slot_int_index.lookup
      (call_meets F.slot_int_rmul (typeIs_int s _ t) F.entry_int_rmul (F.args_int_rmul_2 _ _) (int_rmul_tuple _ t l its.toArray n dd sl)
        ⟨ho, rfl, ⟨_, ho, rfl⟩, call_meets F.slot_tuple_mul ⟨_, ho, rfl⟩ F.entry_tuple_mul (F.args_tuple_mul_2 _ _) (tuple_mulW l its.toArray n dd sl (k : Int) t d0 d1 d2 (by omega) d4 (by rw [Int.toNat_natCast, size_rep, List.size_toArray]; exact fl)) ⟨ho, ?_⟩⟩)
    rw [Int.toNat_natCast, size_rep]
    refine ⟨.ref s.heap.objs.size, _, I.laid (t' := s.toks) (o := .tup (List.replicate k xs).flatten) (fun b ob q => Heap.get?_push_of_some _ q) (Nat.le_refl _) ⟨?_, _, r.rep k, IsTup.new _ _⟩, rfl, q2 k2 _ (I.hok.fresh (Nat.le_refl _))⟩
    rw [PyProof.Rows.lm_len_rep_flat, sizeLine_eq]
    omega
/-! the law's own rows -/
def Bits (rs : List Int) : Prop := ∀ x, x ∈ rs → x = 0 ∨ x = 1
theorem Bits.snoc {rs : List Int} {x : Int} (h : Bits rs) (hx : x = 0 ∨ x = 1) : Bits (rs ++ [x]) := fun y hy => by
  rcases List.mem_append.mp hy with hy | hy
  · exact h y hy
  · rw [List.mem_singleton] at hy
    rw [hy]
    exact hx
theorem but_newer {p q : Addr} {H H' : Hp} {o : HO} (a : But p H H') (n : H q = none) : But p H (upd H' q o) := fun c x hn e => by
  rw [upd_ne (ne_of_none e n)]
  exact a c x hn e
theorem Bx.other {H : Hp} {p q : Addr} {n : Nat} {o : HO} (h : Bx H p n) (nq : q ≠ p) : Bx (L2.upd H q o) p n := by
  obtain ⟨a, b, c, hp, r⟩ := h
  exact ⟨a, b, c, by rw [upd_ne (Ne.symm nq)]; exact hp, r⟩
def PV (p D : Addr) (HX : Hp) (k i : Nat) (H1 : Hp) : Prop := ∃ rs : List Int, rs.length = i ∧ Bits rs ∧ But p HX H1 ∧ Bx H1 p (k + i) ∧ H1 D = some (.lst (rs.map V.int))
theorem pv_start {p D : Addr} {HX : Hp} {k : Nat} (nD : HX D = none) (B : Bx HX p k) : PV p D HX k 0 (upd HX D (.lst [])) := ⟨[], rfl, fun _ h => (by cases h), (But.refl p HX).new nD, B.new nD, upd_same⟩
theorem pv_step {p D : Addr} {HX H1 H4 : Hp} {k i : Nat} {x : Int} (nD : HX D = none) (Dp : D ≠ p) (h : PV p D HX k i H1) (b : But p H1 H4) (B : Bx H4 p (k + (i + 1))) (hi : i < 100000) (hx : x = 0 ∨ x = 1) :
    ∃ acc, H4 D = some (.lst acc) ∧ acc.length < sizeLine ∧ PV p D HX k (i + 1) (upd H4 D (.lst (acc ++ [.int x]))) := by
  obtain ⟨rs, hl, hb, b1, _, hD⟩ := h
  have hsl : sizeLine = 16777216 := by decide
  refine ⟨_, b _ _ Dp hD, by rw [List.length_map]; omega, rs ++ [x], by rw [List.length_append, hl]; rfl, hb.snoc hx, but_newer (b1.trans b) nD, B.other Dp, ?_⟩
  rw [upd_same, List.map_append]
  rfl
theorem rep_one (m : Nat) (x : Int) : (List.replicate m [V.int x]).flatten = (List.replicate m x).map V.int := by
  rw [List.map_replicate]
  induction m with
  | zero => rfl
  | succ m ih => rw [List.replicate_succ, List.flatten_cons, ih, List.replicate_succ]; rfl
/-! a tuple no times, too -/
theorem tuple_nought (l : Addr) (items : Array Value) (n : Nat) (dd : Option Addr) (sl : Array (Option Value)) (u : Tok) (hi : items.isEmpty = false) :
    Meets (Builtin.«tuple.__mul__» ⟨[.ref l, .int 0 u], []⟩) (fun _ R s => s.heap.get? l = some { cls := .type "tuple", dict := dd, data := .seq items n, slots := sl } ∧ R (.ok (.ret (Value.ref s.heap.objs.size))) { s with heap := s.heap.push { cls := Value.type "tuple", data := Data.seq #[] }, toks := s.toks }) :=
  .of_wp fun prog w A R s h => by
    obtain ⟨hp, g, d, tk, os⟩ := s
    obtain ⟨hl, h⟩ := h
    have f1 := AutoSeq1.idx_int
    have c1 : (items.isEmpty || (0 : Int) == 1) = false := by rw [hi]; rfl
    have c2 : (decide ((0 : Int) ≤ 0) || items.isEmpty) = true := by simp
    wp_walk using wpAny_loadPart' hl
    repeat (first
      | (refine wpAny_ite_false (decide_eq_false (by rw [c1]; exact Bool.false_ne_true)) ?_; wp_walk using wpAny_loadPart' hl)
      | (refine wpAny_ite_true (decide_eq_true c2) ?_; wp_walk using wpAny_loadPart' hl)
      | (refine wpAny_ite_false (decide_eq_false (by decide)) ?_; wp_walk using wpAny_loadPart' hl))
    exact ⟨_, rfl, h⟩
def rRepB (K : PySem.W.Frag) : R2 := fun x y H Q => ∃ (l : Addr) (k : Nat) (xs : List V), x = .ref l ∧ y = .int (k : Nat) ∧ SqT K H l xs ∧ xs ≠ [] ∧ xs.length * k ≤ 1000000 ∧ (k = 1 → Q (.ref l) H) ∧
  (k ≠ 1 → ∀ p, H p = none → Q (.ref p) (upd H p (.tup (List.replicate k xs).flatten)))
theorem op_repB {X : Cx} : OpR X (binaryOp .Mult) (rRepB X.K) := by
  intro pins s σ H x y v u Q I rx ry h
  obtain ⟨l, k, xs, rfl, rfl, hT, hne, hz, q1, q2⟩ := h
  by_cases k0 : k = 0
  · subst k0
    cases rx
    obtain ⟨t, rfl⟩ := ry
    obtain ⟨its, r, ⟨⟨cls, dd, data, sl⟩, ho, hc, n, hd⟩, hs⟩ := I.tuple hT
    simp only at hc hd
    subst hc hd
    have le : its.length = xs.length := r.length.symm
    have ne : its.toArray.isEmpty = false := by
      cases its with
      | nil => exact absurd (List.eq_nil_of_length_eq_zero le.symm) hne
      | cons a b => rfl
    refine wpAny_binaryOp_repeat_ref (T := "tuple") (U := "int") (by decide) ⟨_, ho, rfl⟩ (fun s' => typeIs_int s' _ t) noFill_tuple_mul F.fills_int_mul F.slot_int_rmul repeat_tuple F.slot_int_index.lookup
      (call_meets F.slot_int_rmul (typeIs_int s _ t) F.entry_int_rmul (F.args_int_rmul_2 _ _) (int_rmul_tuple _ t l its.toArray n dd sl)
        ⟨ho, rfl, ⟨_, ho, rfl⟩, call_meets F.slot_tuple_mul ⟨_, ho, rfl⟩ F.entry_tuple_mul (F.args_tuple_mul_2 _ _) (tuple_nought l its.toArray n dd sl t ne) ⟨ho, ?_⟩⟩)
    exact ⟨.ref s.heap.objs.size, _, I.laid (t' := s.toks) (o := .tup []) (fun b ob q => Heap.get?_push_of_some _ q) (Nat.le_refl _) ⟨Nat.zero_le _, [], .nil, IsTup.new _ _⟩, rfl, q2 (by decide) _ (I.hok.fresh (Nat.le_refl _))⟩
  · exact op_repA pins s σ H _ _ v u Q I rx ry ⟨l, k, xs, rfl, rfl, hT, hne, by omega, hz, q1, fun z => q2 (by omega)⟩
/-- (x,) so many times -/
theorem rep_go {K : PySem.W.Frag} {H : Hp} {t : Addr} {x v : Int} {k : Nat} {Q : VK} (hv : v = (k : Nat)) (ht : H t = some (.tup [.int x])) (hk : k ≤ 100000) (q : ∀ H' p, Same H H' → H' p = some (.tup ((List.replicate k x).map V.int)) → Q (.ref p) H') : rRepB K (.ref t) (.int v) H Q := by
  subst hv
  refine ⟨t, k, _, rfl, rfl, SqT.mk ht, by simp, (show 1 * k ≤ 1000000 by omega), fun z => ?_, fun z p np => ?_⟩
  · subst z
    exact q H t (Same.refl H) ht
  · exact q _ p (same_upd np) (by rw [upd_same, rep_one])
theorem cat_go {K : PySem.W.Frag} {H : Hp} {a b : Addr} {rs ss : List Int} {Q : VK} (ha : H a = some (.tup (rs.map V.int))) (hb : H b = some (.tup (ss.map V.int))) (hl : rs.length + ss.length ≤ 100000)
    (q : ∀ H' p, Same H H' → H' p = some (.tup ((rs ++ ss).map V.int)) → Q (.ref p) H') : rCatA K (.ref a) (.ref b) H Q := by
  have hsl : sizeLine = 16777216 := by decide
  refine ⟨a, b, _, _, rfl, rfl, SqT.mk ha, SqT.mk hb, by rw [List.length_map, List.length_map]; omega, fun z => ?_, fun _ z => ?_, fun _ _ p np => ?_⟩
  · rw [List.map_eq_nil_iff.mp z] at q
    exact q H b (Same.refl H) hb
  · rw [List.map_eq_nil_iff.mp z] at q
    exact q H a (Same.refl H) (by rw [List.append_nil]; exact ha)
  · exact q _ p (same_upd np) (by rw [upd_same, List.map_append])
theorem catK {X : Cx} {K : PySem.W.Frag} (h : X.K = K) : OpR X (binaryOp .Add) (rCatA K) := by
  subst h
  exact op_catA
theorem zipAK {X : Cx} {K : PySem.W.Frag} {e e2 : Expr} {ta : TA} {p pos tpos : Pos} {elts : List Expr} {kk : Nat} (h : X.K = K) (hg : Gl X "zip") (hm : X.mg "zip" = none) (ha : PA X [e, e2] ta)
    (hs : starEach [e, e2] X.env = (false, eval e X.env) :: starEach [e2] X.env := by rfl) (hpl : (backTo pos (starEach [e2] X.env)).any (·.1) = false := by rfl) :
    PI X (.Tuple elts kk tpos) (.Call (.Name "zip" p) [e, e2] [] pos) (RZ.iZipA K ta) := by
  subst h
  exact RZ.pi_zipA hg hm ha hs hpl
/-! the ones of a row told again and again -/
def cn (rs : List Int) : Nat → Int
  | 0 => 0
  | k + 1 => cn rs k + rs.getD (k % rs.length) 0
/-- what the first k bits are off, times the length -/
def Df (rs : List Int) (k : Nat) : Int := cn rs k * rs.length - k * rs.sum
theorem cn_take (rs : List Int) : ∀ k, k ≤ rs.length → cn rs k = (rs.take k).sum
  | 0, _ => rfl
  | k + 1, h => by
    show cn rs k + rs.getD (k % rs.length) 0 = _
    rw [cn_take rs k (by omega), Nat.mod_eq_of_lt (by omega), List.take_add_one, List.getD_eq_getElem?_getD, List.getElem?_eq_getElem (show k < rs.length by omega), List.sum_append]
    simp
theorem cn_all (rs : List Int) : cn rs rs.length = rs.sum := by
  rw [cn_take rs _ (Nat.le_refl _), List.take_length]
theorem cn_again (rs : List Int) : ∀ k, cn rs (k + rs.length) = cn rs k + rs.sum
  | 0 => by rw [Nat.zero_add, cn_all]; show _ = 0 + _; omega
  | k + 1 => by
    rw [show k + 1 + rs.length = (k + rs.length) + 1 by omega]
    show cn rs (k + rs.length) + rs.getD ((k + rs.length) % rs.length) 0 = (cn rs k + rs.getD (k % rs.length) 0) + _
    rw [cn_again rs k, Nat.add_mod_right]
    omega
theorem Df_again (rs : List Int) (k : Nat) : Df rs (k + rs.length) = Df rs k := by
  unfold Df
  rw [cn_again, Int.add_mul, Int.natCast_add, Int.add_mul, Int.mul_comm rs.sum]
  omega
theorem Df_zero (rs : List Int) : Df rs 0 = 0 := by
  unfold Df
  show 0 * _ - ((0 : Nat) : Int) * _ = (0 : Int)
  simp
theorem Df_step (rs : List Int) (k : Nat) : Df rs (k + 1) = Df rs k + rs.length * rs.getD (k % rs.length) 0 - rs.sum := by
  unfold Df
  show (cn rs k + rs.getD (k % rs.length) 0) * _ - _ = _
  rw [Int.add_mul, Int.natCast_add, Int.add_mul, Int.mul_comm (rs.getD (k % rs.length) 0)]
  omega
/-- the greatest off up to k, and the first place that has it -/
structure Best (D : Nat → Int) (k : Nat) (w : Int) (j : Nat) : Prop where
  le : j ≤ k
  eq : ((D j).natAbs : Int) = w
  most : ∀ i, i ≤ k → ((D i).natAbs : Int) ≤ w
  first : ∀ i, i < j → ((D i).natAbs : Int) < w
theorem Best.zero {D : Nat → Int} (h : D 0 = 0) : Best D 0 0 0 := ⟨Nat.le_refl 0, by rw [h]; rfl, fun i hi => by rw [show i = 0 by omega, h]; exact Int.le_refl 0, fun i hi => by omega⟩
theorem Best.more {D : Nat → Int} {k j : Nat} {w : Int} (h : Best D k w j) (l : w < ((D (k + 1)).natAbs : Int)) : Best D (k + 1) ((D (k + 1)).natAbs : Int) (k + 1) :=
  ⟨Nat.le_refl _, rfl, fun i hi => by
    by_cases e : i = k + 1
    · rw [e]; exact Int.le_refl _
    · exact Int.le_of_lt (Int.lt_of_le_of_lt (h.most i (by omega)) l), fun i hi => Int.lt_of_le_of_lt (h.most i (by omega)) l⟩
theorem Best.less {D : Nat → Int} {k j : Nat} {w : Int} (h : Best D k w j) (l : ((D (k + 1)).natAbs : Int) ≤ w) : Best D (k + 1) w j :=
  ⟨Nat.le_succ_of_le h.le, h.eq, fun i hi => by
    by_cases e : i = k + 1
    · rw [e]; exact l
    · exact h.most i (by omega), h.first⟩
theorem Best.uniq {D : Nat → Int} {k j j' : Nat} {w w' : Int} (h : Best D k w j) (h' : Best D k w' j') : w = w' ∧ j = j' := by
  have e : w = w' := by
    have a := h.most j' h'.le
    have b := h'.most j h.le
    rw [h'.eq] at a
    rw [h.eq] at b
    omega
  subst e
  refine ⟨rfl, ?_⟩
  rcases Nat.lt_trichotomy j j' with z | z | z
  · have := h'.first j z
    rw [h.eq] at this
    omega
  · exact z
  · have := h.first j' z
    rw [h'.eq] at this
    omega
/-- by the list's greatest one and where it comes first -/
theorem Best.of_list {D : Nat → Int} {k j : Nat} {w : Int} (hm : ∀ y, y ∈ (List.range (k + 1)).map (fun i => ((D i).natAbs : Int)) → y ≤ w) (h1 : ((List.range (k + 1)).map (fun i => ((D i).natAbs : Int)))[j]? = some w)
    (h2 : ∀ m, m < j → ((List.range (k + 1)).map (fun i => ((D i).natAbs : Int)))[m]? ≠ some w) : Best D k w j := by
  have at_ : ∀ i, i ≤ k → ((List.range (k + 1)).map (fun i => ((D i).natAbs : Int)))[i]? = some ((D i).natAbs : Int) := fun i hi => by
    rw [List.getElem?_map, List.getElem?_range (by omega)]
    rfl
  have hj : j ≤ k := by
    have := (List.getElem?_eq_some_iff.mp h1).1
    rw [List.length_map, List.length_range] at this
    omega
  have mo : ∀ i, i ≤ k → ((D i).natAbs : Int) ≤ w := fun i hi => hm _ (List.mem_of_getElem? (at_ i hi))
  refine ⟨hj, ?_, mo, fun i hi => ?_⟩
  · rw [at_ j hj] at h1
    exact Option.some.inj h1
  · have := mo i (by omega)
    have n := h2 i hi
    rw [at_ i (by omega)] at n
    have : ((D i).natAbs : Int) ≠ w := fun z => n (by rw [z])
    omega
/-! the worst stretch -/
structure Ends (D : Nat → Int) (m : Nat) (L G : Int) (iL iG : Nat) : Prop where
  lL : iL ≤ m
  eL : D iL = L
  mL : ∀ i, i ≤ m → L ≤ D i
  fL : ∀ i, i < iL → D i ≠ L
  lG : iG ≤ m
  eG : D iG = G
  mG : ∀ i, i ≤ m → D i ≤ G
  fG : ∀ i, i < iG → D i ≠ G
theorem ends_at (D : Nat → Int) (k : Nat) {i : Nat} (hi : i ≤ k) : ((List.range (k + 1)).map D)[i]? = some (D i) := by
  rw [List.getElem?_map, List.getElem?_range (by omega)]
  rfl
theorem ends_le {D : Nat → Int} {k j : Nat} {w : Int} (h : ((List.range (k + 1)).map D)[j]? = some w) : j ≤ k ∧ D j = w := by
  have hj := (List.getElem?_eq_some_iff.mp h).1
  rw [List.length_map, List.length_range] at hj
  rw [ends_at D k (by omega)] at h
  exact ⟨by omega, Option.some.inj h⟩
theorem Ends.of_list {D : Nat → Int} {k iL iG : Nat} {L G : Int} (hL : ∀ y, y ∈ (List.range (k + 1)).map D → L ≤ y) (h1 : ((List.range (k + 1)).map D)[iL]? = some L) (h2 : ∀ m, m < iL → ((List.range (k + 1)).map D)[m]? ≠ some L)
    (hG : ∀ y, y ∈ (List.range (k + 1)).map D → y ≤ G) (h3 : ((List.range (k + 1)).map D)[iG]? = some G) (h4 : ∀ m, m < iG → ((List.range (k + 1)).map D)[m]? ≠ some G) : Ends D k L G iL iG := by
  obtain ⟨a1, a2⟩ := ends_le h1
  obtain ⟨b1, b2⟩ := ends_le h3
  exact ⟨a1, a2, fun i hi => hL _ (List.mem_of_getElem? (ends_at D k hi)), fun i hi z => h2 i hi (by rw [ends_at D k (by omega), z]), b1, b2, fun i hi => hG _ (List.mem_of_getElem? (ends_at D k hi)), fun i hi z => h4 i hi (by rw [ends_at D k (by omega), z])⟩
theorem Ends.uniq {D : Nat → Int} {m iL iG jL jG : Nat} {L G L' G' : Int} (h : Ends D m L G iL iG) (k : Ends D m L' G' jL jG) : L = L' ∧ G = G' := by
  have a := h.mL jL k.lL
  have b := k.mL iL h.lL
  have c := h.mG jG k.lG
  have d := k.mG iG h.lG
  rw [k.eL] at a
  rw [h.eL] at b
  rw [k.eG] at c
  rw [h.eG] at d
  omega
abbrev Dab (D : Nat → Int) (b e : Nat) : Int := ((D e - D b).natAbs : Int)
def vis (m B E b e : Nat) : Prop := b ≤ e ∧ e ≤ m ∧ e < b + m ∧ (b < B ∨ (b = B ∧ e < E))
structure Bp (D : Nat → Int) (m B E : Nat) (w : Int) (b0 e0 : Nat) : Prop where
  eq : Dab D b0 e0 = w
  le : b0 ≤ e0
  lm : e0 ≤ m
  most : ∀ b e, vis m B E b e → Dab D b e ≤ w
  first : ∀ b e, vis m B E b e → (b < b0 ∨ (b = b0 ∧ e < e0)) → Dab D b e < w
  low : b0 < B ∨ (b0 = B ∧ e0 < E) ∨ (b0 = 0 ∧ e0 = 0)
theorem Bp.start (D : Nat → Int) (m : Nat) : Bp D m 0 0 0 0 0 := ⟨by
  show ((D 0 - D 0).natAbs : Int) = 0
  omega, Nat.le_refl _, Nat.zero_le _, fun b e h => by
  obtain ⟨_, _, _, h⟩ := h
  omega, fun b e h => by
  obtain ⟨_, _, _, h⟩ := h
  omega, .inr (.inr ⟨rfl, rfl⟩)⟩
theorem Bp.more {D : Nat → Int} {m B E b0 e0 : Nat} {w : Int} (h : Bp D m B E w b0 e0) (hE : B ≤ E) (hm : E ≤ m) (l : w < Dab D B E) : Bp D m B (E + 1) (Dab D B E) B E := by
  have key : ∀ b e, vis m B (E + 1) b e → ¬ (b = B ∧ e = E) → Dab D b e ≤ w := fun b e hv hn => by
    obtain ⟨h1, h2, h3, h4⟩ := hv
    exact h.most b e ⟨h1, h2, h3, by omega⟩
  refine ⟨rfl, hE, hm, fun b e hv => ?_, fun b e hv hl => ?_, .inr (.inl ⟨rfl, Nat.lt_succ_self _⟩)⟩
  · by_cases z : b = B ∧ e = E
    · rw [z.1, z.2]
      exact Int.le_refl _
    · exact Int.le_of_lt (Int.lt_of_le_of_lt (key b e hv z) l)
  · exact Int.lt_of_le_of_lt (key b e hv (by omega)) l
theorem Bp.less {D : Nat → Int} {m B E b0 e0 : Nat} {w : Int} (h : Bp D m B E w b0 e0) (l : E ≤ m → Dab D B E ≤ w) : Bp D m B (E + 1) w b0 e0 := by
  refine ⟨h.eq, h.le, h.lm, fun b e hv => ?_, fun b e hv hl => ?_, ?_⟩
  · obtain ⟨h1, h2, h3, h4⟩ := hv
    by_cases z : b = B ∧ e = E
    · rw [z.1, z.2]
      exact l (by omega)
    · exact h.most b e ⟨h1, h2, h3, by omega⟩
  · obtain ⟨h1, h2, h3, h4⟩ := hv
    have := h.low
    exact h.first b e ⟨h1, h2, h3, by omega⟩ hl
  · have := h.low
    omega
theorem Bp.next {D : Nat → Int} {m B b0 e0 : Nat} {w : Int} (h : Bp D m B (B + m) w b0 e0) : Bp D m (B + 1) (B + 1) w b0 e0 := by
  have e : ∀ b e, vis m (B + 1) (B + 1) b e → vis m B (B + m) b e := fun b e hv => by
    obtain ⟨h1, h2, h3, h4⟩ := hv
    exact ⟨h1, h2, h3, by omega⟩
  refine ⟨h.eq, h.le, h.lm, fun b e' hv => h.most b e' (e b e' hv), fun b e' hv => h.first b e' (e b e' hv), ?_⟩
  have := h.low
  omega
theorem Bp.fin {D : Nat → Int} {m b0 e0 iL iG : Nat} {w L G : Int} (h : Bp D m (m + 1) (m + 1) w b0 e0) (k : Ends D m L G iL iG) (hm : 1 ≤ m) (hD : D m = D 0) : w = G - L ∧ b0 = min iL iG ∧ e0 = max iL iG := by
  have mb := k.mL b0 (by have := h.le; have := h.lm; omega)
  have me := k.mL e0 h.lm
  have gb := k.mG b0 (by have := h.le; have := h.lm; omega)
  have ge := k.mG e0 h.lm
  have hw := h.eq
  have hGL : L ≤ G := by
    have := k.mL iG k.lG
    rw [k.eG] at this
    exact this
  have dS : Dab D (min iL iG) (max iL iG) = G - L := by
    show ((D (max iL iG) - D (min iL iG)).natAbs : Int) = _
    rcases Nat.le_total iL iG with z | z
    · rw [Nat.max_eq_right z, Nat.min_eq_left z, k.eL, k.eG]
      omega
    · rw [Nat.max_eq_left z, Nat.min_eq_right z, k.eL, k.eG]
      omega
  have dw : Dab D b0 e0 ≤ G - L := by
    show ((D e0 - D b0).natAbs : Int) ≤ _
    omega
  have lL := k.lL
  have lG := k.lG
  -- where the two ends are alike
  have zero : G = L → iL = 0 ∧ iG = 0 := fun z => by
    have a := k.mL 0 (Nat.zero_le _)
    have b := k.mG 0 (Nat.zero_le _)
    constructor
    · rcases Nat.eq_zero_or_pos iL with y | y
      · exact y
      · exact absurd (by omega) (k.fL 0 y)
    · rcases Nat.eq_zero_or_pos iG with y | y
      · exact y
      · exact absurd (by omega) (k.fG 0 y)
  have seen : vis m (m + 1) (m + 1) (min iL iG) (max iL iG) := by
    refine ⟨by omega, by omega, ?_, .inl (by omega)⟩
    by_cases z : min iL iG = 0 ∧ max iL iG = m
    · exfalso
      have d0 : Dab D 0 m = G - L := by
        rw [← dS, z.1, z.2]
      have d1 : Dab D 0 m = 0 := by
        show ((D m - D 0).natAbs : Int) = 0
        omega
      have := zero (by omega)
      omega
    · omega
  have up := h.most _ _ seen
  rw [dS] at up
  have ew : w = G - L := by omega
  have nb : ¬ (min iL iG < b0 ∨ (min iL iG = b0 ∧ max iL iG < e0)) := fun z => by
    have := h.first _ _ seen z
    omega
  have two : (D b0 = L ∧ D e0 = G) ∨ (D b0 = G ∧ D e0 = L) := by
    have : ((D e0 - D b0).natAbs : Int) = G - L := by
      rw [← ew]
      exact hw
    omega
  refine ⟨ew, ?_⟩
  rcases two with ⟨y1, y2⟩ | ⟨y1, y2⟩
  · have b1 : iL ≤ b0 := by
      rcases Nat.lt_or_ge b0 iL with z | z
      · exact absurd y1 (k.fL b0 z)
      · exact z
    have e1 : iG ≤ e0 := by
      rcases Nat.lt_or_ge e0 iG with z | z
      · exact absurd y2 (k.fG e0 z)
      · exact z
    have := h.le
    omega
  · have b1 : iG ≤ b0 := by
      rcases Nat.lt_or_ge b0 iG with z | z
      · exact absurd y1 (k.fG b0 z)
      · exact z
    have e1 : iL ≤ e0 := by
      rcases Nat.lt_or_ge e0 iL with z | z
      · exact absurd y2 (k.fL e0 z)
      · exact z
    have := h.le
    omega
/-! where a number stands first -/
theorem flat_ints (xs : List Int) : (xs.map V.int).all flatV = true := by
  rw [List.all_eq_true]
  intro x hx
  obtain ⟨i, _, rfl⟩ := List.mem_map.mp hx
  rfl
theorem in_ints (xs : List Int) (k : Int) : inV (.int k) (xs.map V.int) = decide (k ∈ xs) := by
  unfold inV
  rw [Bool.eq_iff_iff, List.any_eq_true, decide_eq_true_iff]
  constructor
  · rintro ⟨y, hy, e⟩
    obtain ⟨i, hi, rfl⟩ := List.mem_map.mp hy
    have : i = k := by
      have e : (i == k) = true := e
      exact eq_of_beq e
    rw [← this]
    exact hi
  · intro h
    exact ⟨_, List.mem_map.mpr ⟨k, h, rfl⟩, show (k == k) = true from beq_self_eq_true k⟩
theorem first_of {xs : List Int} {k : Int} : k ∈ xs → ∃ j : Nat, xs[j]? = some k ∧ ∀ m, m < j → xs[m]? ≠ some k := by
  induction xs with
  | nil => intro h; cases h
  | cons x r ih =>
    intro h
    by_cases e : x = k
    · exact ⟨0, by rw [e]; rfl, fun m hm => by omega⟩
    · rcases List.mem_cons.mp h with h | h
      · exact absurd h.symm e
      · obtain ⟨j, h1, h2⟩ := ih h
        refine ⟨j + 1, h1, fun m hm => ?_⟩
        cases m with
        | zero => exact fun z => e (Option.some.inj z)
        | succ m => exact h2 m (by omega)
/-! the program: ones, offs, the worst part -/
def sp_ones (_ : PySem.W.Frag) : Sp := fun vs H Q _ => ∃ (a : Addr) (rs : List Int), vs = [.ref a] ∧ H a = some (.tup (rs.map V.int)) ∧ Q (.int rs.sum) H
theorem ok_ones (T : Defs K mg) : FnOk P w K mg base CX0 1 T.f_ones T.fd_ones ["row"] (sp_ones K) := by
  refine T.F_ones.ok sc_ones (fun vs H Q E h => ?_) (fun cdv A outer s H vs Q E hr h => ?_)
  · obtain ⟨a, rs, rfl, ha, q⟩ := h
    rfl
  · obtain ⟨a, rs, rfl, ha, q⟩ := h
    refine ⟨_, PSs.nox (pss_one (ps_ret (pe_callB (cr_sumT rfl) (by rfl) T.m_sum bt_sum (pa_cons (pv 0) pa_nil)))), ?_⟩
    exact ⟨.ref a, rfl, a, rs, rfl, SqT.mk ha, q⟩
def OL (rs : List Int) (i : Nat) : List V := ((List.range i).map (Df rs)).map V.int
theorem OL_succ (rs : List Int) (i : Nat) : OL rs (i + 1) = OL rs i ++ [.int (Df rs i)] := by
  unfold OL
  rw [List.range_succ, List.map_append, List.map_append]
  rfl
theorem OL_len (rs : List Int) (i : Nat) : (OL rs i).length = i := by
  unfold OL
  rw [List.length_map, List.length_map, List.length_range]
def sp_offs_by (_ : PySem.W.Frag) : Sp := fun vs H Q _ => ∃ (a : Addr) (rs : List Int), vs = [.ref a, .int rs.sum, .int (rs.length : Nat)] ∧ H a = some (.tup (rs.map V.int)) ∧ rs.length ≤ 100000 ∧
  ∀ H' p, Same H H' → H p = none → H' p = some (.lst (OL rs (rs.length + 1))) → Q (.ref p) H'
theorem ok_offs_by (T : Defs K mg) : FnOk P w K mg base CX0 1 T.f_offs_by T.fd_offs_by ["row", "many", "length"] (sp_offs_by K) := by
  refine T.F_offs_by.ok sc_offs_by (fun vs H Q E h => ?_) (fun cdv A outer s H vs Q E hr h => ?_)
  · obtain ⟨a, rs, rfl, ha, hl, q⟩ := h
    rfl
  · obtain ⟨a, rs, rfl, ha, hl, q⟩ := h
    refine ⟨_, PSs.nox (pss_cons (ps_set (i := 3) sc_offs_by.nd rfl (.inl rfl) (pe_lst (pa_cons pe_int pa_nil)))
    (pss_cons (ps_for PassesOwn.never rfl (pi_tup (pv 0)) (pg_name (i := 4) sc_offs_by.nd rfl (.inl rfl)) (pss_one (ps_expr (pe_bm PySem.F.plainAttrs_list PySem.F.slot_list_append PySem.F.type_list_append mt_append (pv 3) (pa_cons (pe_op op_sub (pe_op op_add (pe_ix ix_list (pv 3) (pe_un un_neg pe_int) (fun _ _ => rfl)) (pe_op op_mul (pv 2) (pv 4))) (pv 1)) pa_nil)))))
    (pss_one (ps_ret (pv 3))))), ?_⟩
    have hsl : sizeLine = 16777216 := by decide
    refine ⟨(show 1 ≤ sizeLine by decide), fun p np => ?_⟩
    have s0 : Same H (upd H p (.lst [.int 0])) := same_upd np
    refine ⟨.ref a, rfl, a, rfl, ⟨_, SqT.mk (s0 _ _ ha)⟩, for_tup (xs := rs.map V.int) (fun i σ H1 => ∃ y3, σ = [some (.ref a), some (.int rs.sum), some (.int (rs.length : Nat)), some (.ref p), y3] ∧ Same H H1 ∧ H1 p = some (.lst (OL rs i ++ [.int (Df rs i)]))) ⟨none, rfl, s0, ?_⟩ ?_ ?_ ?_⟩
    · rw [upd_same, Df_zero]
      rfl
    · rintro i σ H1 hi ⟨y3, rfl, s1, hp⟩
      exact SqT.mk (s1 _ _ ha)
    · rintro i x σ H1 hx ⟨y3, rfl, s1, hp⟩
      rw [List.getElem?_map] at hx
      obtain ⟨b, hb, rfl⟩ := Option.map_eq_some_iff.mp hx
      have hi : i < rs.length := (List.getElem?_eq_some_iff.mp hb).1
      have eb : rs.getD (i % rs.length) 0 = b := by
        rw [Nat.mod_eq_of_lt hi, List.getD_eq_getElem?_getD, hb]
        rfl
      refine ⟨.ref p, rfl, .inl ⟨rfl, _, SqL.mk hp⟩, .ref p, rfl, 1, rfl, p, _, _, _, rfl, rfl, SqL.mk hp, atI_last _ _, ?_⟩
      refine ⟨.int (rs.length : Nat), rfl, .int b, rfl, _, _, rfl, rfl, .inl ⟨by omega, by omega⟩, _, _, rfl, rfl, .int rs.sum, rfl, _, _, rfl, rfl, ?_⟩
      have ll : (OL rs i ++ [V.int (Df rs i)]).length = i + 1 := by
        rw [List.length_append, OL_len]
        rfl
      refine ⟨p, _, _, rfl, rfl, hp, by rw [ll]; omega, ?_⟩
      refine ⟨_, rfl, same_newer s1 np, ?_⟩
      rw [upd_same, OL_succ, Df_step, eb]
    · rintro σ H1 ⟨y3, rfl, s1, hp⟩
      rw [List.length_map, ← OL_succ] at hp
      exact ⟨.ref p, rfl, q H1 p s1 np hp⟩
def sp_offs_of (_ : PySem.W.Frag) : Sp := fun vs H Q _ => ∃ (a : Addr) (rs : List Int), vs = [.ref a] ∧ H a = some (.tup (rs.map V.int)) ∧ rs.length ≤ 100000 ∧
  ∀ H' p, Same H H' → H p = none → H' p = some (.lst (OL rs (rs.length + 1))) → Q (.ref p) H'
theorem ok_offs_of (T : Defs K mg) : FnOk P w K mg base CX0 2 T.f_offs_of T.fd_offs_of ["row"] (sp_offs_of K) := by
  have G_offs_by : FnOk P w K mg base CX0 1 T.f_offs_by T.fd_offs_by ["row", "many", "length"] (sp_offs_by K) := ok_offs_by T
  have G_ones : FnOk P w K mg base CX0 1 T.f_ones T.fd_ones ["row"] (sp_ones K) := ok_ones T
  refine T.F_offs_of.ok sc_offs_of (fun vs H Q E h => ?_) (fun cdv A outer s H vs Q E hr h => ?_)
  · obtain ⟨a, rs, rfl, ha, hl, q⟩ := h
    rfl
  · obtain ⟨a, rs, rfl, ha, hl, q⟩ := h
    refine ⟨_, PSs.nox (pss_one (ps_ret (pe_call G_offs_by (hr.mono (by decide)) (by rfl) T.g_offs_by T.F_offs_by.kp T.b_offs_by .nil pass0 (pa_cons (pv 0) (pa_cons (pe_call G_ones (hr.mono (by decide)) (by rfl) T.g_ones T.F_ones.kp T.b_ones .nil pass0 (pa_cons (pv 0) pa_nil)) (pa_cons (pe_callB call_len_seq (by rfl) T.m_len bt_len (pa_cons (pv 0) pa_nil)) pa_nil)))))), ?_⟩
    refine ⟨.ref a, rfl, .ref a, rfl, a, rs, rfl, ha, .ref a, rfl, a, _, rfl, .inr (SqT.mk ha), a, rs, by rw [List.length_map]; rfl, ha, hl, q⟩
theorem s_len {n : Nat} (h : n ≤ 100000) : S 4000 (n : Int) := S.mono (n := 20) (show ((n : Int)).natAbs < 2 ^ 20 by omega) (by decide)
/-! the program: the worst stretch -/
theorem ix_at {xs : List Int} {w : Int} {j : Nat} (h3 : xs[j]? = some w) : (xs.map V.int)[j]? = some (.int w) := by
  rw [List.getElem?_map, h3]
  rfl
theorem ix_no {xs : List Int} {w : Int} {j : Nat} (h4 : ∀ m, m < j → xs[m]? ≠ some w) : ∀ (m : Nat) (z' : V), m < j → (xs.map V.int)[m]? = some z' → eqV z' (.int w) = false := fun m z' hm e => by
  rw [List.getElem?_map] at e
  obtain ⟨x, hx, rfl⟩ := Option.map_eq_some_iff.mp e
  have hx0 : x ≠ w := fun y => h4 m hm (by rw [hx, y])
  show (x == w) = false
  exact beq_eq_false_iff_ne.mpr hx0
def sp_worst_stretch (_ : PySem.W.Frag) : Sp := fun vs H Q _ => ∃ (a : Addr) (rs : List Int), vs = [.ref a] ∧ H a = some (.tup (rs.map V.int)) ∧ 1 ≤ rs.length ∧ rs.length ≤ 100000 ∧
  ∀ H' t p L G iL iG, Same H H' → H t = none → H' t = some (.tup [.ref p, .int ((min iL iG : Nat) : Int), .int ((max iL iG : Nat) : Int)]) → H' p = some (.tup [.int (frT (G - L) rs.length), .int (frB (G - L) rs.length)]) → Ends (Df rs) rs.length L G iL iG → Q (.ref t) H'
theorem ok_worst_stretch (T : Defs K mg) : FnOk P w K mg base CX0 3 T.f_worst_stretch T.fd_worst_stretch ["row"] (sp_worst_stretch K) := by
  have G_offs_of : FnOk P w K mg base CX0 2 T.f_offs_of T.fd_offs_of ["row"] (sp_offs_of K) := ok_offs_of T
  have G_fraction : FnOk P w K mg base CX0 2 T.f_fraction T.fd_fraction ["top", "bottom"] (sp_fraction K) := ok_fraction T
  refine T.F_worst_stretch.ok sc_worst_stretch (fun vs H Q E h => ?_) (fun cdv A outer s H vs Q E hr h => ?_)
  · obtain ⟨a, rs, rfl, ha, h1, hl, q⟩ := h
    rfl
  · obtain ⟨a, rs, rfl, ha, h1, hl, q⟩ := h
    refine ⟨_, PSs.nox (pss_cons (ps_set (i := 1) sc_worst_stretch.nd rfl (.inl rfl) (pe_call G_offs_of (hr.mono (by decide)) (by rfl) T.g_offs_of T.F_offs_of.kp T.b_offs_of .nil pass0 (pa_cons (pv 0) pa_nil)))
    (pss_cons (ps_set (i := 2) sc_worst_stretch.nd rfl (.inl rfl) (pe_callB (cr_min rfl) (by rfl) T.m_min bt_min (pa_cons (pv 1) pa_nil)))
    (pss_cons (ps_set (i := 3) sc_worst_stretch.nd rfl (.inl rfl) (pe_callB (cr_max rfl) (by rfl) T.m_max bt_max (pa_cons (pv 1) pa_nil)))
    (pss_cons (ps_set (i := 4) sc_worst_stretch.nd rfl (.inl rfl) (pe_callB (call_min2 rfl) (by rfl) T.m_min bt_min (pa_cons (pe_bm PySem.F.plainAttrs_list PySem.F.slot_list_index PySem.F.type_list_index mt_index (pv 1) (pa_cons (pv 2) pa_nil)) (pa_cons (pe_bm PySem.F.plainAttrs_list PySem.F.slot_list_index PySem.F.type_list_index mt_index (pv 1) (pa_cons (pv 3) pa_nil)) pa_nil))))
    (pss_cons (ps_set (i := 5) sc_worst_stretch.nd rfl (.inl rfl) (pe_callB (call_max2 rfl) (by rfl) T.m_max bt_max (pa_cons (pe_bm PySem.F.plainAttrs_list PySem.F.slot_list_index PySem.F.type_list_index mt_index (pv 1) (pa_cons (pv 2) pa_nil)) (pa_cons (pe_bm PySem.F.plainAttrs_list PySem.F.slot_list_index PySem.F.type_list_index mt_index (pv 1) (pa_cons (pv 3) pa_nil)) pa_nil))))
    (pss_one (ps_ret (pe_tup (pa_cons (pe_call G_fraction (hr.mono (by decide)) (by rfl) T.g_fraction T.F_fraction.kp T.b_fraction .nil pass0 (pa_cons (pe_op op_sub (pv 3) (pv 2)) (pa_cons (pe_callB call_len_seq (by rfl) T.m_len bt_len (pa_cons (pv 0) pa_nil)) pa_nil))) (pa_cons (pv 4) (pa_cons (pv 5) pa_nil))))))))))), ?_⟩
    refine ⟨.ref a, rfl, a, rs, rfl, ha, hl, fun H1 p s1 np hp => ?_⟩
    have hp' : H1 p = some (.lst (((List.range (rs.length + 1)).map (Df rs)).map V.int)) := hp
    have pos : 0 < ((List.range (rs.length + 1)).map (Df rs)).length := by
      rw [List.length_map, List.length_range]
      omega
    refine ⟨.ref p, rfl, p, _, rfl, SqL.mk hp', pos, fun L hL mL => ?_⟩
    refine ⟨.ref p, rfl, p, _, rfl, SqL.mk hp', pos, fun G hG mG => ?_⟩
    obtain ⟨iL, l1, l2⟩ := first_of hL
    obtain ⟨iG, g1, g2⟩ := first_of hG
    have ends := Ends.of_list mL l1 l2 mG g1 g2
    refine ⟨.ref p, rfl, .inl ⟨rfl, _, SqL.mk hp'⟩, .int L, rfl, p, _, .int L, iL, .int L, rfl, rfl, SqL.mk hp', rfl, flat_ints _, ix_at l1, beq_self_eq_true L, ix_no l2, ?_⟩
    refine ⟨.ref p, rfl, .inl ⟨rfl, _, SqL.mk hp'⟩, .int G, rfl, p, _, .int G, iG, .int G, rfl, rfl, SqL.mk hp', rfl, flat_ints _, ix_at g1, beq_self_eq_true G, ix_no g2, _, _, rfl, ?_⟩
    refine ⟨.ref p, rfl, .inl ⟨rfl, _, SqL.mk hp'⟩, .int L, rfl, p, _, .int L, iL, .int L, rfl, rfl, SqL.mk hp', rfl, flat_ints _, ix_at l1, beq_self_eq_true L, ix_no l2, ?_⟩
    refine ⟨.ref p, rfl, .inl ⟨rfl, _, SqL.mk hp'⟩, .int G, rfl, p, _, .int G, iG, .int G, rfl, rfl, SqL.mk hp', rfl, flat_ints _, ix_at g1, beq_self_eq_true G, ix_no g2, _, _, rfl, ?_⟩
    have e1 : (if (iG : Int) < (iL : Int) then (iG : Int) else (iL : Int)) = ((min iL iG : Nat) : Int) := by
      split <;> omega
    have e2 : (if (iG : Int) > (iL : Int) then (iG : Int) else (iL : Int)) = ((max iL iG : Nat) : Int) := by
      split <;> omega
    refine ⟨.int G, rfl, .int L, rfl, _, _, rfl, rfl, .ref a, rfl, a, _, rfl, .inr (SqT.mk (s1 _ _ ha)), G - L, rs.length, by rw [List.length_map]; rfl, by omega, s_len hl, fun H3 f s3 nf hf => ?_⟩
    refine ⟨_, rfl, _, rfl, (show 3 ≤ sizeLine by decide), fun t nt => ?_⟩
    rw [e1, e2]
    exact q _ t f L G iL iG ((s1.trans s3).trans (same_upd nt)) (s1.free (s3.free nt)) upd_same ((same_upd nt) _ _ hf) ends
/-! rows of eight ways -/
theorem rp_bits {k : Nat} {x : Int} (hx : x = 0 ∨ x = 1) : Bits (List.replicate k x) := fun y hy => by
  rw [List.eq_of_mem_replicate hy]
  exact hx
theorem ap_bits {xs ys : List Int} (h1 : Bits xs) (h2 : Bits ys) : Bits (xs ++ ys) := fun y hy => by
  rcases List.mem_append.mp hy with z | z
  · exact h1 y z
  · exact h2 y z
theorem nat_of {x : Int} (h : 0 ≤ x) : ∃ m : Nat, x = (m : Nat) := Int.eq_ofNat_of_zero_le h
theorem b01 {c : Prop} [Decidable c] : (if c then (1 : Int) else 0) = 0 ∨ (if c then (1 : Int) else 0) = 1 := by
  split
  · exact .inr rfl
  · exact .inl rfl
def sp__law_row (_ : PySem.W.Frag) : Sp := fun vs H Q _ => ∃ (p : Addr) (m n : Nat), vs = [.ref p, .int (m : Nat)] ∧ Bx H p n ∧ 1 ≤ m ∧ m ≤ 4096 ∧ n < 1000000000 ∧
  ∀ H' a (rs : List Int), But p H H' → Bx H' p (n + 5000) → H' a = some (.tup (rs.map V.int)) → rs.length = m → Bits rs → Q (.ref a) H'
theorem ok__law_row (T : Defs K mg) : FnOk P w K mg base CX0 2 T.f__law_row T.fd__law_row ["_law_box_here", "_law_many"] (sp__law_row K) := by
  have G__law_take : FnOk P w K mg base CX0 1 T.f__law_take T.fd__law_take ["_law_box_here", "_law_many"] (sp__law_take K) := ok__law_take T
  refine T.F__law_row.ok sc__law_row (fun vs H Q E h => ?_) (fun cdv A outer s H vs Q E hr h => ?_)
  · obtain ⟨p, m, n, rfl, hB, hm, hm2, hn, q⟩ := h
    rfl
  · obtain ⟨p, m, n, rfl, hB, hm, hm2, hn, q⟩ := h
    refine ⟨_, PSs.nox (pss_cons (ps_set (i := 2) sc__law_row.nd rfl (.inl rfl) (pe_call G__law_take (hr.mono (by decide)) (by rfl) T.g__law_take T.F__law_take.kp T.b__law_take .nil pass0 (pa_cons (pv 0) (pa_cons pe_int pa_nil))))
    (pss_cons (ps_if (pt_cmpR op_lt (pv 2) pe_int (nomark _)) (pss_one (ps_ret (pe_callTy call_tuple_of (by rfl) T.m_tuple bt_tuple (pa_cons (pe_lc (own := [("_law_k", 6)]) (g := gName 6) (tt := tYes) rfl sc__law_row.nd (pi_range1 (by rfl) T.m_range (pa_cons (pv 1) pa_nil)) (blkOk_by (N := N__law_row) (sc := defScope s__law_row) (by decide +kernel)) (fun _ _ _ _ _ => (pg_name (i := 6) sc__law_row.nd rfl (.inl rfl))) (fun _ _ _ _ _ => pts_nil) (fun _ _ _ _ _ => (pe_call G__law_take (hr.mono (by decide)) (by rfl) T.g__law_take T.F__law_take.kp T.b__law_take .nil pass0 (pa_cons (pv 0) (pa_cons pe_int pa_nil))))) pa_nil)))) pss_nil)
    (pss_cons (ps_if (pt_cmpR op_eq (pv 2) pe_int (nomark _)) (pss_one (ps_ret (pe_op op_repA (pe_tup (pa_cons (pe_call G__law_take (hr.mono (by decide)) (by rfl) T.g__law_take T.F__law_take.kp T.b__law_take .nil pass0 (pa_cons (pv 0) (pa_cons pe_int pa_nil))) pa_nil)) (pv 1)))) pss_nil)
    (pss_cons (ps_asg (pe_tup (pa_cons (pe_call G__law_take (hr.mono (by decide)) (by rfl) T.g__law_take T.F__law_take.kp T.b__law_take .nil pass0 (pa_cons (pv 0) (pa_cons (pe_op op_add (pv 1) pe_int) pa_nil))) (pa_cons (pe_op op_add pe_int (pe_call G__law_take (hr.mono (by decide)) (by rfl) T.g__law_take T.F__law_take.kp T.b__law_take .nil pass0 (pa_cons (pv 0) (pa_cons (pv 1) pa_nil)))) (pa_cons (pe_call G__law_take (hr.mono (by decide)) (by rfl) T.g__law_take T.F__law_take.kp T.b__law_take .nil pass0 (pa_cons (pv 0) (pa_cons (pv 1) pa_nil))) pa_nil)))) (pg_tup rfl (pgs_cons (pg_name (i := 3) sc__law_row.nd rfl (.inr rfl)) (pgs_cons (pg_name (i := 4) sc__law_row.nd rfl (.inr rfl)) (pgs_cons (pg_name (i := 5) sc__law_row.nd rfl (.inr rfl)) pgs_nil)))))
    (pss_cons (ps_if (pt_cmpR op_eq (pv 2) pe_int (nomark _)) (pss_one (ps_ret (pe_op op_catA (pe_op op_repB (pe_tup (pa_cons pe_int pa_nil)) (pv 3)) (pe_op op_repB (pe_tup (pa_cons pe_int pa_nil)) (pe_op op_sub (pv 1) (pv 3)))))) pss_nil)
    (pss_cons (ps_if (pt_cmpR op_eq (pv 2) pe_int (nomark _)) (pss_one (ps_ret (pe_op op_catA (pe_op op_repB (pe_tup (pa_cons pe_int pa_nil)) (pe_op op_sub (pv 1) (pv 3))) (pe_op op_repB (pe_tup (pa_cons pe_int pa_nil)) (pv 3))))) pss_nil)
    (pss_cons (ps_if (pt_cmpR op_eq (pv 2) pe_int (nomark _)) (pss_one (ps_ret (pe_callTy call_tuple_of (by rfl) T.m_tuple bt_tuple (pa_cons (pe_lc (own := [("_law_k", 6)]) (g := gName 6) (tt := tYes) rfl sc__law_row.nd (pi_range1 (by rfl) T.m_range (pa_cons (pv 1) pa_nil)) (blkOk_by (N := N__law_row) (sc := defScope s__law_row) (by decide +kernel)) (fun _ _ _ _ _ => (pg_name (i := 6) sc__law_row.nd rfl (.inl rfl))) (fun _ _ _ _ _ => pts_nil) (fun _ _ _ _ _ => (pe_callTy call_int1 (by rfl) T.m_int bt_int (pa_cons (pe_cmpR op_lt (pe_op op_mod (pe_op op_add (pv 5) (pe_op op_mul (pv 4) (pv 6))) (pv 1)) (pv 3) (nomark _)) pa_nil)))) pa_nil)))) pss_nil)
    (pss_one (ps_ret (pe_callTy call_tuple_of (by rfl) T.m_tuple bt_tuple (pa_cons (pe_lc (own := [("_law_k", 6)]) (g := gName 6) (tt := tYes) rfl sc__law_row.nd (pi_range1 (by rfl) T.m_range (pa_cons (pv 1) pa_nil)) (blkOk_by (N := N__law_row) (sc := defScope s__law_row) (by decide +kernel)) (fun _ _ _ _ _ => (pg_name (i := 6) sc__law_row.nd rfl (.inl rfl))) (fun _ _ _ _ _ => pts_nil) (fun _ _ _ _ _ => (pe_callTy call_int1 (by rfl) T.m_int bt_int (pa_cons (pe_cmpR op_eq (pe_call G__law_take (hr.mono (by decide)) (by rfl) T.g__law_take T.F__law_take.kp T.b__law_take .nil pass0 (pa_cons (pv 0) (pa_cons pe_int pa_nil))) pe_int (nomark _)) pa_nil)))) pa_nil))))))))))), ?_⟩
    refine ⟨.ref p, rfl, p, 8, n, rfl, hB, by decide, by decide, by omega, fun H1 r1 b1 B1 l1 u1 => ?_⟩
    refine ⟨.int r1, rfl, _, _, rfl, rfl, _, rfl, ite2 (fun _ => ?_) (fun _ => ?_)⟩
    · refine ⟨.int (m : Nat), rfl, m, rfl, by omega, by omega, fun D nD => ?_⟩
      refine lc_range (PV p D H1 (n + 1)) (pv_start nD B1) (fun i H5 hi h5 => ?_) (fun H5 h5 => ?_)
      · refine ⟨rfl, yes_ite ?_⟩
        have h5' := h5
        obtain ⟨_, _, _, _, B5, _⟩ := h5'
        refine ⟨.ref p, rfl, p, 2, n + 1 + i, rfl, B5, by decide, by decide, by omega, fun H6 r6 b6 B6 l6 u6 => ?_⟩
        exact pv_step nD (ne_new B1 nD) h5 b6 B6 (by omega) (by omega)
      · obtain ⟨rs, hl, hb, b5, B5, hD⟩ := h5
        refine ⟨D, _, rfl, .inl ⟨SqL.mk hD, fun l nl => ?_⟩⟩
        exact q _ l rs ((b1.trans b5).new nl) ((B5.new nl).mono (by omega)) upd_same (by omega) hb
    refine ⟨.int r1, rfl, rfl, _, rfl, ite2 (fun _ => ?_) (fun _ => ?_)⟩
    · refine ⟨.ref p, rfl, p, 2, n + 1, rfl, B1, by decide, by decide, by omega, fun H2 r2 b2 B2 l2 u2 => ?_⟩
      have hbit : r2 = 0 ∨ r2 = 1 := by omega
      refine ⟨(show 1 ≤ sizeLine by decide), fun t nt => ?_⟩
      refine ⟨.int (m : Nat), rfl, t, m, _, rfl, rfl, SqT.mk upd_same, by simp, hm, (show 1 * m ≤ 1000000 by omega), fun z => ?_, fun z a na => ?_⟩
      · exact q _ t [r2] ((b1.trans b2).new nt) ((B2.new nt).mono (by omega)) upd_same z.symm (fun x hx => by
          rw [List.mem_singleton] at hx
          rw [hx]
          exact hbit)
      · refine q _ a (List.replicate m r2) (((b1.trans b2).new nt).new na) (((B2.new nt).new na).mono (by omega)) ?_ List.length_replicate (rp_bits hbit)
        rw [upd_same, rep_one]
    refine ⟨.ref p, rfl, .int (m : Nat), rfl, _, _, rfl, rfl, p, _, n + 1, rfl, B1, by omega, by omega, by omega, fun H2 r2 b2 B2 l2 u2 => ?_⟩
    refine ⟨.ref p, rfl, .int (m : Nat), rfl, p, m, n + 2, rfl, B2, by omega, by omega, by omega, fun H3 r3 b3 B3 l3 u3 => ⟨_, _, rfl, rfl, ?_⟩⟩
    refine ⟨.ref p, rfl, .int (m : Nat), rfl, p, m, n + 3, rfl, B3, by omega, by omega, by omega, fun H4 r4 b4 B4 l4 u4 => ?_⟩
    obtain ⟨c, rfl⟩ := nat_of l2
    refine ⟨(show 3 ≤ sizeLine by decide), fun t nt => ?_⟩
    refine ⟨t, _, rfl, SqT.mk upd_same, rfl, _, _, rfl, _, _, rfl, _, _, rfl, rfl, ?_⟩
    have B5 := B4.new (o := .tup [.int (c : Nat), .int (1 + r3), .int r4]) nt
    have b5 := (((b1.trans b2).trans b3).trans b4).new (o := .tup [.int (c : Nat), .int (1 + r3), .int r4]) nt
    generalize upd H4 t (.tup [.int (c : Nat), .int (1 + r3), .int r4]) = H5 at *
    refine ⟨.int r1, rfl, rfl, _, rfl, ite2 (fun _ => ?_) (fun _ => ?_)⟩
    · refine ⟨(show 1 ≤ sizeLine by decide), fun t1 n1 => ?_⟩
      refine ⟨.int (c : Nat), rfl, rep_go (k := c) rfl upd_same (by omega) fun G1 p1 s1 hp1 => ?_⟩
      refine ⟨(show 1 ≤ sizeLine by decide), fun t2 n2 => ?_⟩
      refine ⟨.int (m : Nat), rfl, .int (c : Nat), rfl, _, _, rfl, rfl, rep_go (k := m - c) (by omega) upd_same (by omega) fun G2 p2 s2 hp2 => ?_⟩
      refine cat_go (rs := List.replicate c 1) (ss := List.replicate (m - c) 0) (s2 _ _ ((same_upd n2) _ _ hp1)) hp2 (by rw [List.length_replicate, List.length_replicate]; omega) fun G3 o s3 ho => ?_
      have S3 : Same H5 G3 := (((same_upd n1).trans s1).trans ((same_upd n2).trans s2)).trans s3
      exact q G3 o _ (b5.trans (same_but S3)) ((B5.same S3).mono (by omega)) ho (by rw [List.length_append, List.length_replicate, List.length_replicate]; omega) (ap_bits (rp_bits (.inr rfl)) (rp_bits (.inl rfl)))
    refine ⟨.int r1, rfl, rfl, _, rfl, ite2 (fun _ => ?_) (fun _ => ?_)⟩
    · refine ⟨(show 1 ≤ sizeLine by decide), fun t1 n1 => ?_⟩
      refine ⟨.int (m : Nat), rfl, .int (c : Nat), rfl, _, _, rfl, rfl, rep_go (k := m - c) (by omega) upd_same (by omega) fun G1 p1 s1 hp1 => ?_⟩
      refine ⟨(show 1 ≤ sizeLine by decide), fun t2 n2 => ?_⟩
      refine ⟨.int (c : Nat), rfl, rep_go (k := c) rfl upd_same (by omega) fun G2 p2 s2 hp2 => ?_⟩
      refine cat_go (rs := List.replicate (m - c) 0) (ss := List.replicate c 1) (s2 _ _ ((same_upd n2) _ _ hp1)) hp2 (by rw [List.length_replicate, List.length_replicate]; omega) fun G3 o s3 ho => ?_
      have S3 : Same H5 G3 := (((same_upd n1).trans s1).trans ((same_upd n2).trans s2)).trans s3
      exact q G3 o _ (b5.trans (same_but S3)) ((B5.same S3).mono (by omega)) ho (by rw [List.length_append, List.length_replicate, List.length_replicate]; omega) (ap_bits (rp_bits (.inl rfl)) (rp_bits (.inr rfl)))
    refine ⟨.int r1, rfl, rfl, _, rfl, ite2 (fun _ => ?_) (fun _ => ?_)⟩
    · refine ⟨.int (m : Nat), rfl, m, rfl, by omega, by omega, fun D nD => ?_⟩
      refine lc_range (PV p D H5 (n + 4)) (pv_start nD B5) (fun i H6 hi h6 => ?_) (fun H6 h6 => ?_)
      · refine ⟨rfl, yes_ite ?_⟩
        have h6' := h6
        obtain ⟨_, _, _, _, B6, _⟩ := h6'
        have st : ∀ x : Int, (x = 0 ∨ x = 1) → _ := fun x hx => pv_step (H4 := H6) nD (ne_new B5 nD) h6 (But.refl p H6) (B6.mono (by omega)) (by omega) hx
        refine ⟨.int r4, rfl, .int (1 + r3), rfl, _, rfl, _, _, rfl, rfl, .inl ⟨by omega, by omega⟩, _, _, rfl, rfl, .int (m : Nat), rfl, _, _, rfl, rfl, (show (0 : Int) < (m : Int) by omega), .int (c : Nat), rfl, _, _, rfl, rfl, .inr ⟨_, rfl, st _ b01⟩⟩
      · obtain ⟨rs, hl, hb, b6, B6, hD⟩ := h6
        refine ⟨D, _, rfl, .inl ⟨SqL.mk hD, fun l nl => ?_⟩⟩
        exact q _ l rs ((b5.trans b6).new nl) ((B6.new nl).mono (by omega)) upd_same (by omega) hb
    · refine ⟨.int (m : Nat), rfl, m, rfl, by omega, by omega, fun D nD => ?_⟩
      refine lc_range (PV p D H5 (n + 4)) (pv_start nD B5) (fun i H6 hi h6 => ?_) (fun H6 h6 => ?_)
      · refine ⟨rfl, yes_ite ?_⟩
        have h6' := h6
        obtain ⟨_, _, _, _, B6, _⟩ := h6'
        refine ⟨.ref p, rfl, p, 9, n + 4 + i, rfl, B6, by decide, by decide, by omega, fun H7 r7 b7 B7 l7 u7 => ⟨rfl, .inr ⟨_, rfl, ?_⟩⟩⟩
        exact pv_step nD (ne_new B5 nD) h6 b7 B7 (by omega) b01
      · obtain ⟨rs, hl, hb, b6, B6, hD⟩ := h6
        refine ⟨D, _, rfl, .inl ⟨SqL.mk hD, fun l nl => ?_⟩⟩
        exact q _ l rs ((b5.trans b6).new nl) ((B6.new nl).mono (by omega)) upd_same (by omega) hb
/-! the law's lowest terms -/
def sp__law_lowest (_ : PySem.W.Frag) : Sp := fun vs H Q _ => ∃ t b : Int, vs = [.int t, .int b] ∧ 0 ≤ t ∧ 0 < b ∧ S 4000 b ∧ ∀ H' p, Same H H' → H p = none → H' p = some (.tup [.int (frT t b), .int (frB t b)]) → Q (.ref p) H'
theorem ok__law_lowest (T : Defs K mg) : FnOk P w K mg base CX0 1 T.f__law_lowest T.fd__law_lowest ["_law_top", "_law_bottom"] (sp__law_lowest K) := by
  refine T.F__law_lowest.ok sc__law_lowest (fun vs H Q E h => ?_) (fun cdv A outer s H vs Q E hr h => ?_)
  · obtain ⟨t, b, rfl, ht, hb, hs, q⟩ := h
    rfl
  · obtain ⟨t, b, rfl, ht, hb, hs, q⟩ := h
    refine ⟨_, PSs.nox (pss_cons (ps_par (i := 2) (j := 3) (by rfl) sc__law_lowest.nd rfl rfl (by decide) rfl rfl (pa_cons (pv 0) (pa_cons (pv 1) pa_nil)) (by rfl))
    (pss_cons (ps_while PassesOwn.never (pt_cmpR op_gt (pv 3) pe_int (nomark _)) (pss_one (ps_par (i := 2) (j := 3) (by rfl) sc__law_lowest.nd rfl rfl (by decide) rfl rfl (pa_cons (pv 3) (pa_cons (pe_op op_mod (pv 2) (pv 3)) pa_nil)) (by rfl))))
    (pss_one (ps_ret (pe_tup (pa_cons (pe_op op_fdivNW (pv 0) (pv 2)) (pa_cons (pe_op op_fdivNW (pv 1) (pv 2)) pa_nil))))))), ?_⟩
    refine ⟨.int t, rfl, .int b, rfl, _, _, rfl, ?_⟩
    refine while_by (fun σ H1 => H1 = H ∧ ∃ x y : Nat, σ = [some (.int t), some (.int b), some (.int (x : Nat)), some (.int (y : Nat))] ∧ Nat.gcd x y = Int.gcd t b) (fun σ _ => match σ with | [_, _, _, some (.int y)] => y.toNat | _ => 0) ⟨rfl, t.natAbs, b.natAbs, ?_, rfl⟩ ?_ ?_
    · rw [Int.natAbs_of_nonneg ht, Int.natAbs_of_nonneg (Int.le_of_lt hb)]
      rfl
    · rintro σ H1 ⟨rfl, x, y, rfl, hg⟩
      refine ⟨.int (y : Nat), rfl, _, _, rfl, rfl, _, rfl, ite2 (fun e => ?_) (fun e => ?_)⟩
      · have hy : (0 : Int) < (y : Int) := of_decide_eq_true e
        refine ⟨.int (y : Nat), rfl, .int (x : Nat), rfl, .int (y : Nat), rfl, _, _, rfl, rfl, hy, _, _, rfl, ⟨rfl, y, x % y, ?_, ?_⟩, ?_⟩
        · rfl
        · rw [gcd_step, hg]
        · show ((x : Int) % (y : Int)).toNat < ((y : Int)).toNat
          have := Int.emod_lt_of_pos (x : Int) hy
          have := Int.emod_nonneg (x : Int) (show (y : Int) ≠ 0 by omega)
          omega
      · have hy : ¬ (0 : Int) < (y : Int) := fun z => e (decide_eq_true z)
        have y0 : y = 0 := by omega
        subst y0
        rw [Nat.gcd_zero_right] at hg
        subst hg
        have hp : 0 < Int.gcd t b := Int.gcd_pos_of_ne_zero_right t (by omega)
        have hd := gcd_small (t := t) (show b ≠ 0 by omega) hs
        refine ⟨.int t, rfl, .int (Int.gcd t b : Nat), rfl, _, _, rfl, rfl, ⟨by omega, hd⟩, .int b, rfl, .int (Int.gcd t b : Nat), rfl, _, _, rfl, rfl, ⟨by omega, hd⟩, (show 2 ≤ sizeLine by decide), fun p np => ?_⟩
        refine q _ p (same_upd np) np ?_
        rw [upd_same]
        exact congrArg some (by rw [← (fr_ge t hb).1, ← (fr_ge t hb).2])
    · rintro σ H1 Q1 Q2 hQ ⟨v, hv, i, j, e1, e2, k, e3, h3⟩
      exact ⟨v, hv, i, j, e1, e2, k, e3, hQ _ _ h3⟩
/-! a row's begin -/
theorem slice_take {K : PySem.W.Frag} {H : Hp} {a : Addr} {rs : List Int} {b : Nat} {Q : VK} (ha : H a = some (.tup (rs.map V.int))) (hb : b ≤ rs.length)
    (q : ∀ H' p, Same H H' → H' p = some (.tup ((rs.take b).map V.int)) → Q (.ref p) H') : rSlA K (.ref a) none (some (b : Int)) H Q := by
  refine ⟨a, _, rfl, SqT.mk ha, fun z => ?_, fun z p np => ?_⟩
  · have z1 := z.2
    rw [HT.sIx_nat, List.length_map] at z1
    refine q H a (Same.refl H) ?_
    rw [List.take_of_length_le (by omega)]
    exact ha
  · refine q _ p (same_upd np) ?_
    rw [upd_same, cut_take]
theorem bits_sum : ∀ (r : List Int), Bits r → 0 ≤ r.sum ∧ r.sum ≤ r.length
  | [], _ => ⟨Int.le_refl 0, Int.le_refl 0⟩
  | x :: r, h => by
    have ih := bits_sum r fun y hy => h y (List.mem_cons_of_mem _ hy)
    have hx := h x List.mem_cons_self
    rw [List.sum_cons, List.length_cons]
    omega
/-! the law's look at all stretches -/
theorem kIn {K : PySem.W.Frag} {a b : String} {r : Bool} (h : kitB a b = some r) : PySem.W.kitOne K (.type a) (.type b) = some r := kit_ty h
theorem k_ib : kitB "int" "bool" = some false := by decide +kernel
theorem k_tb : kitB "tuple" "bool" = some false := by decide +kernel
theorem k_tt : kitB "tuple" "tuple" = some true := by decide +kernel
theorem slK {X : Cx} {K : PySem.W.Frag} (h : X.K = K) : SlR X (rSlL K) := by
  subst h
  exact sl_list
theorem inK {X : Cx} {K : PySem.W.Frag} (h : X.K = K) : OpR X (compareOp .In) (rIn K false) := by
  subst h
  exact op_in_seq
theorem listK {X : Cx} {K : PySem.W.Frag} {tg e : Expr} {t : TE} (h : X.K = K) (he : PE X e t) : PI X tg e (iList K t) := by
  subst h
  exact pi_list he
theorem at_twice {rs : List Int} {n : Nat} {x : Int} (hx : x = (n : Int)) (hn : n < 2 * rs.length) : atI ((rs ++ rs).map V.int) x = some (.int (rs.getD (n % rs.length) 0)) := by
  subst hx
  have hl : n % rs.length < rs.length := Nat.mod_lt _ (by omega)
  refine atI_nat ?_
  rw [List.getElem?_map, List.getD_eq_getElem?_getD, List.getElem?_eq_getElem hl]
  by_cases h : n < rs.length
  · rw [List.getElem?_append_left h]
    simp only [Nat.mod_eq_of_lt h]
    rw [List.getElem?_eq_getElem h]
    rfl
  · rw [List.getElem?_append_right (by omega)]
    have e : n % rs.length = n - rs.length := by
      rw [Nat.mod_eq_sub_mod (by omega), Nat.mod_eq_of_lt (by omega)]
    simp only [e]
    rw [List.getElem?_eq_getElem (by omega)]
    rfl
theorem Dab_eq (rs : List Int) (b i : Nat) : (cn rs (b + i) - cn rs b) * (rs.length : Int) - (i : Int) * rs.sum = Df rs (b + i) - Df rs b := by
  unfold Df
  rw [Int.sub_mul, Int.natCast_add, Int.add_mul]
  omega
theorem Bp.round {rs : List Int} {m b0 e0 : Nat} {w : Int} (em : m = rs.length) (h : Bp (Df rs) m (m + 1) (m + 1) w b0 e0) (b n : Nat) (hm : 1 ≤ m) (hb : b < m) : Dab (Df rs) b (b + n) ≤ w := by
  subst em
  have l := Nat.mod_lt (b + n) (show 0 < rs.length by omega)
  have e : Df rs (b + n) = Df rs ((b + n) % rs.length) := by
    have aux : ∀ n, Df rs n = Df rs (n % rs.length) := fun n => by
      induction n using Nat.strongRecOn with
      | ind n ih =>
        by_cases hn : n < rs.length
        · rw [Nat.mod_eq_of_lt hn]
        · obtain ⟨y, rfl⟩ : ∃ y, n = y + rs.length := ⟨n - rs.length, by omega⟩
          rw [Df_again, Nat.add_mod_right, ih y (by omega)]
    exact aux _
  show ((Df rs (b + n) - Df rs b).natAbs : Int) ≤ w
  rw [e]
  generalize (b + n) % rs.length = y at l
  rcases Nat.le_total b y with z | z
  · exact h.most b y ⟨z, by omega, by omega, .inl (by omega)⟩
  · have : ((Df rs b - Df rs y).natAbs : Int) ≤ w := h.most y b ⟨z, by omega, by omega, .inl (by omega)⟩
    omega
def sp__law_off (_ : PySem.W.Frag) : Sp := fun vs H Q _ => ∃ (tw : Addr) (rs : List Int) (b : Nat) (W : Int), vs = [.ref tw, .int (b : Nat), .int rs.sum, .int (rs.length : Nat)] ∧ H tw = some (.tup ((rs ++ rs).map V.int)) ∧ 1 ≤ rs.length ∧ rs.length ≤ 4096 ∧ Bits rs ∧ b < rs.length ∧ 0 ≤ W ∧ (∀ n, Dab (Df rs) b (b + n) ≤ W) ∧
  ∀ H' v, Same H H' → v ≤ W → Q (.int v) H'
theorem ok__law_off (T : Defs K mg) : FnOk P w K mg base CX0 1 T.f__law_off T.fd__law_off ["_law_twice", "_law_begin", "_law_many", "_law_long"] (sp__law_off K) := by
  refine T.F__law_off.ok sc__law_off (fun vs H Q E h => ?_) (fun cdv A outer s H vs Q E hr h => ?_)
  · obtain ⟨tw, rs, b, W, rfl, ht, h1, hl, hb, hbl, W0, hW, q⟩ := h
    rfl
  · obtain ⟨tw, rs, b, W, rfl, ht, h1, hl, hb, hbl, W0, hW, q⟩ := h
    refine ⟨_, PSs.nox (pss_cons (ps_asg (pe_tup (pa_cons pe_int (pa_cons pe_int pa_nil))) (pg_tup rfl (pgs_cons (pg_name (i := 4) sc__law_off.nd rfl (.inl rfl)) (pgs_cons (pg_name (i := 5) sc__law_off.nd rfl (.inl rfl)) pgs_nil))))
    (pss_cons (ps_for PassesOwn.never rfl (pi_range2 (by rfl) T.m_range (pa_cons pe_int (pa_cons (pe_op op_add (pv 3) pe_int) pa_nil))) (pg_name (i := 6) sc__law_off.nd rfl (.inl rfl)) (pss_cons (ps_set (i := 4) sc__law_off.nd rfl (.inl rfl) (pe_op op_add (pv 4) (pe_ix ix_tup (pv 0) (pe_op op_sub (pe_op op_add (pv 1) (pv 6)) pe_int) (fun _ _ => rfl))))
    (pss_one (ps_set (i := 5) sc__law_off.nd rfl (.inl rfl) (pe_callB (call_max2 rfl) (by rfl) T.m_max bt_max (pa_cons (pv 5) (pa_cons (pe_callB call_abs (by rfl) T.m_abs bt_abs (pa_cons (pe_op op_sub (pe_op op_mul (pv 4) (pv 3)) (pe_op op_mul (pv 6) (pv 2))) pa_nil)) pa_nil)))))))
    (pss_one (ps_ret (pv 5))))), ?_⟩
    have sm := bits_sum rs hb
    refine ⟨(show 2 ≤ sizeLine by decide), fun t nt => ⟨t, _, rfl, SqT.mk upd_same, rfl, _, _, rfl, _, _, rfl, rfl, ?_⟩⟩
    have s1 : Same H (upd H t (.tup [.int 0, .int 0])) := same_upd nt
    generalize upd H t (.tup [.int 0, .int 0]) = H1 at s1 ⊢
    have ht1 := s1 _ _ ht
    refine ⟨.int (rs.length : Nat), rfl, _, _, rfl, rfl, _, _, rfl, ⟨by decide, by decide, by omega, by omega⟩, ?_⟩
    refine for_range (fun i σ G => ∃ y6 c v, σ = [some (.ref tw), some (.int (b : Nat)), some (.int rs.sum), some (.int (rs.length : Nat)), some (.int c), some (.int v), y6] ∧ G = H1 ∧ c = cn rs (b + i) - cn rs b ∧ v ≤ W) ⟨none, 0, 0, rfl, rfl, by rw [Nat.add_zero]; omega, W0⟩ ?_ ?_
    · rintro i σ G hi ⟨y6, c, v, rfl, rfl, hc, hv⟩
      refine ⟨.int c, rfl, .ref tw, rfl, .int (b : Nat), rfl, .int (1 + (i : Int)), rfl, _, _, rfl, rfl, _, _, rfl, rfl, tw, _, _, _, rfl, rfl, SqT.mk ht1, at_twice (n := b + i) (by omega) (by omega), _, _, rfl, rfl, ?_⟩
      have ec : c + rs.getD ((b + i) % rs.length) 0 = cn rs (b + (i + 1)) - cn rs b := by
        have : cn rs (b + (i + 1)) = cn rs (b + i) + rs.getD ((b + i) % rs.length) 0 := rfl
        omega
      obtain ⟨c', hc'⟩ : ∃ c', c + rs.getD ((b + i) % rs.length) 0 = c' := ⟨_, rfl⟩
      try dsimp only
      rw [hc'] at ec ⊢
      refine ⟨.int v, rfl, .int c', rfl, .int (rs.length : Nat), rfl, _, _, rfl, rfl, .inr ⟨by omega, by omega⟩, .int (1 + (i : Int)), rfl, .int rs.sum, rfl, _, _, rfl, rfl, .inr ⟨by omega, by omega⟩, _, _, rfl, rfl, _, rfl, _, _, rfl, ?_⟩
      have eo : c' * (rs.length : Int) - (1 + (i : Int)) * rs.sum = Df rs (b + (i + 1)) - Df rs b := by
        rw [ec, ← Dab_eq, show ((i + 1 : Nat) : Int) = 1 + (i : Int) by omega]
      have hw := hW (i + 1)
      try dsimp only
      rw [abs_eq, eo]
      refine ⟨_, c', _, rfl, rfl, ec, ?_⟩
      split <;> omega
    · rintro σ G ⟨y6, c, v, rfl, rfl, hc, hv⟩
      exact ⟨.int v, rfl, q _ v s1 hv⟩
theorem eqvP3 {K : PySem.W.Frag} {H : Hp} {t t' p p' : Addr} {a b j k : Int} (ht : H t = some (.tup [.ref p, .int j, .int k])) (ht' : H t' = some (.tup [.ref p', .int j, .int k])) (hp : H p = some (.tup [.int a, .int b])) (hp' : H p' = some (.tup [.int a, .int b])) {Q : VK} (q : Q (.bl false) H) : rNeD K (.ref t) (.ref t') H Q := by
  refine ⟨_, _, .tup (SqT.mk ht) (.cons (.tup (SqT.mk hp) (.cons (.int a) (.cons (.int b) .nil))) (.cons (.int j) (.cons (.int k) .nil))), .tup (SqT.mk ht') (.cons (.tup (SqT.mk hp') (.cons (.int a) (.cons (.int b) .nil))) (.cons (.int j) (.cons (.int k) .nil))), rfl, rfl, ?_⟩
  have e : PyData.eqv (.tuple [.tuple [.int a, .int b], .int j, .int k]) (.tuple [.tuple [.int a, .int b], .int j, .int k]) = true := by
    simp [PyData.eqv, PyData.eqvAll]
  rw [e]
  exact q
def sp__law_right (_ : PySem.W.Frag) : Sp := fun vs H Q _ => ∃ (a : Addr) (rs : List Int), vs = [.ref a] ∧ H a = some (.tup (rs.map V.int)) ∧ 1 ≤ rs.length ∧ rs.length ≤ 4096 ∧ Bits rs ∧ ∀ H', Same H H' → Q (.bl true) H'
theorem ok__law_right (T : Defs K mg) : FnOk P w K mg base CX0 4 T.f__law_right T.fd__law_right ["_law_row_here"] (sp__law_right K) := by
  have G_worst_stretch : FnOk P w K mg base CX0 3 T.f_worst_stretch T.fd_worst_stretch ["row"] (sp_worst_stretch K) := ok_worst_stretch T
  have G__law_off : FnOk P w K mg base CX0 1 T.f__law_off T.fd__law_off ["_law_twice", "_law_begin", "_law_many", "_law_long"] (sp__law_off K) := ok__law_off T
  have G__law_lowest : FnOk P w K mg base CX0 1 T.f__law_lowest T.fd__law_lowest ["_law_top", "_law_bottom"] (sp__law_lowest K) := ok__law_lowest T
  refine T.F__law_right.ok sc__law_right (fun vs H Q E h => ?_) (fun cdv A outer s H vs Q E hr h => ?_)
  · obtain ⟨a, rs, rfl, ha, h1, hl, hb, q⟩ := h
    rfl
  · obtain ⟨a, rs, rfl, ha, h1, hl, hb, q⟩ := h
    refine ⟨_, PSs.nox (pss_cons (ps_asg (pe_tup (pa_cons (pe_callB (cr_sumT rfl) (by rfl) T.m_sum bt_sum (pa_cons (pv 0) pa_nil)) (pa_cons (pe_callB call_len_seq (by rfl) T.m_len bt_len (pa_cons (pv 0) pa_nil)) (pa_cons (pe_tup (pa_cons pe_int (pa_cons pe_int (pa_cons pe_int pa_nil)))) pa_nil)))) (pg_tup rfl (pgs_cons (pg_name (i := 1) sc__law_right.nd rfl (.inr rfl)) (pgs_cons (pg_name (i := 2) sc__law_right.nd rfl (.inr rfl)) (pgs_cons (pg_name (i := 3) sc__law_right.nd rfl (.inr rfl)) pgs_nil)))))
    (pss_cons (ps_set (i := 4) sc__law_right.nd rfl (.inr rfl) (pe_op op_catA (pv 0) (pv 0)))
    (pss_cons (ps_for PassesOwn.never rfl (pi_range1 (by rfl) T.m_range (pa_cons (pe_op op_add (pv 2) pe_int) pa_nil)) (pg_name (i := 5) sc__law_right.nd rfl (.inl rfl)) (pss_cons (ps_set (i := 6) sc__law_right.nd rfl (.inl rfl) pe_int)
    (pss_one (ps_for PassesOwn.never rfl (pi_range2 (by rfl) T.m_range (pa_cons (pv 5) (pa_cons (pe_op op_add (pv 5) (pv 2)) pa_nil))) (pg_name (i := 7) sc__law_right.nd rfl (.inl rfl)) (pss_cons (ps_if (PW.pt (pw_and (pt_cmpR op_le (pv 7) (pv 2) (nomark _)) (pw_and1 (pt_cmpR op_gt (pe_callB call_abs (by rfl) T.m_abs bt_abs (pa_cons (pe_op op_sub (pe_op op_mul (pv 6) (pv 2)) (pe_op op_mul (pe_op op_sub (pv 7) (pv 5)) (pv 1))) pa_nil)) (pe_ix ix_tup (pv 3) pe_int (fun _ _ => rfl)) (nomark _))))) (pss_one (ps_set (i := 3) sc__law_right.nd rfl (.inr rfl) (pe_tup (pa_cons (pe_callB call_abs (by rfl) T.m_abs bt_abs (pa_cons (pe_op op_sub (pe_op op_mul (pv 6) (pv 2)) (pe_op op_mul (pe_op op_sub (pv 7) (pv 5)) (pv 1))) pa_nil)) (pa_cons (pv 5) (pa_cons (pv 7) pa_nil)))))) pss_nil)
    (pss_one (ps_set (i := 6) sc__law_right.nd rfl (.inl rfl) (pe_ifExp (pt_cmpR op_lt (pv 7) (pe_op op_mul pe_int (pv 2)) (nomark _)) (pe_op op_add (pv 6) (pe_ix ix_tup (pv 4) (pv 7) (fun _ _ => rfl))) (pv 6)))))))))
    (pss_cons (ps_if (pt_val (pe_callB (cr_any rfl) (by rfl) T.m_any bt_any (pa_cons (pe_lc (own := [("_law_begin", 5)]) (g := gName 5) (tt := tYes) rfl sc__law_right.nd (pi_range1 (by rfl) T.m_range (pa_cons (pv 2) pa_nil)) (blkOk_by (N := N__law_right) (sc := defScope s__law_right) (by decide +kernel)) (fun _ _ _ _ _ => (pg_name (i := 5) sc__law_right.nd rfl (.inl rfl))) (fun _ _ _ _ _ => pts_nil) (fun _ _ _ _ _ => (pe_cmpR op_gt (pe_call G__law_off (hr.mono (by decide)) (by rfl) T.g__law_off T.F__law_off.kp T.b__law_off .nil pass0 (pa_cons (pv 4) (pa_cons (pv 5) (pa_cons (pv 1) (pa_cons (pv 2) pa_nil))))) (pe_ix (ixtK (K := K) rfl) (pv 3) pe_int (fun _ _ => rfl)) (nomark _)))) pa_nil))) (pss_one (ps_ret pe_bl)) pss_nil)
    (pss_cons (ps_for PassesOwn.never rfl (pi_range1 (by rfl) T.m_range (pa_cons pe_int pa_nil)) (pg_name (i := 8) sc__law_right.nd rfl (.inl rfl)) (pss_cons (ps_set (i := 9) sc__law_right.nd rfl (.inl rfl) (pe_call G_worst_stretch (hr.mono (by decide)) (by rfl) T.g_worst_stretch T.F_worst_stretch.kp T.b_worst_stretch .nil pass0 (pa_cons (pv 0) pa_nil)))
    (pss_cons (ps_if (PW.pt (pw_or (pt_not (pt_val (pe_callB call_isi (by rfl) T.m_isinstance bt_isinstance (pa_cons (pv 9) (pa_cons (pe_bltn (v := .ty "tuple") (by rfl) T.m_tuple bt_tuple rfl) pa_nil))))) (pw_or (pt_cmpR op_ne (pe_callB call_len_seq (by rfl) T.m_len bt_len (pa_cons (pv 9) pa_nil)) pe_int (nomark _)) (pw_or1 (pt_val (pe_callB (cr_any rfl) (by rfl) T.m_any bt_any (pa_cons (pe_lc (own := [("_law_part", 10)]) (g := gName 10) (tt := tYes) rfl sc__law_right.nd (pi_tup (pv 9)) (blkOk_by (N := N__law_right) (sc := defScope s__law_right) (by decide +kernel)) (fun _ _ _ _ _ => (pg_name (i := 10) sc__law_right.nd rfl (.inl rfl))) (fun _ _ _ _ _ => pts_nil) (fun _ _ _ _ _ => (pe_callB (isiK (K := K) rfl) (by rfl) T.m_isinstance bt_isinstance (pa_cons (pv 10) (pa_cons (pe_bltn (v := .ty "bool") (by rfl) T.m_bool bt_bool rfl) pa_nil))))) pa_nil))))))) (pss_one (ps_ret pe_bl)) pss_nil)
    (pss_one (ps_if (pt_cmpR (op_neD hr.units) (pv 9) (pe_tup (pa_cons (pe_call G__law_lowest (hr.mono (by decide)) (by rfl) T.g__law_lowest T.F__law_lowest.kp T.b__law_lowest .nil pass0 (pa_cons (pe_ix ix_tup (pv 3) pe_int (fun _ _ => rfl)) (pa_cons (pv 2) pa_nil))) (pa_cons (pe_ix ix_tup (pv 3) pe_int (fun _ _ => rfl)) (pa_cons (pe_ix ix_tup (pv 3) pe_int (fun _ _ => rfl)) pa_nil)))) (nomark _)) (pss_one (ps_ret pe_bl)) pss_nil)))))
    (pss_one (ps_ret pe_bl))))))), ?_⟩
    have sm := bits_sum rs hb
    have hsl : sizeLine = 16777216 := by decide
    refine ⟨.ref a, rfl, a, rs, rfl, SqT.mk ha, .ref a, rfl, a, _, rfl, .inr (SqT.mk ha), (show 3 ≤ sizeLine by decide), fun z nz => ?_⟩
    refine ⟨(show 3 ≤ sizeLine by decide), fun t nt => ?_⟩
    refine ⟨t, _, rfl, SqT.mk upd_same, rfl, _, _, rfl, _, _, rfl, _, _, rfl, rfl, ?_⟩
    rw [List.length_map]
    have s1 : Same H (upd (upd H z (.tup [.int 0, .int 0, .int 0])) t (.tup [.int rs.sum, .int (rs.length : Nat), .ref z])) := (same_upd nz).trans (same_upd nt)
    have hz1 : (upd (upd H z (.tup [.int 0, .int 0, .int 0])) t (.tup [.int rs.sum, .int (rs.length : Nat), .ref z])) z = some (.tup [.int 0, .int 0, .int 0]) := (same_upd nt) _ _ upd_same
    generalize upd (upd H z (.tup [.int 0, .int 0, .int 0])) t (.tup [.int rs.sum, .int (rs.length : Nat), .ref z]) = H1 at s1 hz1 ⊢
    have ha1 := s1 _ _ ha
    refine ⟨.ref a, rfl, .ref a, rfl, cat_go (rs := rs) (ss := rs) ha1 ha1 (by omega) fun H2 tw s2 htw => ?_⟩
    have hz2 := s2 _ _ hz1
    refine ⟨.int (rs.length : Nat), rfl, _, _, rfl, rfl, _, rfl, by omega, by omega, ?_⟩
    refine for_range (fun B σ G => ∃ z y5 y6 y7 w, ∃ b0 e0 : Nat, σ = [some (.ref a), some (.int rs.sum), some (.int (rs.length : Nat)), some (.ref z), some (.ref tw), y5, y6, y7, none, none, none] ∧ Same H2 G ∧ G z = some (.tup [.int w, .int (b0 : Nat), .int (e0 : Nat)]) ∧ Bp (Df rs) rs.length B B w b0 e0) ⟨z, none, none, none, 0, 0, 0, rfl, Same.refl H2, hz2, Bp.start _ _⟩ ?_ ?_
    · rintro B σ G hB ⟨z, y5, y6, y7, w, b0, e0, rfl, sG, hz, bp⟩
      refine ⟨.int (0 + (B : Int)), rfl, .int (0 + (B : Int)), rfl, .int (rs.length : Nat), rfl, _, _, rfl, rfl, _, _, rfl, ⟨by omega, by omega, by omega, by omega⟩, ?_⟩
      refine for_range (fun i σ G => ∃ z c y7 w, ∃ b0 e0 : Nat, σ = [some (.ref a), some (.int rs.sum), some (.int (rs.length : Nat)), some (.ref z), some (.ref tw), some (.int (0 + (B : Int))), some (.int c), y7, none, none, none] ∧ Same H2 G ∧ G z = some (.tup [.int w, .int (b0 : Nat), .int (e0 : Nat)]) ∧ c = cn rs (B + i) - cn rs B ∧ Bp (Df rs) rs.length B (B + i) w b0 e0) ⟨z, 0, y7, w, b0, e0, rfl, sG, hz, by rw [Nat.add_zero]; omega, bp⟩ ?_ ?_
      · rintro i σ F hi ⟨z, c, y7, w, b0, e0, rfl, sF, hz, hc, bp⟩
        have hi : i < rs.length := by omega
        have eo : c * (rs.length : Int) - ((0 + (B : Int) + (i : Int)) - (0 + (B : Int))) * rs.sum = Df rs (B + i) - Df rs B := by
          rw [hc, ← Dab_eq, show (0 + (B : Int) + (i : Int)) - (0 + (B : Int)) = (i : Int) by omega]
        refine ⟨.int (0 + (B : Int) + (i : Int)), rfl, .int (rs.length : Nat), rfl, _, _, rfl, rfl, _, rfl, ite2 (fun e => ?_) (fun e => iteF ?_)⟩
        · have hE : B + i ≤ rs.length := by
            have := of_decide_eq_true e
            omega
          refine ⟨.int c, rfl, .int (rs.length : Nat), rfl, _, _, rfl, rfl, .inr ⟨by omega, by omega⟩, .int (0 + (B : Int) + (i : Int)), rfl, .int (0 + (B : Int)), rfl, _, _, rfl, rfl, .int rs.sum, rfl, _, _, rfl, rfl, .inr ⟨by omega, by omega⟩, _, _, rfl, rfl, _, rfl, .ref z, rfl, z, _, 0, _, rfl, rfl, SqT.mk hz, atI_nat (j := 0) rfl, _, _, rfl, rfl, _, rfl, ite2 (fun e2 => ?_) (fun e2 => ?_)⟩
          · have l2 : w < Dab (Df rs) B (B + i) := by
              have := of_decide_eq_true e2
              rw [abs_eq, eo] at this
              exact this
            refine ⟨.int c, rfl, .int (rs.length : Nat), rfl, _, _, rfl, rfl, .inr ⟨by omega, by omega⟩, .int (0 + (B : Int) + (i : Int)), rfl, .int (0 + (B : Int)), rfl, _, _, rfl, rfl, .int rs.sum, rfl, _, _, rfl, rfl, .inr ⟨by omega, by omega⟩, _, _, rfl, rfl, _, rfl, .int (0 + (B : Int)), rfl, .int (0 + (B : Int) + (i : Int)), rfl, (show 3 ≤ sizeLine by decide), fun z' nz' => ?_⟩
            try dsimp only
            rw [abs_eq, eo]
            refine ⟨.int (0 + (B : Int) + (i : Int)), rfl, .int (rs.length : Nat), rfl, _, _, rfl, rfl, .inl ⟨by decide, by decide⟩, _, _, rfl, rfl, _, rfl, ?_⟩
            rw [decide_eq_true (by omega)]
            refine iteT ?_
            have htw' := (same_upd nz' (o := .tup [.int (Dab (Df rs) B (B + i)), .int (0 + (B : Int)), .int (0 + (B : Int) + (i : Int))])) _ _ (sF _ _ htw)
            refine ⟨.int c, rfl, .ref tw, rfl, .int (0 + (B : Int) + (i : Int)), rfl, tw, _, _, _, rfl, rfl, SqT.mk htw', at_twice (n := B + i) (by omega) (by omega), _, _, rfl, rfl, ?_⟩
            refine ⟨z', _, _, Dab (Df rs) B (B + i), B, B + i, rfl, sF.trans (same_upd nz'), ?_, ?_, bp.more (by omega) hE l2⟩
            · rw [upd_same, show (0 + (B : Int) + (i : Int)) = ((B + i : Nat) : Int) by omega, show (0 + (B : Int)) = (B : Int) by omega]
            · have : cn rs (B + (i + 1)) = cn rs (B + i) + rs.getD ((B + i) % rs.length) 0 := rfl
              omega
          · have l2 : ¬ w < Dab (Df rs) B (B + i) := fun z => e2 (by
              refine decide_eq_true ?_
              rw [abs_eq, eo]
              exact z)
            refine ⟨.int (0 + (B : Int) + (i : Int)), rfl, .int (rs.length : Nat), rfl, _, _, rfl, rfl, .inl ⟨by decide, by decide⟩, _, _, rfl, rfl, _, rfl, ?_⟩
            rw [decide_eq_true (by omega)]
            refine iteT ?_
            refine ⟨.int c, rfl, .ref tw, rfl, .int (0 + (B : Int) + (i : Int)), rfl, tw, _, _, _, rfl, rfl, SqT.mk (sF _ _ htw), at_twice (n := B + i) (by omega) (by omega), _, _, rfl, rfl, ?_⟩
            refine ⟨z, _, _, w, b0, e0, rfl, sF, hz, ?_, bp.less fun _ => Int.not_lt.mp l2⟩
            have : cn rs (B + (i + 1)) = cn rs (B + i) + rs.getD ((B + i) % rs.length) 0 := rfl
            omega
        · have hE : ¬ B + i ≤ rs.length := fun z => e (decide_eq_true (by omega))
          refine ⟨.int (0 + (B : Int) + (i : Int)), rfl, .int (rs.length : Nat), rfl, _, _, rfl, rfl, .inl ⟨by decide, by decide⟩, _, _, rfl, rfl, _, rfl, ?_⟩
          rw [decide_eq_true (by omega)]
          refine iteT ?_
          refine ⟨.int c, rfl, .ref tw, rfl, .int (0 + (B : Int) + (i : Int)), rfl, tw, _, _, _, rfl, rfl, SqT.mk (sF _ _ htw), at_twice (n := B + i) (by omega) (by omega), _, _, rfl, rfl, ?_⟩
          refine ⟨z, _, _, w, b0, e0, rfl, sF, hz, ?_, bp.less fun y => absurd y hE⟩
          have : cn rs (B + (i + 1)) = cn rs (B + i) + rs.getD ((B + i) % rs.length) 0 := rfl
          omega
      · rintro σ F ⟨z, c, y7, w, b0, e0, rfl, sF, hz, hc, bp⟩
        rw [show (0 + (B : Int) + (rs.length : Int) - (0 + (B : Int))).toNat = rs.length by omega] at bp
        exact ⟨z, _, _, _, w, b0, e0, rfl, sF, hz, bp.next⟩
    rintro σ G ⟨z, y5, y6, y7, w, b0, e0, rfl, sG, hz, bp⟩
    rw [show ((rs.length : Int) + 1).toNat = rs.length + 1 by omega] at bp
    have w0 : 0 ≤ w := by
      rw [← bp.eq]
      show (0 : Int) ≤ (((Df rs e0 - Df rs b0).natAbs : Nat) : Int)
      omega
    -- no stretch further on
    refine ⟨.int (rs.length : Nat), rfl, _, rfl, by omega, by omega, fun D nD => ?_⟩
    refine lc_range (fun i F => Same G F ∧ F D = some (.lst ((List.replicate i false).map V.bl))) ⟨same_upd nD, upd_same⟩ (fun i F hi h => ?_) (fun F h => ?_)
    · obtain ⟨sF, hD⟩ := h
      have hi : i < rs.length := by omega
      refine ⟨rfl, yes_ite ?_⟩
      refine ⟨.ref tw, rfl, .int (0 + (i : Int)), rfl, .int rs.sum, rfl, .int (rs.length : Nat), rfl, tw, rs, i, w, by rw [Int.zero_add]; rfl, sF _ _ (sG _ _ htw), h1, hl, hb, hi, w0, fun n => bp.round rfl i n h1 hi, fun F1 v sF1 hv => ?_⟩
      refine ⟨.ref z, rfl, z, _, 0, _, rfl, rfl, SqT.mk (sF1 _ _ (sF _ _ hz)), atI_nat (j := 0) rfl, _, _, rfl, rfl, ?_⟩
      dsimp only
      rw [decide_eq_false (show ¬ w < v by omega)]
      refine ⟨_, sF1 _ _ hD, by rw [List.length_map, List.length_replicate]; omega, same_newer (sF.trans sF1) nD, ?_⟩
      rw [upd_same, List.replicate_succ', List.map_append]
      rfl
    obtain ⟨sF, hD⟩ := h
    refine ⟨D, _, rfl, SqL.mk hD, _, rfl, ?_⟩
    rw [show (List.replicate (rs.length : Int).toNat false).any id = false by simp]
    refine iteF ?_
    have hzF := sF _ _ hz
    have sGF := sG.trans sF
    refine ⟨2, rfl, by decide, by decide, for_range (n := 2) (fun i σ F1 => ∃ y5 y8 y9 y10, σ = [some (.ref a), some (.int rs.sum), some (.int (rs.length : Nat)), some (.ref z), some (.ref tw), y5, y6, y7, y8, y9, y10] ∧ Same F F1) ⟨_, none, none, _, rfl, Same.refl F⟩ ?_ ?_⟩
    · rintro i σ F1 hi ⟨y5, y8, y9, y10, rfl, s3⟩
      have haF := s3 _ _ (sGF _ _ (s2 _ _ ha1))
      refine ⟨.ref a, rfl, a, rs, rfl, haF, h1, by omega, fun F2 t p L G' iL iG s4 nt ht hp ends => ?_⟩
      obtain ⟨ew, eb, ee⟩ := bp.fin ends h1 (by
        have := Df_again rs 0
        rw [Nat.zero_add] at this
        exact this)
      refine ⟨.ref t, rfl, _, _, _, _, _, rfl, .ty "tuple", .base (.tup ht), kIn k_tt, _, rfl, ?_⟩
      refine iteF ?_
      refine ⟨.ref t, rfl, t, _, rfl, .inr (SqT.mk ht), rfl, _, rfl, ?_⟩
      refine iteF ?_
      refine ⟨.ref t, rfl, t, rfl, ⟨_, SqT.mk ht⟩, fun D2 nD2 => ?_⟩
      refine lc_tup (xs := [.ref p, .int ((min iL iG : Nat) : Int), .int ((max iL iG : Nat) : Int)]) (fun i F3 => Same F2 F3 ∧ F3 D2 = some (.lst ((List.replicate i false).map V.bl))) ⟨same_upd nD2, upd_same⟩ (fun i F3 _ h => SqT.mk (h.1 _ _ ht)) (fun i x F3 hx h => ?_) (fun F3 h => ?_)
      · obtain ⟨s5, hD2⟩ := h
        refine ⟨rfl, yes_ite ?_⟩
        have fin : ∃ acc, F3 D2 = some (.lst acc) ∧ acc.length < sizeLine ∧ (Same F2 (upd F3 D2 (.lst (acc ++ [.bl false]))) ∧ (upd F3 D2 (.lst (acc ++ [.bl false]))) D2 = some (.lst ((List.replicate (i + 1) false).map V.bl))) := by
          have hi := (List.getElem?_eq_some_iff.mp hx).1
          have hi : i < 3 := hi
          refine ⟨_, hD2, by rw [List.length_map, List.length_replicate]; omega, same_newer s5 nD2, ?_⟩
          rw [upd_same, List.replicate_succ', List.map_append]
          rfl
        match i, hx, fin with
        | 0, hx, fin =>
          cases hx
          exact ⟨_, rfl, _, _, _, _, _, rfl, .ty "bool", .base (.tup (s5 _ _ hp)), kIn k_tb, fin⟩
        | 1, hx, fin =>
          cases hx
          exact ⟨_, rfl, _, _, _, _, _, rfl, .ty "bool", .base (.int _), kIn k_ib, fin⟩
        | 2, hx, fin =>
          cases hx
          exact ⟨_, rfl, _, _, _, _, _, rfl, .ty "bool", .base (.int _), kIn k_ib, fin⟩
        | n + 3, hx, _ => cases hx
      obtain ⟨s5, hD2⟩ := h
      refine ⟨D2, List.replicate 3 false, rfl, SqL.mk hD2, _, rfl, ?_⟩
      refine iteF ?_
      have hz3 := s5 _ _ (s4 _ _ (s3 _ _ hzF))
      refine ⟨.ref t, rfl, .ref z, rfl, z, _, 0, _, rfl, rfl, SqT.mk hz3, atI_nat (j := 0) rfl, .int (rs.length : Nat), rfl, _, _, rfl, w0, by omega, s_len (by omega), fun F4 p' s6 np' hp' => ?_⟩
      have hz4 := s6 _ _ hz3
      refine ⟨.ref z, rfl, z, _, 1, _, rfl, rfl, SqT.mk hz4, atI_nat (j := 1) rfl, .ref z, rfl, z, _, 2, _, rfl, rfl, SqT.mk hz4, atI_nat (j := 2) rfl, (show 3 ≤ sizeLine by decide), fun t' nt' => ?_⟩
      rw [ew] at hp'
      rw [eb, ee]
      refine eqvP3 ((same_upd nt') _ _ (s6 _ _ (s5 _ _ ht))) upd_same ((same_upd nt') _ _ (s6 _ _ (s5 _ _ hp))) ((same_upd nt') _ _ hp') ⟨_, rfl, ?_⟩
      refine iteF ?_
      exact ⟨_, _, _, _, rfl, s3.trans (s4.trans (s5.trans (s6.trans (same_upd nt'))))⟩
    · rintro σ F1 ⟨y5, y8, y9, y10, rfl, s3⟩
      exact q F1 (s1.trans (s2.trans (sGF.trans s3)))
/-! the law's look at a long row -/
theorem eqv2 {K : PySem.W.Frag} {H : Hp} {p r : Addr} {a b : Int} (hp : H p = some (.tup [.int a, .int b])) (hr : H r = some (.tup [.int a, .int b])) {Q : VK} (q : Q (.bl false) H) : rNeD K (.ref p) (.ref r) H Q := by
  refine ⟨_, _, .tup (SqT.mk hp) (.cons (.int a) (.cons (.int b) .nil)), .tup (SqT.mk hr) (.cons (.int a) (.cons (.int b) .nil)), rfl, rfl, ?_⟩
  have e : PyData.eqv (.tuple [.int a, .int b]) (.tuple [.int a, .int b]) = true := by
    simp [PyData.eqv, PyData.eqvAll]
  rw [e]
  exact q
theorem cut_get {xs : List Int} {b e i : Nat} {x : V} (hb : b ≤ e) (he : e ≤ xs.length) (hx : (cutV (xs.map V.int) (some (b : Int)) (some (e : Int)))[i]? = some x) : i < e - b ∧ ∃ y, xs[b + i]? = some y ∧ x = .int y := by
  unfold cutV at hx
  rw [HT.sIx_nat, HT.sIx_nat, List.length_map, Nat.min_eq_left he, Nat.min_eq_left (show b ≤ xs.length by omega)] at hx
  have hi := (List.getElem?_eq_some_iff.mp hx).1
  rw [List.length_take, List.length_drop, List.length_map] at hi
  rw [List.getElem?_take_of_lt (by omega), List.getElem?_drop, List.getElem?_map] at hx
  obtain ⟨y, hy, rfl⟩ := Option.map_eq_some_iff.mp hx
  exact ⟨by omega, y, hy, rfl⟩
theorem cut_len {xs : List Int} {b e : Nat} (hb : b ≤ e) (he : e ≤ xs.length) : (cutV (xs.map V.int) (some (b : Int)) (some (e : Int))).length = e - b := by
  unfold cutV
  rw [HT.sIx_nat, HT.sIx_nat, List.length_map, Nat.min_eq_left he, Nat.min_eq_left (show b ≤ xs.length by omega), List.length_take, List.length_drop, List.length_map]
  omega
def sp__law_long_right (_ : PySem.W.Frag) : Sp := fun vs H Q _ => ∃ (a : Addr) (rs : List Int), vs = [.ref a] ∧ H a = some (.tup (rs.map V.int)) ∧ 1 ≤ rs.length ∧ rs.length ≤ 4096 ∧ Bits rs ∧ ∀ H', Same H H' → Q (.bl true) H'
theorem ok__law_long_right (T : Defs K mg) : FnOk P w K mg base CX0 4 T.f__law_long_right T.fd__law_long_right ["_law_row_here"] (sp__law_long_right K) := by
  have G_worst_stretch : FnOk P w K mg base CX0 3 T.f_worst_stretch T.fd_worst_stretch ["row"] (sp_worst_stretch K) := ok_worst_stretch T
  have G__law_lowest : FnOk P w K mg base CX0 1 T.f__law_lowest T.fd__law_lowest ["_law_top", "_law_bottom"] (sp__law_lowest K) := ok__law_lowest T
  refine T.F__law_long_right.ok sc__law_long_right (fun vs H Q E h => ?_) (fun cdv A outer s H vs Q E hr h => ?_)
  · obtain ⟨a, rs, rfl, ha, h1, hl, hb, q⟩ := h
    rfl
  · obtain ⟨a, rs, rfl, ha, h1, hl, hb, q⟩ := h
    refine ⟨_, PSs.nox (pss_cons (ps_asg (pe_tup (pa_cons (pe_callB (cr_sumT rfl) (by rfl) T.m_sum bt_sum (pa_cons (pv 0) pa_nil)) (pa_cons (pe_callB call_len_seq (by rfl) T.m_len bt_len (pa_cons (pv 0) pa_nil)) (pa_cons (pe_lst (pa_cons pe_int pa_nil)) pa_nil)))) (pg_tup rfl (pgs_cons (pg_name (i := 1) sc__law_long_right.nd rfl (.inl rfl)) (pgs_cons (pg_name (i := 2) sc__law_long_right.nd rfl (.inl rfl)) (pgs_cons (pg_name (i := 3) sc__law_long_right.nd rfl (.inr rfl)) pgs_nil)))))
    (pss_cons (ps_for PassesOwn.never rfl (pi_tup (pv 0)) (pg_name (i := 4) sc__law_long_right.nd rfl (.inl rfl)) (pss_one (ps_expr (pe_bm PySem.F.plainAttrs_list PySem.F.slot_list_append PySem.F.type_list_append mt_append (pv 3) (pa_cons (pe_op op_sub (pe_op op_add (pe_ix ix_list (pv 3) (pe_un un_neg pe_int) (fun _ _ => rfl)) (pe_op op_mul (pv 4) (pv 2))) (pv 1)) pa_nil)))))
    (pss_cons (ps_set (i := 5) sc__law_long_right.nd rfl (.inr rfl) (pe_tup (pa_cons (pe_callB (cr_max rfl) (by rfl) T.m_max bt_max (pa_cons (pv 3) pa_nil)) (pa_cons (pe_callB (cr_min rfl) (by rfl) T.m_min bt_min (pa_cons (pv 3) pa_nil)) pa_nil))))
    (pss_cons (ps_set (i := 6) sc__law_long_right.nd rfl (.inr rfl) (pe_op op_sub (pe_ix ix_tup (pv 5) pe_int (fun _ _ => rfl)) (pe_ix ix_tup (pv 5) pe_int (fun _ _ => rfl))))
    (pss_cons (ps_asg (pe_call G_worst_stretch (hr.mono (by decide)) (by rfl) T.g_worst_stretch T.F_worst_stretch.kp T.b_worst_stretch .nil pass0 (pa_cons (pv 0) pa_nil)) (pg_tup rfl (pgs_cons (pg_name (i := 7) sc__law_long_right.nd rfl (.inl rfl)) (pgs_cons (pg_name (i := 8) sc__law_long_right.nd rfl (.inr rfl)) (pgs_cons (pg_name (i := 9) sc__law_long_right.nd rfl (.inl rfl)) pgs_nil)))))
    (pss_cons (ps_if (PW.pt (pw_or (pt_cmpR (op_neD hr.units) (pv 7) (pe_call G__law_lowest (hr.mono (by decide)) (by rfl) T.g__law_lowest T.F__law_lowest.kp T.b__law_lowest .nil pass0 (pa_cons (pv 6) (pa_cons (pv 2) pa_nil))) (nomark _)) (pw_or (pt_cmpR op_ne (pe_callB call_abs (by rfl) T.m_abs bt_abs (pa_cons (pe_op op_sub (pe_ix ix_list (pv 3) (pv 9) (fun _ _ => rfl)) (pe_ix ix_list (pv 3) (pv 8) (fun _ _ => rfl))) pa_nil)) (pv 6) (nomark _)) (pw_or1 (pt_cmpR op_gt (pv 8) (pv 9) (nomark _)))))) (pss_one (ps_ret pe_bl)) pss_nil)
    (pss_cons (ps_if (pt_cmpR op_in_seq (pv 6) (pe_lc (own := [("_law_one", 11)]) (g := gName 11) (tt := tYes) rfl sc__law_long_right.nd (pi_list (pe_slice sl_list (pv 3) (po_some (pv 8)) (po_some (pv 9)))) (blkOk_by (N := N__law_long_right) (sc := defScope s__law_long_right) (by decide +kernel)) (fun _ _ _ _ _ => (pg_name (i := 11) sc__law_long_right.nd rfl (.inl rfl))) (fun _ _ _ _ _ => pts_nil) (fun _ _ _ _ _ => (pe_callB call_abs (by rfl) T.m_abs bt_abs (pa_cons (pe_op op_sub (pv 11) (pe_ix (ixlK (K := K) rfl) (pv 3) (pv 8) (fun _ _ => rfl))) pa_nil)))) rfl) (pss_one (ps_ret pe_bl)) pss_nil)
    (pss_cons (ps_setLc (i := 10) (own := [("_law_place", 12)]) (g := gName 12) rfl sc__law_long_right.nd rfl rfl (sw_true rfl rfl rfl (by decide +kernel)) (pi_range1 (by rfl) T.m_range (pa_cons (pv 8) pa_nil)) (blkOk_by (N := N__law_long_right) (sc := defScope s__law_long_right) (by decide +kernel)) (fun _ _ _ _ _ => (pg_name (i := 12) sc__law_long_right.nd rfl (.inl rfl))) (fun _ _ _ _ _ => pts_one (pt_cmpR (inK (K := K) rfl) (pe_ix (ixlK (K := K) rfl) (pv 3) (pv 12) (fun _ _ => rfl)) (pv 5) rfl)) (fun _ _ _ _ _ => (pv 12)))
    (pss_one (ps_ret (pe_not (pe_callB (cr_any rfl) (by rfl) T.m_any bt_any (pa_cons (pe_lc (own := [("_law_place", 12)]) (g := gName 12) (tt := tYes) rfl sc__law_long_right.nd (pi_list (pv 10)) (blkOk_by (N := N__law_long_right) (sc := defScope s__law_long_right) (by decide +kernel)) (fun _ _ _ _ _ => (pg_name (i := 12) sc__law_long_right.nd rfl (.inr rfl))) (fun _ _ _ _ _ => pts_nil) (fun _ _ _ _ _ => (pe_cmpR (inK (K := K) rfl) (pv 6) (pe_lc (own := [("_law_one", 11)]) (g := gName 11) (tt := tYes) rfl sc__law_long_right.nd (listK (K := K) rfl (pe_slice (slK (K := K) rfl) (pv 3) (po_some (pv 12)) po_none)) (blkOk_by (by rfl)) (fun _ _ _ _ _ => (pg_name (i := 11) sc__law_long_right.nd rfl (.inl rfl))) (fun _ _ _ _ _ => pts_nil) (fun _ _ _ _ _ => (pe_callB call_abs (by rfl) T.m_abs bt_abs (pa_cons (pe_op op_sub (pv 11) (pe_ix (ixlK (K := K) rfl) (pv 3) (pv 12) (fun _ _ => rfl))) pa_nil)))) rfl))) pa_nil))))))))))))), ?_⟩
    have sm := bits_sum rs hb
    have hsl : sizeLine = 16777216 := by decide
    refine ⟨.ref a, rfl, a, rs, rfl, SqT.mk ha, .ref a, rfl, a, _, rfl, .inr (SqT.mk ha), (show 1 ≤ sizeLine by decide), fun l nl => ?_⟩
    refine ⟨(show 3 ≤ sizeLine by decide), fun t nt => ?_⟩
    refine ⟨t, _, rfl, SqT.mk upd_same, rfl, _, _, rfl, _, _, rfl, _, _, rfl, rfl, ?_⟩
    rw [List.length_map]
    have s1 : Same H (upd (upd H l (.lst [.int 0])) t (.tup [.int rs.sum, .int (rs.length : Nat), .ref l])) := (same_upd nl).trans (same_upd nt)
    have hl1 : (upd (upd H l (.lst [.int 0])) t (.tup [.int rs.sum, .int (rs.length : Nat), .ref l])) l = some (.lst [.int 0]) := (same_upd nt) _ _ upd_same
    generalize upd (upd H l (.lst [.int 0])) t (.tup [.int rs.sum, .int (rs.length : Nat), .ref l]) = H1 at s1 hl1 ⊢
    refine ⟨.ref a, rfl, a, rfl, ⟨_, SqT.mk (s1 _ _ ha)⟩, for_tup (xs := rs.map V.int) (fun i σ G => ∃ y4, σ = [some (.ref a), some (.int rs.sum), some (.int (rs.length : Nat)), some (.ref l), y4, none, none, none, none, none, none, none, none] ∧ Same H G ∧ G l = some (.lst (OL rs i ++ [.int (Df rs i)]))) ⟨none, rfl, s1, ?_⟩ ?_ ?_ ?_⟩
    · rw [hl1, Df_zero]
      rfl
    · rintro i σ G hi ⟨y4, rfl, sG, hG⟩
      exact SqT.mk (sG _ _ ha)
    · rintro i x σ G hx ⟨y4, rfl, sG, hG⟩
      rw [List.getElem?_map] at hx
      obtain ⟨b, hb', rfl⟩ := Option.map_eq_some_iff.mp hx
      have hi : i < rs.length := (List.getElem?_eq_some_iff.mp hb').1
      have eb : rs.getD (i % rs.length) 0 = b := by
        rw [Nat.mod_eq_of_lt hi, List.getD_eq_getElem?_getD, hb']
        rfl
      refine ⟨.ref l, rfl, .inl ⟨rfl, _, SqL.mk hG⟩, .ref l, rfl, 1, rfl, l, _, _, _, rfl, rfl, SqL.mk hG, atI_last _ _, ?_⟩
      refine ⟨.int b, rfl, .int (rs.length : Nat), rfl, _, _, rfl, rfl, .inr ⟨by omega, by omega⟩, _, _, rfl, rfl, .int rs.sum, rfl, _, _, rfl, rfl, ?_⟩
      have ll : (OL rs i ++ [V.int (Df rs i)]).length = i + 1 := by
        rw [List.length_append, OL_len]
        rfl
      refine ⟨l, _, _, rfl, rfl, hG, by rw [ll]; omega, ?_⟩
      refine ⟨_, rfl, same_newer sG nl, ?_⟩
      rw [upd_same, OL_succ, Df_step, eb, Int.mul_comm]
    rintro σ G ⟨y4, rfl, sG, hG⟩
    rw [List.length_map, ← OL_succ] at hG
    have hG' : G l = some (.lst (((List.range (rs.length + 1)).map (Df rs)).map V.int)) := hG
    have xl : ((List.range (rs.length + 1)).map (Df rs)).length = rs.length + 1 := by rw [List.length_map, List.length_range]
    refine ⟨.ref l, rfl, l, _, rfl, SqL.mk hG', by rw [xl]; omega, fun Gr hGr mG => ?_⟩
    refine ⟨.ref l, rfl, l, _, rfl, SqL.mk hG', by rw [xl]; omega, fun Le hLe mL => ?_⟩
    refine ⟨(show 2 ≤ sizeLine by decide), fun en nen => ?_⟩
    have s2 : Same G (upd G en (.tup [.int Gr, .int Le])) := same_upd nen
    have hen : (upd G en (.tup [.int Gr, .int Le])) en = some (.tup [.int Gr, .int Le]) := upd_same
    generalize upd G en (.tup [.int Gr, .int Le]) = G2 at s2 hen ⊢
    refine ⟨.ref en, rfl, en, _, 0, _, rfl, rfl, SqT.mk hen, atI_nat (j := 0) rfl, .ref en, rfl, en, _, 1, _, rfl, rfl, SqT.mk hen, atI_nat (j := 1) rfl, _, _, rfl, rfl, ?_⟩
    have ha2 := s2 _ _ (sG _ _ ha)
    refine ⟨.ref a, rfl, a, rs, rfl, ha2, h1, by omega, fun G3 t p L' G' iL iG s3 nt ht hp ends => ?_⟩
    obtain ⟨jL, l1, l2⟩ := first_of hLe
    obtain ⟨jG, g1, g2⟩ := first_of hGr
    obtain ⟨rfl, rfl⟩ := (Ends.of_list mL l1 l2 mG g1 g2).uniq ends
    clear l1 l2 g1 g2
    have GL : Le ≤ Gr := by
      have := ends.mL iG ends.lG
      rw [ends.eG] at this
      exact this
    refine ⟨t, _, rfl, SqT.mk ht, rfl, _, _, rfl, _, _, rfl, _, _, rfl, rfl, ?_⟩
    have lL := ends.lL
    have lG := ends.lG
    obtain ⟨b, hbm⟩ : ∃ b, min iL iG = b := ⟨_, rfl⟩
    obtain ⟨e, hem⟩ : ∃ e, max iL iG = e := ⟨_, rfl⟩
    try dsimp only
    rw [hbm, hem]
    have be : b ≤ e := by omega
    have em : e ≤ rs.length := by omega
    have dS : ((Df rs e - Df rs b).natAbs : Int) = Gr - Le := by
      rw [← hbm, ← hem]
      rcases Nat.le_total iL iG with z | z
      · rw [Nat.max_eq_right z, Nat.min_eq_left z, ends.eL, ends.eG]
        omega
      · rw [Nat.max_eq_left z, Nat.min_eq_right z, ends.eL, ends.eG]
        omega
    -- three looks
    refine ⟨.ref p, rfl, .int (Gr - Le), rfl, .int (rs.length : Nat), rfl, Gr - Le, rs.length, rfl, by omega, by omega, s_len (by omega), fun G4 p' s4 np' hp' => ?_⟩
    refine eqv2 (s4 _ _ hp) hp' ⟨_, rfl, ?_⟩
    refine iteF ?_
    have hl4 := s4 _ _ (s3 _ _ (s2 _ _ hG'))
    have at_ : ∀ i, i ≤ rs.length → atI (((List.range (rs.length + 1)).map (Df rs)).map V.int) ((i : Nat) : Int) = some (.int (Df rs i)) := fun i hi => atI_nat (by rw [List.getElem?_map, ends_at (Df rs) rs.length hi]; rfl)
    refine ⟨.ref l, rfl, .int (e : Nat), rfl, l, _, _, _, rfl, rfl, SqL.mk hl4, at_ e em, .ref l, rfl, .int (b : Nat), rfl, l, _, _, _, rfl, rfl, SqL.mk hl4, at_ b (by omega), _, _, rfl, rfl, _, rfl, .int (Gr - Le), rfl, rfl, _, rfl, ?_⟩
    try dsimp only
    rw [abs_eq, dS, decide_eq_true rfl]
    refine iteF ?_
    refine ⟨.int (b : Nat), rfl, .int (e : Nat), rfl, _, _, rfl, rfl, _, rfl, ?_⟩
    rw [decide_eq_false (by omega)]
    refine iteF ?_
    -- none within
    refine ⟨.int (Gr - Le), rfl, .ref l, rfl, .int (b : Nat), rfl, _, rfl, .int (e : Nat), rfl, _, rfl, l, _, rfl, SqL.mk hl4, fun sl nsl => ?_⟩
    have s5 := same_upd nsl (o := .lst (cutV (((List.range (rs.length + 1)).map (Df rs)).map V.int) (some (b : Int)) (some (e : Int))))
    have hsl5 : (upd G4 sl (.lst (cutV (((List.range (rs.length + 1)).map (Df rs)).map V.int) (some (b : Int)) (some (e : Int))))) sl = some (.lst (cutV (((List.range (rs.length + 1)).map (Df rs)).map V.int) (some (b : Int)) (some (e : Int)))) := upd_same
    generalize upd G4 sl (.lst (cutV (((List.range (rs.length + 1)).map (Df rs)).map V.int) (some (b : Int)) (some (e : Int)))) = G5 at s5 hsl5 ⊢
    have hl5 := s5 _ _ hl4
    refine ⟨sl, rfl, ⟨_, SqL.mk hsl5⟩, fun D nD => ?_⟩
    refine lc_list (xs := cutV (((List.range (rs.length + 1)).map (Df rs)).map V.int) (some (b : Int)) (some (e : Int))) (fun i F => Same G5 F ∧ F D = some (.lst (((List.range i).map fun k => ((Df rs (b + k) - Df rs b).natAbs : Int)).map V.int))) ⟨same_upd nD, upd_same⟩ (fun i F _ h => SqL.mk (h.1 _ _ hsl5)) (fun i x F hx h => ?_) (fun F h => ?_)
    · obtain ⟨sF, hD⟩ := h
      obtain ⟨hi, y, hy, rfl⟩ := cut_get be (by rw [xl]; omega) hx
      rw [ends_at (Df rs) rs.length (by omega)] at hy
      cases hy
      refine ⟨rfl, yes_ite ?_⟩
      refine ⟨_, rfl, .ref l, rfl, .int (b : Nat), rfl, l, _, _, _, rfl, rfl, SqL.mk (sF _ _ hl5), at_ b (by omega), _, _, rfl, rfl, _, rfl, _, hD, by rw [List.length_map, List.length_map, List.length_range]; omega, same_newer sF nD, ?_⟩
      rw [upd_same, List.range_succ, List.map_append, List.map_append, abs_eq]
      rfl
    obtain ⟨sF, hD⟩ := h
    rw [cut_len be (by rw [xl]; omega)] at hD
    refine ⟨D, _, rfl, .inl (SqL.mk hD), rfl, flat_ints _, _, rfl, ?_⟩
    rw [if_neg Bool.false_ne_true, in_ints, decide_eq_false (fun z => by
      obtain ⟨k, hk, ek⟩ := List.mem_map.mp z
      have hk := List.mem_range.mp hk
      have u1 := ends.mL (b + k) (by omega)
      have u2 := ends.mG (b + k) (by omega)
      have ek : ((Df rs (b + k) - Df rs b).natAbs : Int) = Gr - Le := ek
      rcases Nat.le_total iL iG with y | y
      · rw [Nat.min_eq_left y] at hbm
        rw [Nat.max_eq_right y] at hem
        have b1 : Df rs b = Le := by rw [← hbm]; exact ends.eL
        exact ends.fG (b + k) (by omega) (by omega)
      · rw [Nat.min_eq_right y] at hbm
        rw [Nat.max_eq_left y] at hem
        have b1 : Df rs b = Gr := by rw [← hbm]; exact ends.eG
        exact ends.fL (b + k) (by omega) (by omega))]
    refine iteF ?_
    have hlF := sF _ _ hl5
    have henF := sF _ _ (s5 _ _ (s4 _ _ (s3 _ _ hen)))
    -- none ahead
    refine ⟨.int (b : Nat), rfl, _, rfl, by omega, by omega, fun D2 nD2 => ?_⟩
    refine lc_range (fun i F2 => Same F F2 ∧ F2 D2 = some (.lst [])) ⟨same_upd nD2, upd_same⟩ (fun i F2 hi h => ?_) (fun F2 h => ?_)
    · obtain ⟨s6, hD2⟩ := h
      have hi : i < b := by omega
      refine ⟨rfl, ?_⟩
      refine ⟨.ref l, rfl, .int (0 + (i : Int)), rfl, l, _, _, .int (Df rs i), rfl, rfl, SqL.mk (s6 _ _ hlF), by rw [Int.zero_add]; exact at_ i (by omega), .ref en, rfl, en, [.int Gr, .int Le], rfl, .inr (SqT.mk (s6 _ _ henF)), rfl, rfl, _, rfl, ?_⟩
      have nin : inV (.int (Df rs i)) [.int Gr, .int Le] = false := by
        have := in_ints [Gr, Le] (Df rs i)
        rw [show ([.int Gr, .int Le] : List V) = [Gr, Le].map V.int from rfl, this, decide_eq_false]
        intro z
        rcases List.mem_cons.mp z with z | z
        · exact ends.fG i (by omega) z
        · rw [List.mem_singleton] at z
          exact ends.fL i (by omega) z
      rw [if_neg Bool.false_ne_true, nin]
      exact iteF ⟨s6, hD2⟩
    obtain ⟨s6, hD2⟩ := h
    refine ⟨_, rfl, D2, rfl, ⟨_, SqL.mk hD2⟩, fun D3 nD3 => ?_⟩
    refine lc_list (xs := []) (fun i F3 => Same F2 F3 ∧ F3 D3 = some (.lst [])) ⟨same_upd nD3, upd_same⟩ (fun i F3 _ h => SqL.mk (h.1 _ _ hD2)) (fun i x F3 hx h => by cases hx) (fun F3 h => ?_)
    obtain ⟨s7, hD3⟩ := h
    refine ⟨D3, [], rfl, SqL.mk hD3, _, rfl, ?_⟩
    exact q F3 (sG.trans (s2.trans (s3.trans (s4.trans (s5.trans (sF.trans (s6.trans s7)))))))
/-! the law -/
def sp_law (K : PySem.W.Frag) : Sp := fun vs H Q _ => ∃ (a : Addr) (ns : List Int), vs = [.ref a] ∧ SqL K H a (ns.map V.int) ∧ ns.length ≤ 63 ∧ ∀ H', Q (.bl true) H'
theorem ok_law (T : Defs K mg) : FnOk P w K mg base CX0 5 T.f_law T.fd_law ["_law_script"] (sp_law K) := by
  have G__law_folded : FnOk P w K mg base CX0 1 T.f__law_folded T.fd__law_folded ["_law_script", "_law_many"] (sp__law_folded K) := ok__law_folded T
  have G__law_box : FnOk P w K mg base CX0 1 T.f__law_box T.fd__law_box ["_law_script", "_law_k"] (sp__law_box K) := ok__law_box T
  have G__law_take : FnOk P w K mg base CX0 1 T.f__law_take T.fd__law_take ["_law_box_here", "_law_many"] (sp__law_take K) := ok__law_take T
  have G__law_long_right : FnOk P w K mg base CX0 4 T.f__law_long_right T.fd__law_long_right ["_law_row_here"] (sp__law_long_right K) := ok__law_long_right T
  have G__law_right : FnOk P w K mg base CX0 4 T.f__law_right T.fd__law_right ["_law_row_here"] (sp__law_right K) := ok__law_right T
  have G__law_row : FnOk P w K mg base CX0 2 T.f__law_row T.fd__law_row ["_law_box_here", "_law_many"] (sp__law_row K) := ok__law_row T
  refine T.F_law.ok sc_law (fun vs H Q E h => ?_) (fun cdv A outer s H vs Q E hr h => ?_)
  · obtain ⟨a, ns, rfl, hS, hlen, q⟩ := h
    rfl
  · obtain ⟨a, ns, rfl, hS, hlen, q⟩ := h
    refine ⟨_, PSs.nox (pss_cons (ps_set (i := 1) sc_law.nd rfl (.inl rfl) (pe_call G__law_folded (hr.mono (by decide)) (by rfl) T.g__law_folded T.F__law_folded.kp T.b__law_folded .nil pass0 (pa_cons (pv 0) (pa_cons pe_int pa_nil))))
    (pss_cons (ps_for PassesOwn.never rfl (pi_range1 (by rfl) T.m_range (pa_cons (pe_callB (call_max2 rfl) (by rfl) T.m_max bt_max (pa_cons pe_int (pa_cons (pe_callB call_len_seq (by rfl) T.m_len bt_len (pa_cons (pv 1) pa_nil)) pa_nil))) pa_nil)) (pg_name (i := 2) sc_law.nd rfl (.inl rfl)) (pss_cons (ps_set (i := 3) sc_law.nd rfl (.inl rfl) (pe_call G__law_box (hr.mono (by decide)) (by rfl) T.g__law_box T.F__law_box.kp T.b__law_box .nil pass0 (pa_cons (pv 1) (pa_cons (pv 2) pa_nil))))
    (pss_cons (ps_for PassesOwn.never rfl (pi_range1 (by rfl) T.m_range (pa_cons pe_int pa_nil)) (pg_name (i := 4) sc_law.nd rfl (.inl rfl)) (pss_cons (ps_set (i := 5) sc_law.nd rfl (.inl rfl) (pe_op op_add pe_int (pe_call G__law_take (hr.mono (by decide)) (by rfl) T.g__law_take T.F__law_take.kp T.b__law_take .nil pass0 (pa_cons (pv 3) (pa_cons (pe_ifExp (pt_cmpR op_eq (pe_call G__law_take (hr.mono (by decide)) (by rfl) T.g__law_take T.F__law_take.kp T.b__law_take .nil pass0 (pa_cons (pv 3) (pa_cons pe_int pa_nil))) pe_int (nomark _)) pe_int pe_int) pa_nil)))))
    (pss_one (ps_if (pt_not (pt_val (pe_call G__law_right (hr.mono (by decide)) (by rfl) T.g__law_right T.F__law_right.kp T.b__law_right .nil pass0 (pa_cons (pe_call G__law_row (hr.mono (by decide)) (by rfl) T.g__law_row T.F__law_row.kp T.b__law_row .nil pass0 (pa_cons (pv 3) (pa_cons (pv 5) pa_nil))) pa_nil)))) (pss_one (ps_ret pe_bl)) pss_nil))))
    (pss_cons (ps_set (i := 5) sc_law.nd rfl (.inl rfl) (pe_ix ix_list (pe_lst (pa_cons pe_int (pa_cons pe_int (pa_cons pe_int (pa_cons pe_int pa_nil))))) (pe_call G__law_take (hr.mono (by decide)) (by rfl) T.g__law_take T.F__law_take.kp T.b__law_take .nil pass0 (pa_cons (pv 3) (pa_cons pe_int pa_nil))) (fun _ _ => rfl)))
    (pss_one (ps_if (pt_not (pt_val (pe_call G__law_long_right (hr.mono (by decide)) (by rfl) T.g__law_long_right T.F__law_long_right.kp T.b__law_long_right .nil pass0 (pa_cons (pe_call G__law_row (hr.mono (by decide)) (by rfl) T.g__law_row T.F__law_row.kp T.b__law_row .nil pass0 (pa_cons (pv 3) (pa_cons (pe_op op_sub (pv 5) (pe_call G__law_take (hr.mono (by decide)) (by rfl) T.g__law_take T.F__law_take.kp T.b__law_take .nil pass0 (pa_cons (pv 3) (pa_cons (pv 5) pa_nil)))) pa_nil))) pa_nil)))) (pss_one (ps_ret pe_bl)) pss_nil))))))
    (pss_one (ps_ret pe_bl)))), ?_⟩
    refine ⟨.ref a, rfl, a, ns, 4, rfl, hS, hlen, by decide, by decide, fun H1 c cs s1 nc hc lc => ?_⟩
    have hn : (if (((cs.map V.int).length : Nat) : Int) > 2 then (((cs.map V.int).length : Nat) : Int) else 2) ≤ 4 ∧ 0 ≤ (if (((cs.map V.int).length : Nat) : Int) > 2 then (((cs.map V.int).length : Nat) : Int) else 2) := by
      rw [List.length_map]
      split <;> omega
    refine ⟨.ref c, rfl, c, _, rfl, .inl (SqL.mk hc), _, _, rfl, _, rfl, by omega, by omega, for_range (fun i σ H2 => ∃ y2 y3 y4 y5, σ = [some (.ref a), some (.ref c), y2, y3, y4, y5] ∧ Same H1 H2) ⟨none, none, none, none, rfl, Same.refl H1⟩ ?_ ?_⟩
    rotate_left
    · rintro σ H2 ⟨y2, y3, y4, y5, rfl, s2⟩
      exact q _
    rintro i σ H2 hi ⟨y2, y3, y4, y5, rfl, s2⟩
    have hi2 : i < 1000 := by omega
    refine ⟨.ref c, rfl, .int (0 + (i : Int)), rfl, c, cs, i, by rw [Int.zero_add]; rfl, SqL.mk (s2 _ _ hc), hi2, fun H3 b s3 nb hB => ?_⟩
    have nb1 : H1 b = none := s2.free nb
    have s13 := s2.trans s3
    refine ⟨4, rfl, by decide, by decide, for_range (n := 4) (fun j σ G => ∃ y4 y5, σ = [some (.ref a), some (.ref c), some (.int (0 + (i : Int))), some (.ref b), y4, y5] ∧ But b H3 G ∧ Bx G b (6000 * j)) ⟨_, _, rfl, But.refl b H3, hB⟩ ?_ ?_⟩
    rotate_left
    · rintro σ G ⟨y4, y5, rfl, bG, BG⟩
      refine ⟨(show 4 ≤ sizeLine by decide), fun l nl => ?_⟩
      refine ⟨.ref b, rfl, b, 4, _, rfl, BG.new nl, by decide, by decide, by omega, fun G1 r1 c1 B1 l1 u1 => ?_⟩
      obtain ⟨v, ev, hv⟩ := at_menu (Pr := fun v => 400 ≤ v ∧ v ≤ 4096) (xs := [400, 400, 400, 4096]) l1 u1 (fun x hx => by
        simp only [List.mem_cons, List.not_mem_nil, or_false] at hx
        omega)
      refine ⟨l, _, _, _, rfl, rfl, SqL.mk (c1 _ _ (ne_new BG nl) upd_same), ev, ?_⟩
      refine ⟨.ref b, rfl, .int v, rfl, .ref b, rfl, .int v, rfl, b, v, _, rfl, B1, by omega, by omega, by omega, fun G2 r2 c2 B2 l2 u2 => ⟨_, _, rfl, rfl, ?_⟩⟩
      obtain ⟨m, hm⟩ : ∃ m : Nat, v - r2 = (m : Nat) := ⟨(v - r2).toNat, by omega⟩
      refine ⟨b, m, _, congrArg (fun z => [V.ref b, V.int z]) hm, B2, by omega, by omega, by omega, fun G3 o rs c3 B3 ho lr br => ?_⟩
      refine ⟨o, rs, rfl, ho, by omega, by omega, br, fun G4 s4 => ⟨_, rfl, ?_⟩⟩
      refine iteF ?_
      exact ⟨_, _, _, _, rfl, But.same nb1 s13 ((((bG.new nl).trans c1).trans (c2.trans c3)).trans (same_but s4))⟩
    rintro j σ G hj ⟨y4, y5, rfl, bG, BG⟩
    refine ⟨.ref b, rfl, .ref b, rfl, b, 8, 6000 * j, rfl, BG, by decide, by decide, by omega, fun G1 r1 c1 B1 l1 u1 => ⟨rfl, _, rfl, ite2 (fun _ => ?_) (fun _ => ?_)⟩⟩
    refine ⟨b, 120, _, rfl, B1, by decide, by decide, by omega, fun G2 r2 c2 B2 l2 u2 => ⟨_, _, rfl, rfl, ?_⟩⟩
    rotate_left
    refine ⟨b, 40, _, rfl, B1, by decide, by decide, by omega, fun G2 r2 c2 B2 l2 u2 => ⟨_, _, rfl, rfl, ?_⟩⟩
    all_goals
      obtain ⟨m, hm⟩ : ∃ m : Nat, 1 + r2 = (m : Nat) := ⟨(1 + r2).toNat, by omega⟩
      try dsimp only
      rw [hm]
      refine ⟨.ref b, rfl, .int (m : Nat), rfl, b, m, _, rfl, B2, by omega, by omega, by omega, fun G7 o rs c7 B7 ho lr br => ?_⟩
      refine ⟨o, rs, rfl, ho, by omega, by omega, br, fun G8 s8 => ⟨_, rfl, ?_⟩⟩
      refine iteF ?_
      exact ⟨_, _, rfl, (bG.trans (c1.trans (c2.trans c7))).trans (same_but s8), (B7.same s8).mono (by omega)⟩
end
def d_common_divisor : He.DefD := ⟨("common_divisor", none), "common_divisor", "common_divisor", defArgs s_common_divisor, defBody s_common_divisor, defScope s_common_divisor, [], []⟩
def d_fraction : He.DefD := ⟨("fraction", none), "fraction", "fraction", defArgs s_fraction, defBody s_fraction, defScope s_fraction, [], []⟩
def d_ones : He.DefD := ⟨("ones", none), "ones", "ones", defArgs s_ones, defBody s_ones, defScope s_ones, [], []⟩
def d_offs_by : He.DefD := ⟨("offs_by", none), "offs_by", "offs_by", defArgs s_offs_by, defBody s_offs_by, defScope s_offs_by, [], []⟩
def d_offs_of : He.DefD := ⟨("offs_of", none), "offs_of", "offs_of", defArgs s_offs_of, defBody s_offs_of, defScope s_offs_of, [], []⟩
def d_worst_stretch : He.DefD := ⟨("worst_stretch", none), "worst_stretch", "worst_stretch", defArgs s_worst_stretch, defBody s_worst_stretch, defScope s_worst_stretch, [], []⟩
def d__law_box : He.DefD := ⟨("_law_box", none), "_law_box", "_law_box", defArgs s__law_box, defBody s__law_box, defScope s__law_box, [], []⟩
def d__law_take : He.DefD := ⟨("_law_take", none), "_law_take", "_law_take", defArgs s__law_take, defBody s__law_take, defScope s__law_take, [], []⟩
def d__law_folded : He.DefD := ⟨("_law_folded", none), "_law_folded", "_law_folded", defArgs s__law_folded, defBody s__law_folded, defScope s__law_folded, [], []⟩
def d__law_row : He.DefD := ⟨("_law_row", none), "_law_row", "_law_row", defArgs s__law_row, defBody s__law_row, defScope s__law_row, [], []⟩
def d__law_lowest : He.DefD := ⟨("_law_lowest", none), "_law_lowest", "_law_lowest", defArgs s__law_lowest, defBody s__law_lowest, defScope s__law_lowest, [], []⟩
def d__law_right : He.DefD := ⟨("_law_right", none), "_law_right", "_law_right", defArgs s__law_right, defBody s__law_right, defScope s__law_right, [], []⟩
def d__law_off : He.DefD := ⟨("_law_off", none), "_law_off", "_law_off", defArgs s__law_off, defBody s__law_off, defScope s__law_off, [], []⟩
def d__law_long_right : He.DefD := ⟨("_law_long_right", none), "_law_long_right", "_law_long_right", defArgs s__law_long_right, defBody s__law_long_right, defScope s__law_long_right, [], []⟩
def d_law : He.DefD := ⟨("law", none), "law", "law", defArgs s_law, defBody s_law, defScope s_law, [], []⟩
def hfn : List He.DefD := [d_common_divisor, d_fraction, d_ones, d_offs_by, d_offs_of, d_worst_stretch, d__law_box, d__law_take, d__law_folded, d__law_row, d__law_lowest, d__law_right, d__law_off, d__law_long_right, d_law]
def hfa : List He.Fa := [.glo "common_divisor", .glo "fraction", .glo "ones", .glo "offs_by", .glo "offs_of", .glo "worst_stretch", .glo "_law_box", .glo "_law_take", .glo "_law_folded", .glo "_law_row", .glo "_law_lowest", .glo "_law_right", .glo "_law_off", .glo "_law_long_right", .glo "law", .free "abs", .free "any", .free "bool", .free "divmod", .free "enumerate", .free "int", .free "isinstance", .free "len", .free "list", .free "max", .free "min", .free "range", .free "sum", .free "tuple"]
abbrev R : PySem.W.OpenRow := PySem.W.OpenLaw.row PySem.Challenge.rw_shareones_k28_the_worst_stretch
abbrev hk : PySem.W.Hook := He.hookD 4 hfa hfn
def ob (s : PySem.W.SharedT) : He.AlD := He.obsDG 4 hfa hfn (HandSHeadRun.getT s)
theorem ob_eq (s : PySem.W.SharedT) : ob s = hk.obs s.abs := He.obsDG_eq (HandSHeadRun.getT_eq s)
def loose : List Str := ["common_divisor", "fraction", "ones", "offs_by", "offs_of", "worst_stretch", "_law_box", "_law_take", "_law_folded", "_law_row", "_law_lowest", "_law_right", "_law_off", "_law_long_right"]
theorem run (w : World) : HandSHeadRun.RunEq R (PySem.W.view R.prog [18]) hk ob 6000 loose w := by
  intro os
  kernel_rfl
theorem facts {P : Program} {w : World} {K : PySem.W.Frag} {h : Heap} {mg : Str → Option Value} {f : Addr} (X : K.In h) (G : h.Ns mainGlobals mg) (hfa_ : mg ("law" : Str) = some (.ref f)) (c : He.SaysD hfa hfn K) :
    ∃ fd : FuncData, (∀ (s : Shared) (v : Value), BindsTo s fd ⟨[v], []⟩ [("_law_script", v)]) ∧ ∀ base : Heap, K.In base → base.Ns mainGlobals mg → FnOk P w K mg base CX0 5 f fd ["_law_script"] (sp_law K) := by
  obtain ⟨fd_common_divisor, F_common_divisor⟩ := c.def_ 0 (d := d_common_divisor) rfl
  obtain ⟨fd_fraction, F_fraction⟩ := c.def_ 1 (d := d_fraction) rfl
  obtain ⟨fd_ones, F_ones⟩ := c.def_ 2 (d := d_ones) rfl
  obtain ⟨fd_offs_by, F_offs_by⟩ := c.def_ 3 (d := d_offs_by) rfl
  obtain ⟨fd_offs_of, F_offs_of⟩ := c.def_ 4 (d := d_offs_of) rfl
  obtain ⟨fd_worst_stretch, F_worst_stretch⟩ := c.def_ 5 (d := d_worst_stretch) rfl
  obtain ⟨fd__law_box, F__law_box⟩ := c.def_ 6 (d := d__law_box) rfl
  obtain ⟨fd__law_take, F__law_take⟩ := c.def_ 7 (d := d__law_take) rfl
  obtain ⟨fd__law_folded, F__law_folded⟩ := c.def_ 8 (d := d__law_folded) rfl
  obtain ⟨fd__law_row, F__law_row⟩ := c.def_ 9 (d := d__law_row) rfl
  obtain ⟨fd__law_lowest, F__law_lowest⟩ := c.def_ 10 (d := d__law_lowest) rfl
  obtain ⟨fd__law_right, F__law_right⟩ := c.def_ 11 (d := d__law_right) rfl
  obtain ⟨fd__law_off, F__law_off⟩ := c.def_ 12 (d := d__law_off) rfl
  obtain ⟨fd__law_long_right, F__law_long_right⟩ := c.def_ 13 (d := d__law_long_right) rfl
  obtain ⟨fd_law, F_law⟩ := c.def_ 14 (d := d_law) rfl
  have e := hfa_.symm.trans (He.glo_ok X G (c.fact 14 (f := .glo "law") rfl))
  cases e
  have b := FunD.bindsA (ps := ["_law_script"]) F_law fun _ _ _ _ _ _ us hl => match us, hl with | [_], _ => rfl
  refine ⟨fd_law, fun s v => b s [v] rfl, fun base _ _ => ok_law (T := ⟨_, fd_common_divisor, F_common_divisor, (He.glo_ok X G (c.fact 0 (f := .glo "common_divisor") rfl)), (FunD.bindsN F_common_divisor fun _ _ _ _ _ _ us hl => match us, hl with | [_, _], _ => rfl), _, fd_fraction, F_fraction, (He.glo_ok X G (c.fact 1 (f := .glo "fraction") rfl)), (FunD.bindsN F_fraction fun _ _ _ _ _ _ us hl => match us, hl with | [_, _], _ => rfl), _, fd_ones, F_ones, (He.glo_ok X G (c.fact 2 (f := .glo "ones") rfl)), (FunD.bindsN F_ones fun _ _ _ _ _ _ us hl => match us, hl with | [_], _ => rfl), _, fd_offs_by, F_offs_by, (He.glo_ok X G (c.fact 3 (f := .glo "offs_by") rfl)), (FunD.bindsN F_offs_by fun _ _ _ _ _ _ us hl => match us, hl with | [_, _, _], _ => rfl), _, fd_offs_of, F_offs_of, (He.glo_ok X G (c.fact 4 (f := .glo "offs_of") rfl)), (FunD.bindsN F_offs_of fun _ _ _ _ _ _ us hl => match us, hl with | [_], _ => rfl), _, fd_worst_stretch, F_worst_stretch, (He.glo_ok X G (c.fact 5 (f := .glo "worst_stretch") rfl)), (FunD.bindsN F_worst_stretch fun _ _ _ _ _ _ us hl => match us, hl with | [_], _ => rfl), _, fd__law_box, F__law_box, (He.glo_ok X G (c.fact 6 (f := .glo "_law_box") rfl)), (FunD.bindsN F__law_box fun _ _ _ _ _ _ us hl => match us, hl with | [_, _], _ => rfl), _, fd__law_take, F__law_take, (He.glo_ok X G (c.fact 7 (f := .glo "_law_take") rfl)), (FunD.bindsN F__law_take fun _ _ _ _ _ _ us hl => match us, hl with | [_, _], _ => rfl), _, fd__law_folded, F__law_folded, (He.glo_ok X G (c.fact 8 (f := .glo "_law_folded") rfl)), (FunD.bindsN F__law_folded fun _ _ _ _ _ _ us hl => match us, hl with | [_, _], _ => rfl), _, fd__law_row, F__law_row, (He.glo_ok X G (c.fact 9 (f := .glo "_law_row") rfl)), (FunD.bindsN F__law_row fun _ _ _ _ _ _ us hl => match us, hl with | [_, _], _ => rfl), _, fd__law_lowest, F__law_lowest, (He.glo_ok X G (c.fact 10 (f := .glo "_law_lowest") rfl)), (FunD.bindsN F__law_lowest fun _ _ _ _ _ _ us hl => match us, hl with | [_, _], _ => rfl), _, fd__law_right, F__law_right, (He.glo_ok X G (c.fact 11 (f := .glo "_law_right") rfl)), (FunD.bindsN F__law_right fun _ _ _ _ _ _ us hl => match us, hl with | [_], _ => rfl), _, fd__law_off, F__law_off, (He.glo_ok X G (c.fact 12 (f := .glo "_law_off") rfl)), (FunD.bindsN F__law_off fun _ _ _ _ _ _ us hl => match us, hl with | [_, _, _, _], _ => rfl), _, fd__law_long_right, F__law_long_right, (He.glo_ok X G (c.fact 13 (f := .glo "_law_long_right") rfl)), (FunD.bindsN F__law_long_right fun _ _ _ _ _ _ us hl => match us, hl with | [_], _ => rfl), _, fd_law, F_law, (He.glo_ok X G (c.fact 14 (f := .glo "law") rfl)), (FunD.bindsN F_law fun _ _ _ _ _ _ us hl => match us, hl with | [_], _ => rfl), (He.free_ok X G (c.fact 15 (f := .free "abs") rfl)), (He.free_ok X G (c.fact 16 (f := .free "any") rfl)), (He.free_ok X G (c.fact 17 (f := .free "bool") rfl)), (He.free_ok X G (c.fact 18 (f := .free "divmod") rfl)), (He.free_ok X G (c.fact 19 (f := .free "enumerate") rfl)), (He.free_ok X G (c.fact 20 (f := .free "int") rfl)), (He.free_ok X G (c.fact 21 (f := .free "isinstance") rfl)), (He.free_ok X G (c.fact 22 (f := .free "len") rfl)), (He.free_ok X G (c.fact 23 (f := .free "list") rfl)), (He.free_ok X G (c.fact 24 (f := .free "max") rfl)), (He.free_ok X G (c.fact 25 (f := .free "min") rfl)), (He.free_ok X G (c.fact 26 (f := .free "range") rfl)), (He.free_ok X G (c.fact 27 (f := .free "sum") rfl)), (He.free_ok X G (c.fact 28 (f := .free "tuple") rfl))⟩)⟩
end Fq
open PySem PySem.W PySem.Calls PyProof.Rows
set_option maxHeartbeats 0 in
theorem PySem.Challenge.cw_shareones_k28_the_worst_stretch_holds : PySem.Challenge.rw_shareones_k28_the_worst_stretch.Holds := by
  w_on; o_law
  refine HandSHeadRun.head_any (r := OpenLaw.row PySem.Challenge.rw_shareones_k28_the_worst_stretch) (q := view (OpenLaw.row PySem.Challenge.rw_shareones_k28_the_worst_stretch).prog [18]) (H := Fq.hk) (ob := Fq.ob) (M := 6000) (loose := Fq.loose) (d := HandSHeadRun.topDef (OpenLaw.row PySem.Challenge.rw_shareones_k28_the_worst_stretch).prog 18) (kwd := []) Fq.ob_eq
    (by kernel_rfl) (fun s => by kernel_rfl) Fq.run (by kernel_rfl) (by kernel_rfl) (by kernel_rfl) (by rfl) (by first | assumption | decide +kernel) (by decide +kernel) ⟨rfl, rfl, rfl, rfl, rfl, by decide +kernel⟩ ?hw ?hc
  case hw => w_witness2
  case hc =>
    refine L2.walk_ofE (l := PySem.Challenge.rw_shareones_k28_the_worst_stretch) (n := 63) (k := 5) (x := "_law_script") (CX := L2.CX0) rfl (by decide) (by kernel_rfl) ⟨rfl, by decide, by decide⟩ ?F (fun _ _ _ _ z => z)
    intro w mg fa h Y G hmg0
    obtain ⟨K, KX, c⟩ := Y
    have hmg : mg ("law" : PySem.Str) = some (.ref fa) := by
      have e : (HandSHeadRun.topDef (OpenLaw.row PySem.Challenge.rw_shareones_k28_the_worst_stretch).prog 18).name = ("law" : PySem.Str) := by kernel_rfl
      rw [← e]
      exact hmg0
    obtain ⟨fd, hb, hF⟩ := Fq.facts (P := (PySem.Challenge.rw_shareones_k28_the_worst_stretch).prog) (w := w) KX G hmg c
    exact ⟨K, fd, Fq.sp_law K, KX, hb, fun H a ns hl _ hS => ⟨a, ns, rfl, hS, hl, fun _ => rfl⟩, hF⟩
