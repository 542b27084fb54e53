import PyProof.Rows.All
import Wide.All
import OpenK.AllK
import Wide.FinOn
import KE.KStateDown
import Lean
import HandS.ForMost
import HandS.Wide
import HandS.WideBits
import HandS.IsInst
import HandS.Walk
import HandS.Evl
import HandS.Defaults
import HandS.Head0
import HandS.Head1
import HandS.Head2
import HandS.HeadEnd
import HandS.HeadHook1
import HandS.HeadHook2
import PySem.Challenge.RW_shareones_k01_fractions
set_option Elab.async false
set_option linter.all false
set_option maxRecDepth 100000
set_option maxHeartbeats 4000000
namespace Fq
open PySem PySem.Spec PyProof.Rows L2
section
variable {P : Program} {w : World} {K : PySem.W.Frag} {mg : Str → Option Value} {base : Heap}
def topS (i : Nat) : Stmt := PySem.Challenge.pw_shareones_k01_fractions.main.body.getD i (.Pass ⟨0, 0, 0, 0⟩)
abbrev FnP (K : PySem.W.Frag) (x : Str) (st : Stmt) (f : Addr) (fd : FuncData) : Prop := FunD K x x (defArgs st) (defBody st) (defScope st) [] [] f fd
abbrev s_common_divisor : Stmt := topS 1
abbrev N_common_divisor : List Str := ["one", "other"]
theorem sc_common_divisor : FnScope N_common_divisor ["one", "other"] (defScope s_common_divisor) := ⟨rfl, rfl, rfl, by decide +kernel, rfl, by decide +kernel, by decide +kernel⟩
abbrev s_fraction : Stmt := topS 2
abbrev N_fraction : List Str := ["top", "bottom", "divisor"]
theorem sc_fraction : FnScope N_fraction ["top", "bottom"] (defScope s_fraction) := ⟨rfl, rfl, rfl, by decide +kernel, rfl, by decide +kernel, by decide +kernel⟩
abbrev s_plus : Stmt := topS 3
abbrev N_plus : List Str := ["one", "other"]
theorem sc_plus : FnScope N_plus ["one", "other"] (defScope s_plus) := ⟨rfl, rfl, rfl, by decide +kernel, rfl, by decide +kernel, by decide +kernel⟩
abbrev s_minus : Stmt := topS 4
abbrev N_minus : List Str := ["one", "other"]
theorem sc_minus : FnScope N_minus ["one", "other"] (defScope s_minus) := ⟨rfl, rfl, rfl, by decide +kernel, rfl, by decide +kernel, by decide +kernel⟩
abbrev s_times : Stmt := topS 5
abbrev N_times : List Str := ["one", "other"]
theorem sc_times : FnScope N_times ["one", "other"] (defScope s_times) := ⟨rfl, rfl, rfl, by decide +kernel, rfl, by decide +kernel, by decide +kernel⟩
abbrev s_before : Stmt := topS 6
abbrev N_before : List Str := ["one", "other"]
theorem sc_before : FnScope N_before ["one", "other"] (defScope s_before) := ⟨rfl, rfl, rfl, by decide +kernel, rfl, by decide +kernel, by decide +kernel⟩
abbrev s__law_box : Stmt := topS 8
abbrev N__law_box : List Str := ["_law_script", "_law_k", "_law_cell"]
theorem sc__law_box : FnScope N__law_box ["_law_script", "_law_k"] (defScope s__law_box) := ⟨rfl, rfl, rfl, by decide +kernel, rfl, by decide +kernel, by decide +kernel⟩
abbrev s__law_take : Stmt := topS 9
abbrev N__law_take : List Str := ["_law_box_here", "_law_many", "_law_found", "_law_once"]
theorem sc__law_take : FnScope N__law_take ["_law_box_here", "_law_many"] (defScope s__law_take) := ⟨rfl, rfl, rfl, by decide +kernel, rfl, by decide +kernel, by decide +kernel⟩
abbrev s__law_folded : Stmt := topS 10
abbrev N__law_folded : List Str := ["_law_script", "_law_many", "_law_cells", "_law_k", "_law_cell"]
theorem sc__law_folded : FnScope N__law_folded ["_law_script", "_law_many"] (defScope s__law_folded) := ⟨rfl, rfl, rfl, by decide +kernel, rfl, by decide +kernel, by decide +kernel⟩
abbrev s__law_divisor : Stmt := topS 11
abbrev N__law_divisor : List Str := ["_law_one", "_law_other"]
theorem sc__law_divisor : FnScope N__law_divisor ["_law_one", "_law_other"] (defScope s__law_divisor) := ⟨rfl, rfl, rfl, by decide +kernel, rfl, by decide +kernel, by decide +kernel⟩
abbrev s__law_number : Stmt := topS 12
abbrev N__law_number : List Str := ["_law_box_here", "_law_some"]
theorem sc__law_number : FnScope N__law_number ["_law_box_here"] (defScope s__law_number) := ⟨rfl, rfl, rfl, by decide +kernel, rfl, by decide +kernel, by decide +kernel⟩
abbrev s__law_pair : Stmt := topS 13
abbrev N__law_pair : List Str := ["_law_box_here", "_law_top", "_law_bottom", "_law_by"]
theorem sc__law_pair : FnScope N__law_pair ["_law_box_here"] (defScope s__law_pair) := ⟨rfl, rfl, rfl, by decide +kernel, rfl, by decide +kernel, by decide +kernel⟩
abbrev s__law_is_lowest : Stmt := topS 14
abbrev N__law_is_lowest : List Str := ["_law_found", "_law_part"]
theorem sc__law_is_lowest : FnScope N__law_is_lowest ["_law_found"] (defScope s__law_is_lowest) := ⟨rfl, rfl, rfl, by decide +kernel, rfl, by decide +kernel, by decide +kernel⟩
abbrev s__law_is : Stmt := topS 15
abbrev N__law_is : List Str := ["_law_found", "_law_top", "_law_bottom"]
theorem sc__law_is : FnScope N__law_is ["_law_found", "_law_top", "_law_bottom"] (defScope s__law_is) := ⟨rfl, rfl, rfl, by decide +kernel, rfl, by decide +kernel, by decide +kernel⟩
abbrev s__law_two_right : Stmt := topS 16
abbrev N__law_two_right : List Str := ["_law_one", "_law_other", "_law_a", "_law_b", "_law_c", "_law_d", "_law_turn", "_law_found"]
theorem sc__law_two_right : FnScope N__law_two_right ["_law_one", "_law_other"] (defScope s__law_two_right) := ⟨rfl, rfl, rfl, by decide +kernel, rfl, by decide +kernel, by decide +kernel⟩
abbrev s_law : Stmt := topS 17
abbrev N_law : List Str := ["_law_script", "_law_cells", "_law_k", "_law_box_here", "_law_some", "_law_turn", "_law_top", "_law_bottom", "_law_one", "_law_other"]
theorem sc_law : FnScope N_law ["_law_script"] (defScope s_law) := ⟨rfl, rfl, rfl, by decide +kernel, rfl, by decide +kernel, by decide +kernel⟩
structure Defs (K : PySem.W.Frag) (mg : Str → Option Value) where
  f_common_divisor : Addr
  fd_common_divisor : FuncData
  F_common_divisor : FnP K "common_divisor" s_common_divisor f_common_divisor fd_common_divisor
  g_common_divisor : mg "common_divisor" = some (.ref f_common_divisor)
  b_common_divisor : Binds K fd_common_divisor ["one", "other"] []
  f_fraction : Addr
  fd_fraction : FuncData
  F_fraction : FnP K "fraction" s_fraction f_fraction fd_fraction
  g_fraction : mg "fraction" = some (.ref f_fraction)
  b_fraction : Binds K fd_fraction ["top", "bottom"] []
  f_plus : Addr
  fd_plus : FuncData
  F_plus : FnP K "plus" s_plus f_plus fd_plus
  g_plus : mg "plus" = some (.ref f_plus)
  b_plus : Binds K fd_plus ["one", "other"] []
  f_minus : Addr
  fd_minus : FuncData
  F_minus : FnP K "minus" s_minus f_minus fd_minus
  g_minus : mg "minus" = some (.ref f_minus)
  b_minus : Binds K fd_minus ["one", "other"] []
  f_times : Addr
  fd_times : FuncData
  F_times : FnP K "times" s_times f_times fd_times
  g_times : mg "times" = some (.ref f_times)
  b_times : Binds K fd_times ["one", "other"] []
  f_before : Addr
  fd_before : FuncData
  F_before : FnP K "before" s_before f_before fd_before
  g_before : mg "before" = some (.ref f_before)
  b_before : Binds K fd_before ["one", "other"] []
  f__law_box : Addr
  fd__law_box : FuncData
  F__law_box : FnP K "_law_box" s__law_box f__law_box fd__law_box
  g__law_box : mg "_law_box" = some (.ref f__law_box)
  b__law_box : Binds K fd__law_box ["_law_script", "_law_k"] []
  f__law_take : Addr
  fd__law_take : FuncData
  F__law_take : FnP K "_law_take" s__law_take f__law_take fd__law_take
  g__law_take : mg "_law_take" = some (.ref f__law_take)
  b__law_take : Binds K fd__law_take ["_law_box_here", "_law_many"] []
  f__law_folded : Addr
  fd__law_folded : FuncData
  F__law_folded : FnP K "_law_folded" s__law_folded f__law_folded fd__law_folded
  g__law_folded : mg "_law_folded" = some (.ref f__law_folded)
  b__law_folded : Binds K fd__law_folded ["_law_script", "_law_many"] []
  f__law_divisor : Addr
  fd__law_divisor : FuncData
  F__law_divisor : FnP K "_law_divisor" s__law_divisor f__law_divisor fd__law_divisor
  g__law_divisor : mg "_law_divisor" = some (.ref f__law_divisor)
  b__law_divisor : Binds K fd__law_divisor ["_law_one", "_law_other"] []
  f__law_number : Addr
  fd__law_number : FuncData
  F__law_number : FnP K "_law_number" s__law_number f__law_number fd__law_number
  g__law_number : mg "_law_number" = some (.ref f__law_number)
  b__law_number : Binds K fd__law_number ["_law_box_here"] []
  f__law_pair : Addr
  fd__law_pair : FuncData
  F__law_pair : FnP K "_law_pair" s__law_pair f__law_pair fd__law_pair
  g__law_pair : mg "_law_pair" = some (.ref f__law_pair)
  b__law_pair : Binds K fd__law_pair ["_law_box_here"] []
  f__law_is_lowest : Addr
  fd__law_is_lowest : FuncData
  F__law_is_lowest : FnP K "_law_is_lowest" s__law_is_lowest f__law_is_lowest fd__law_is_lowest
  g__law_is_lowest : mg "_law_is_lowest" = some (.ref f__law_is_lowest)
  b__law_is_lowest : Binds K fd__law_is_lowest ["_law_found"] []
  f__law_is : Addr
  fd__law_is : FuncData
  F__law_is : FnP K "_law_is" s__law_is f__law_is fd__law_is
  g__law_is : mg "_law_is" = some (.ref f__law_is)
  b__law_is : Binds K fd__law_is ["_law_found", "_law_top", "_law_bottom"] []
  f__law_two_right : Addr
  fd__law_two_right : FuncData
  F__law_two_right : FnP K "_law_two_right" s__law_two_right f__law_two_right fd__law_two_right
  g__law_two_right : mg "_law_two_right" = some (.ref f__law_two_right)
  b__law_two_right : Binds K fd__law_two_right ["_law_one", "_law_other"] []
  f_law : Addr
  fd_law : FuncData
  F_law : FnP K "law" s_law f_law fd_law
  g_law : mg "law" = some (.ref f_law)
  b_law : Binds K fd_law ["_law_script"] []
  m_abs : mg "abs" = none
  m_any : mg "any" = none
  m_bool : mg "bool" = none
  m_divmod : mg "divmod" = none
  m_enumerate : mg "enumerate" = none
  m_int : mg "int" = none
  m_isinstance : mg "isinstance" = none
  m_len : mg "len" = none
  m_list : mg "list" = none
  m_max : mg "max" = none
  m_range : mg "range" = none
  m_tuple : mg "tuple" = none
theorem bt_abs : bootBuiltins "abs" = some (.builtin "abs") := by decide +kernel
theorem bt_any : bootBuiltins "any" = some (.builtin "any") := by decide +kernel
theorem bt_bool : bootBuiltins "bool" = some (.type "bool") := by decide +kernel
theorem bt_divmod : bootBuiltins "divmod" = some (.builtin "divmod") := by decide +kernel
theorem bt_enumerate : bootBuiltins "enumerate" = some (.type "enumerate") := by decide +kernel
theorem bt_int : bootBuiltins "int" = some (.type "int") := by decide +kernel
theorem bt_isinstance : bootBuiltins "isinstance" = some (.builtin "isinstance") := by decide +kernel
theorem bt_len : bootBuiltins "len" = some (.builtin "len") := by decide +kernel
theorem bt_list : bootBuiltins "list" = some (.type "list") := by decide +kernel
theorem bt_max : bootBuiltins "max" = some (.builtin "max") := by decide +kernel
theorem bt_range : bootBuiltins "range" = some (.type "range") := by decide +kernel
theorem bt_tuple : bootBuiltins "tuple" = some (.type "tuple") := by decide +kernel
def frT (t b : Int) : Int := (b.sign * t) / (Int.gcd t b : Int)
def frB (t b : Int) : Int := (b.natAbs : Int) / (Int.gcd t b : Int)
theorem fr_ex (t : Int) {b : Int} (hb : b ≠ 0) : ∃ (g : Nat) (x y : Int), 0 < g ∧ Int.gcd t b = g ∧ t = (g : Int) * x ∧ b = (g : Int) * y ∧ y ≠ 0 ∧ Int.gcd x y = 1 := by
  have hg : 0 < Int.gcd t b := Int.gcd_pos_of_ne_zero_right t hb
  obtain ⟨x, hx⟩ := Int.gcd_dvd_left t b
  obtain ⟨y, hy⟩ := Int.gcd_dvd_right t b
  refine ⟨Int.gcd t b, x, y, hg, rfl, hx, hy, fun e => hb (by rw [hy, e, Int.mul_zero]), ?_⟩
  generalize eg : Int.gcd t b = g at hg hx hy
  have e : g = g * Int.gcd x y := by
    rw [← eg]
    conv => lhs; rw [hx, hy, Int.gcd_mul_left]
    rw [Int.natAbs_natCast, eg]
  exact Nat.eq_of_mul_eq_mul_left hg (by rw [← e, Nat.mul_one])
theorem sgn {b : Int} {g : Nat} {y : Int} (hg : 0 < g) (hb : b = (g : Int) * y) : b.sign = y.sign := by
  rw [hb, Int.sign_mul, Int.sign_eq_one_of_pos (by omega), Int.one_mul]
theorem fr_vals {t b : Int} {g : Nat} {x y : Int} (hg : 0 < g) (eg : Int.gcd t b = g) (ht : t = (g : Int) * x) (hb : b = (g : Int) * y) : frT t b = y.sign * x ∧ frB t b = (y.natAbs : Int) := by
  have g0 : (g : Int) ≠ 0 := by omega
  constructor
  · unfold frT
    rw [eg, sgn hg hb, ht, show y.sign * ((g : Int) * x) = (g : Int) * (y.sign * x) by rw [Int.mul_left_comm]]
    exact Int.mul_ediv_cancel_left _ g0
  · unfold frB
    rw [eg, hb, Int.natAbs_mul, Int.natAbs_natCast, Int.natCast_mul]
    exact Int.mul_ediv_cancel_left _ g0
theorem sgn_abs {y : Int} (hy : y ≠ 0) : y.sign.natAbs = 1 := Int.natAbs_sign_of_ne_zero hy
theorem fr_pos (t : Int) {b : Int} (hb : b ≠ 0) : 0 < frB t b := by
  obtain ⟨g, x, y, hg, eg, ht, hy, hy0, h1⟩ := fr_ex t hb
  rw [(fr_vals hg eg ht hy).2]
  omega
theorem fr_gcd (t : Int) {b : Int} (hb : b ≠ 0) : Int.gcd (frT t b) (frB t b) = 1 := by
  obtain ⟨g, x, y, hg, eg, ht, hy, hy0, h1⟩ := fr_ex t hb
  rw [(fr_vals hg eg ht hy).1, (fr_vals hg eg ht hy).2]
  show Nat.gcd (y.sign * x).natAbs ((y.natAbs : Int)).natAbs = 1
  rw [Int.natAbs_mul, sgn_abs hy0, Nat.one_mul, Int.natAbs_natCast]
  exact h1
theorem fr_eq (t : Int) {b : Int} (hb : b ≠ 0) : frT t b * b = t * frB t b := by
  obtain ⟨g, x, y, hg, eg, ht, hy, hy0, h1⟩ := fr_ex t hb
  rw [(fr_vals hg eg ht hy).1, (fr_vals hg eg ht hy).2]
  rw [ht, hy]
  have e : y * y.sign = (y.natAbs : Int) := Int.mul_sign_self y
  rw [← e]
  simp only [Int.mul_comm, Int.mul_left_comm, Int.mul_assoc]
theorem fr_absT (t : Int) {b : Int} (hb : b ≠ 0) : (frT t b).natAbs ≤ t.natAbs := by
  obtain ⟨g, x, y, hg, eg, ht, hy, hy0, h1⟩ := fr_ex t hb
  rw [(fr_vals hg eg ht hy).1, ht, Int.natAbs_mul, sgn_abs hy0, Nat.one_mul, Int.natAbs_mul, Int.natAbs_natCast]
  exact Nat.le_mul_of_pos_left _ hg
theorem fr_absB (t : Int) {b : Int} (hb : b ≠ 0) : (frB t b).natAbs ≤ b.natAbs := by
  obtain ⟨g, x, y, hg, eg, ht, hy, hy0, h1⟩ := fr_ex t hb
  rw [(fr_vals hg eg ht hy).2, hy, Int.natAbs_mul, Int.natAbs_natCast, Int.natAbs_natCast]
  exact Nat.le_mul_of_pos_left _ hg
theorem fr_negT (t b : Int) : frT (-t) (-b) = frT t b := by
  unfold frT
  rw [Int.sign_neg, Int.neg_mul_neg, Int.gcd_neg, Int.neg_gcd]
theorem fr_negB (t b : Int) : frB (-t) (-b) = frB t b := by
  unfold frB
  rw [Int.natAbs_neg, Int.gcd_neg, Int.neg_gcd]
/-- what the program's two ways reckon -/
theorem fd_pos {g : Nat} {x : Int} (hg : 0 < g) : ((g : Int) * x).fdiv (g : Int) = x := by
  rw [Int.fdiv_eq_ediv_of_nonneg _ (by omega)]
  exact Int.mul_ediv_cancel_left _ (by omega)
theorem fd_neg {g : Nat} {x : Int} (hg : 0 < g) : ((g : Int) * x).fdiv (-(g : Int)) = -x := by
  rw [show (g : Int) * x = -(g : Int) * (-x) by rw [Int.neg_mul_neg]]
  exact Int.mul_fdiv_cancel_left _ (by omega)
theorem fr_lt (t : Int) {b : Int} (hb : b < 0) : t.fdiv (-(Int.gcd t b : Int)) = frT t b ∧ b.fdiv (-(Int.gcd t b : Int)) = frB t b := by
  obtain ⟨g, x, y, hg, eg, ht, hy, hy0, h1⟩ := fr_ex t (show b ≠ 0 by omega)
  rw [(fr_vals hg eg ht hy).1, (fr_vals hg eg ht hy).2, eg]
  have yn : y < 0 := by
    rw [hy] at hb
    exact Int.neg_of_mul_neg_right hb (by omega)
  constructor
  · conv => lhs; rw [ht]
    rw [fd_neg hg, Int.sign_eq_neg_one_of_neg yn]
    omega
  · conv => lhs; rw [hy]
    rw [fd_neg hg]
    omega
theorem fr_ge (t : Int) {b : Int} (hb : 0 < b) : t.fdiv (Int.gcd t b : Int) = frT t b ∧ b.fdiv (Int.gcd t b : Int) = frB t b := by
  obtain ⟨g, x, y, hg, eg, ht, hy, hy0, h1⟩ := fr_ex t (show b ≠ 0 by omega)
  rw [(fr_vals hg eg ht hy).1, (fr_vals hg eg ht hy).2, eg]
  have yn : 0 < y := by
    rw [hy] at hb
    exact Int.pos_of_mul_pos_right hb (by omega)
  constructor
  · conv => lhs; rw [ht]
    rw [fd_pos hg, Int.sign_eq_one_of_pos yn]
    omega
  · conv => lhs; rw [hy]
    rw [fd_pos hg]
    omega
/-! sizes -/
def S (n : Nat) (x : Int) : Prop := x.natAbs < 2 ^ n
theorem S.mono {n m : Nat} {x : Int} (h : S n x) (l : n ≤ m) : S m x := Nat.lt_of_lt_of_le h (Nat.pow_le_pow_right (by decide) l)
theorem S.mul {n m : Nat} {x y : Int} (h : S n x) (k : S m y) : S (n + m) (x * y) := by
  unfold S at *
  rw [Int.natAbs_mul, Nat.pow_add]
  exact Nat.mul_lt_mul'' h k
theorem S.add {n : Nat} {x y : Int} (h : S n x) (k : S n y) : S (n + 1) (x + y) := by
  unfold S at *
  rw [Nat.pow_succ]
  omega
theorem S.sub {n : Nat} {x y : Int} (h : S n x) (k : S n y) : S (n + 1) (x - y) := by
  unfold S at *
  rw [Nat.pow_succ]
  omega
theorem S.frT {n : Nat} {t b : Int} (h : S n t) (hb : b ≠ 0) : S n (frT t b) := Nat.lt_of_le_of_lt (fr_absT t hb) h
theorem S.frB {n : Nat} {t b : Int} (h : S n b) (hb : b ≠ 0) : S n (frB t b) := Nat.lt_of_le_of_lt (fr_absB t hb) h
theorem abs_eq (i : Int) : (if i < 0 then -i else i) = (i.natAbs : Int) := by
  split <;> omega
/-! the same rules with the written part by its name: for the inside of comprehensions -/
theorem isiK {X : Cx} {K : PySem.W.Frag} (h : X.K = K) : CallR X (.builtin "isinstance") (rIsi K) := by
  subst h
  exact call_isi
theorem ixlK {X : Cx} {K : PySem.W.Frag} (h : X.K = K) : IxR X (rIxL K) := by
  subst h
  exact ix_list
theorem ixtK {X : Cx} {K : PySem.W.Frag} (h : X.K = K) : IxR X (rIxT K) := by
  subst h
  exact ix_tup
theorem lenK {X : Cx} {K : PySem.W.Frag} (h : X.K = K) : CallR X (.builtin "len") (fun xs H Q => ∃ p ys, xs = [.ref p] ∧ (SqL K H p ys ∨ SqT K H p ys) ∧ Q (.int ys.length) H) := by
  subst h
  exact call_len_seq
theorem sumK {X : Cx} {K : PySem.W.Frag} (h : X.K = K) (hc : X.calm = true) : CallR X (.builtin "sum") (rSum K) := by
  subst h
  exact cr_sum hc
theorem yes_ite {σ : L2.St} {H : Hp} {A B : Hp → Prop} (h : A H) : tYes σ H (fun b H3 => if b = true then A H3 else B H3) := by
  show if true = true then A H else B H
  rw [if_pos rfl]
  exact h
/-! heaps -/
theorem same_upd {H : Hp} {p : Addr} {o : HO} (h : H p = none) : Same H (upd H p o) := fun b x e => by
  rw [upd_ne (ne_of_none e h)]
  exact e
def But (p : Addr) (H H' : Hp) : Prop := ∀ b o, b ≠ p → H b = some o → H' b = some o
theorem But.trans {p : Addr} {H H1 H2 : Hp} (a : But p H H1) (b : But p H1 H2) : But p H H2 := fun c o n e => b c o n (a c o n e)
theorem But.refl (p : Addr) (H : Hp) : But p H H := fun _ _ _ e => e
theorem But.put {p : Addr} {H H' : Hp} {o : HO} (a : But p H H') : But p H (L2.upd H' p o) := fun c x n e => by
  rw [upd_ne n]
  exact a c x n e
theorem same_but {p : Addr} {H H' : Hp} (a : Same H H') : But p H H' := fun c x _ e => a c x e
theorem But.new {p q : Addr} {H H' : Hp} {o : HO} (a : But p H H') (n : H' q = none) : But p H (upd H' q o) := fun c x hn e => by
  have e2 := a c x hn e
  rw [upd_ne (ne_of_none e2 n)]
  exact e2
/-- objects made since H may change: what H has stays -/
theorem same_newer {H H' : Hp} {q : Addr} {o : HO} (a : Same H H') (n : H q = none) : Same H (upd H' q o) := fun c x e => by
  rw [upd_ne (ne_of_none e n)]
  exact a c x e
theorem But.same {p : Addr} {H H1 H2 : Hp} (n : H p = none) (a : Same H H1) (b : But p H1 H2) : Same H H2 := fun c x e =>
  b c x (ne_of_none e n) (a c x e)
/-- the box: a rest, a begin, how often -/
def Bx (H : Hp) (p : Addr) (n : Nat) : Prop := ∃ a b c : Int, H p = some (.lst [.int a, .int b, .int c]) ∧ 0 ≤ a ∧ 0 ≤ b ∧ b < 2147483647 ∧ 0 ≤ c ∧ c ≤ n
theorem Bx.same {H H' : Hp} {p : Addr} {n : Nat} (h : Bx H p n) (s : Same H H') : Bx H' p n := by
  obtain ⟨a, b, c, hp, r⟩ := h
  exact ⟨a, b, c, s _ _ hp, r⟩
theorem Bx.mono {H : Hp} {p : Addr} {n m : Nat} (h : Bx H p n) (l : n ≤ m) : Bx H p m := by
  obtain ⟨a, b, c, hp, h1, h2, h3, h4, h5⟩ := h
  exact ⟨a, b, c, hp, h1, h2, h3, h4, by omega⟩
theorem Bx.new {H : Hp} {p q : Addr} {n : Nat} {o : HO} (h : Bx H p n) (nq : H q = none) : Bx (L2.upd H q o) p n := h.same (same_upd nq)
theorem Bx.ne_tup {H : Hp} {p q : Addr} {n : Nat} {xs : List V} (h : Bx H p n) (e : H q = some (.tup xs)) : q ≠ p := by
  obtain ⟨a, b, c, hp, _⟩ := h
  exact ne_of e hp (fun z => by cases z)
/-- an item of a menu of numbers -/
theorem at_menu {Pr : Int → Prop} {xs : List Int} {r : Int} (h0 : 0 ≤ r) (h1 : r < xs.length) (hx : ∀ x, x ∈ xs → Pr x) : ∃ v, atI (xs.map V.int) r = some (V.int v) ∧ Pr v := by
  obtain ⟨j, rfl⟩ := Int.eq_ofNat_of_zero_le h0
  have hj : j < xs.length := by omega
  refine ⟨xs[j], atI_nat (by rw [List.getElem?_map, List.getElem?_eq_getElem hj]; rfl), hx _ (List.getElem_mem hj)⟩
theorem SqL.mk {K : PySem.W.Frag} {H : Hp} {a : Addr} {xs : List V} (h : H a = some (.lst xs)) : SqL K H a xs := .inl (.inl h)
theorem SqT.mk {K : PySem.W.Frag} {H : Hp} {a : Addr} {xs : List V} (h : H a = some (.tup xs)) : SqT K H a xs := .inl (.inl h)
theorem same_tup {K : PySem.W.Frag} {H H' : Hp} {a : Addr} {xs : List V} (e : Same H H') (h : SqT K H a xs) : SqT K H' a xs := by
  rcases h with (h | ⟨o, h⟩) | h
  · exact .inl (.inl (e _ _ h))
  · exact .inl (.inr ⟨o, e _ _ h⟩)
  · exact .inr h
theorem ixn {n j : Nat} (hj : j < n) : ixN n (j : Int) = some j := by
  unfold ixN
  rw [if_pos (by omega), if_pos (by omega)]
  simp
theorem cdivP {a m : Int} (h0 : 0 < m) (h1 : m < 2 ^ 60) : CDivP a m := ⟨h0, PyProof.noPylong_of_log2 (wide_div (i := a) (b := 60) h0 (by omega) (by decide) (by decide)).2⟩
theorem i01 {c : Prop} [Decidable c] : -(2 ^ 64) < (if c then (1 : Int) else 0) ∧ (if c then (1 : Int) else 0) < 2 ^ 64 := by
  split <;> decide
theorem i01n {c : Prop} [Decidable c] : 0 ≤ (if c then (1 : Int) else 0) := by
  split <;> decide
theorem absn (i : Int) : 0 ≤ (if i < 0 then -i else i) := by
  split <;> omega
/-! the box of a cell -/
def sp__law_box (K : PySem.W.Frag) : Sp := fun vs H Q _ => ∃ (a : Addr) (ns : List Int) (k : Nat), vs = [.ref a, .int (k : Nat)] ∧ SqL K H a (ns.map V.int) ∧ k < 1000 ∧
  ∀ H' p, Same H H' → H p = none → Bx H' p 0 → Q (.ref p) H'
theorem ok__law_box (T : Defs K mg) : FnOk P w K mg base CX0 1 T.f__law_box T.fd__law_box ["_law_script", "_law_k"] (sp__law_box K) := by
  refine T.F__law_box.ok sc__law_box (fun vs H Q E h => ?_) (fun cdv A outer s H vs Q E hr h => ?_)
  · obtain ⟨a, ns, k, rfl, hS, hk, q⟩ := h
    rfl
  · obtain ⟨a, ns, k, rfl, hS, hk, q⟩ := h
    refine ⟨_, PSs.nox (pss_cons (ps_set (i := 2) sc__law_box.nd rfl (.inl rfl) pe_int)
    (pss_cons (ps_if (pt_cmpR op_lt (pv 1) (pe_callB call_len_seq (by rfl) T.m_len bt_len (pa_cons (pv 0) pa_nil)) (nomark _)) (pss_one (ps_set (i := 2) sc__law_box.nd rfl (.inl rfl) (pe_ix ix_list (pv 0) (pv 1) (fun _ _ => rfl)))) pss_nil)
    (pss_one (ps_ret (pe_lst (pa_cons (pe_op op_mul (pe_callB call_abs (by rfl) T.m_abs bt_abs (pa_cons (pv 2) pa_nil)) (pe_callTy call_int1 (by rfl) T.m_int bt_int (pa_cons (pe_cmpR op_ge (pe_callB call_abs (by rfl) T.m_abs bt_abs (pa_cons (pv 2) pa_nil)) (pe_op op_pow pe_int pe_int) (nomark _)) pa_nil))) (pa_cons (pe_op op_mod (pe_op op_add (pv 2) (pe_op op_mul (pe_op op_mul pe_int (pv 1)) (pv 1))) pe_int) (pa_cons pe_int pa_nil)))))))), ?_⟩
    refine ⟨.int k, rfl, .ref a, rfl, a, _, rfl, .inl hS, _, _, rfl, rfl, _, rfl, ite2 (fun e => ?_) (fun e => ?_)⟩
    · have hl : (k : Int) < ((ns.map V.int).length : Nat) := of_decide_eq_true e
      rw [List.length_map] at hl
      have hj : k < ns.length := by omega
      refine ⟨.ref a, rfl, .int k, rfl, a, _, _, .int ns[k], rfl, rfl, hS, atI_nat (by rw [List.getElem?_map, List.getElem?_eq_getElem hj]; rfl), ?_⟩
      refine ⟨_, rfl, _, rfl, _, rfl, _, rfl, _, _, rfl, rfl, ⟨by decide, by decide, by decide⟩, _, _, rfl, rfl, .inr ⟨_, rfl, _, _, rfl, rfl, .inr i01, _, rfl, .int k, rfl, _, _, rfl, rfl, .inl ⟨by decide, by decide⟩, .int k, rfl, _, _, rfl, rfl, .inr ⟨by omega, by omega⟩, _, _, rfl, rfl, _, _, rfl, rfl, (show (0 : Int) < 2147483647 by decide), (show 3 ≤ sizeLine by decide), fun p np => ?_⟩⟩
      refine q _ p (same_upd np) np ⟨_, _, _, upd_same, ?_, Int.emod_nonneg _ (by decide), Int.emod_lt_of_pos _ (by decide), Int.le_refl 0, Int.le_refl 0⟩
      exact Int.mul_nonneg (absn _) i01n
    · refine ⟨_, rfl, _, rfl, _, rfl, _, rfl, _, _, rfl, rfl, ⟨by decide, by decide, by decide⟩, _, _, rfl, rfl, .inr ⟨_, rfl, _, _, rfl, rfl, .inr i01, _, rfl, .int k, rfl, _, _, rfl, rfl, .inl ⟨by decide, by decide⟩, .int k, rfl, _, _, rfl, rfl, .inr ⟨by omega, by omega⟩, _, _, rfl, rfl, _, _, rfl, rfl, (show (0 : Int) < 2147483647 by decide), (show 3 ≤ sizeLine by decide), fun p np => ?_⟩⟩
      refine q _ p (same_upd np) np ⟨_, _, _, upd_same, ?_, Int.emod_nonneg _ (by decide), Int.emod_lt_of_pos _ (by decide), Int.le_refl 0, Int.le_refl 0⟩
      exact Int.mul_nonneg (absn _) i01n
/-! one number taken -/
def sp__law_take (K : PySem.W.Frag) : Sp := fun vs H Q _ => ∃ (p : Addr) (m : Int) (n : Nat), vs = [.ref p, .int m] ∧ Bx H p n ∧ 0 < m ∧ m < 2 ^ 60 ∧ n < 1000000000000 ∧
  ∀ H' r, But p H H' → Bx H' p (n + 1) → 0 ≤ r → r < m → Q (.int r) H'
theorem ok__law_take (T : Defs K mg) : FnOk P w K mg base CX0 1 T.f__law_take T.fd__law_take ["_law_box_here", "_law_many"] (sp__law_take K) := by
  refine T.F__law_take.ok sc__law_take (fun vs H Q E h => ?_) (fun cdv A outer s H vs Q E hr h => ?_)
  · obtain ⟨p, m, n, rfl, ⟨a, b, c, hp, ha, hb, hb2, hc, hc2⟩, h0, h1, hn, q⟩ := h
    rfl
  · obtain ⟨p, m, n, rfl, ⟨a, b, c, hp, ha, hb, hb2, hc, hc2⟩, h0, h1, hn, q⟩ := h
    refine ⟨_, PSs.nox (pss_cons (ps_if (pt_cmpR op_gt (pe_ix ix_list (pv 0) pe_int (fun _ _ => rfl)) pe_int (nomark _)) (pss_cons (ps_asg (pe_callB call_divmodW (by rfl) T.m_divmod bt_divmod (pa_cons (pe_ix ix_list (pv 0) pe_int (fun _ _ => rfl)) (pa_cons (pv 1) pa_nil))) (pg_tup rfl (pgs_cons (pg_sub (pv 0) pe_int set_list) (pgs_cons (pg_name (i := 2) sc__law_take.nd rfl (.inl rfl)) pgs_nil))))
    (pss_one (ps_ret (pv 2)))) pss_nil)
    (pss_cons (ps_asg (pe_op op_add (pe_ix ix_list (pv 0) pe_int (fun _ _ => rfl)) pe_int) (pg_sub (pv 0) pe_int set_list))
    (pss_cons (ps_set (i := 3) sc__law_take.nd rfl (.inl rfl) (pe_op op_mod (pe_op op_pow (pe_op op_add (pe_ix ix_list (pv 0) pe_int (fun _ _ => rfl)) (pe_op op_mul pe_int (pe_ix ix_list (pv 0) pe_int (fun _ _ => rfl)))) pe_int) pe_int))
    (pss_one (ps_ret (pe_op op_mod (pe_op op_fdiv (pe_op op_mod (pe_op op_add (pe_op op_mul (pv 3) pe_int) (pe_op op_mul (pe_op op_mul (pe_ix ix_list (pv 0) pe_int (fun _ _ => rfl)) (pe_ix ix_list (pv 0) pe_int (fun _ _ => rfl))) pe_int)) pe_int) pe_int) (pv 1))))))), ?_⟩
    have SQ : SqL K H p [.int a, .int b, .int c] := SqL.mk hp
    refine ⟨.ref p, rfl, p, _, 0, _, rfl, rfl, SQ, atI_nat (j := 0) rfl, _, _, rfl, rfl, _, rfl, ite2 (fun e => ?_) (fun e => ?_)⟩
    · refine ⟨.ref p, rfl, p, _, 0, _, rfl, rfl, SQ, atI_nat (j := 0) rfl, .int m, rfl, a, m, rfl, cdivP h0 h1, fun t nt => ?_⟩
      have hp1 : (upd H t (.tup [.int (a / m), .int (a % m)])) p = some (.lst [.int a, .int b, .int c]) := by
        rw [upd_ne (ne_of_none hp nt)]
        exact hp
      refine ⟨t, _, rfl, SqT.mk upd_same, rfl, _, _, rfl, .ref p, rfl, p, _, 0, 0, rfl, rfl, hp1, rfl, _, _, rfl, rfl, _, rfl, ?_⟩
      refine q _ _ ((But.refl p H).new nt).put ⟨_, _, _, upd_same, Int.ediv_nonneg ha (by omega), hb, hb2, hc, by omega⟩ (Int.emod_nonneg _ (by omega)) (Int.emod_lt_of_pos _ h0)
    · refine ⟨.ref p, rfl, p, _, 2, _, rfl, rfl, SQ, atI_nat (j := 2) rfl, _, _, rfl, rfl, .ref p, rfl, p, _, 2, 2, rfl, rfl, hp, rfl, ?_⟩
      have SQ1 : SqL K (upd H p (.lst [.int a, .int b, .int (c + 1)])) p [.int a, .int b, .int (c + 1)] := SqL.mk upd_same
      refine ⟨.ref p, rfl, p, _, 1, _, rfl, rfl, SQ1, atI_nat (j := 1) rfl, .ref p, rfl, p, _, 2, _, rfl, rfl, SQ1, atI_nat (j := 2) rfl, _, _, rfl, rfl, .inl ⟨by decide, by decide⟩, _, _, rfl, rfl, _, _, rfl, rfl, ⟨by decide, by decide, by omega⟩, _, _, rfl, rfl, (show (0 : Int) < 2147483647 by decide), ?_⟩
      refine ⟨_, rfl, _, _, rfl, rfl, .inr ⟨by decide, by decide⟩, .ref p, rfl, p, _, 2, _, rfl, rfl, SQ1, atI_nat (j := 2) rfl, .ref p, rfl, p, _, 2, _, rfl, rfl, SQ1, atI_nat (j := 2) rfl, _, _, rfl, rfl, .inl ⟨by omega, by omega⟩, _, _, rfl, rfl, .inr ⟨by decide, by decide⟩, _, _, rfl, rfl, _, _, rfl, rfl, (show (0 : Int) < 2147483629 by decide), _, _, rfl, rfl, ⟨by decide, by decide⟩, .int m, rfl, _, _, rfl, rfl, h0, ?_⟩
      refine q _ _ (But.refl p H).put ⟨_, _, _, upd_same, ha, hb, hb2, by omega, by omega⟩ (Int.emod_nonneg _ (by omega)) (Int.emod_lt_of_pos _ h0)
/-! the folded cells -/
theorem cut_take (ns : List Int) (m : Nat) : cutV (ns.map V.int) none (some (m : Int)) = (ns.take m).map V.int := by
  unfold cutV
  rw [HT.sIx_none, HT.sIx_nat, List.drop_zero, List.length_map, Nat.sub_zero, ← List.map_take]
  congr 1
  by_cases h : m ≤ ns.length
  · rw [Nat.min_eq_left h]
  · rw [Nat.min_eq_right (by omega), List.take_length, List.take_of_length_le (by omega)]
theorem cut_rest (ns : List Int) (m k : Nat) : ∃ ms : List Int, cutV (ns.map V.int) (some (m : Int)) (some (k : Int)) = ms.map V.int ∧ (0 < ms.length → m < ns.length) ∧ ms.length ≤ ns.length := by
  unfold cutV
  rw [HT.sIx_nat, HT.sIx_nat, List.length_map]
  refine ⟨(ns.drop (min m ns.length)).take (min k ns.length - min m ns.length), ?_, fun h => ?_, ?_⟩
  · rw [List.map_take, List.map_drop]
  · rw [List.length_take, List.length_drop] at h
    omega
  · rw [List.length_take, List.length_drop]
    omega
def sp__law_folded (K : PySem.W.Frag) : Sp := fun vs H Q _ => ∃ (a : Addr) (ns : List Int) (m : Nat), vs = [.ref a, .int (m : Nat)] ∧ SqL K H a (ns.map V.int) ∧ ns.length ≤ 63 ∧ 0 < m ∧ m < 64 ∧
  ∀ H' p (cs : List Int), Same H H' → H p = none → H' p = some (.lst (cs.map V.int)) → cs.length ≤ m → Q (.ref p) H'
theorem ok__law_folded (T : Defs K mg) : FnOk P w K mg base CX0 1 T.f__law_folded T.fd__law_folded ["_law_script", "_law_many"] (sp__law_folded K) := by
  refine T.F__law_folded.ok sc__law_folded (fun vs H Q E h => ?_) (fun cdv A outer s H vs Q E hr h => ?_)
  · obtain ⟨a, ns, m, rfl, hS, hlen, hm, hm2, q⟩ := h
    rfl
  · obtain ⟨a, ns, m, rfl, hS, hlen, hm, hm2, q⟩ := h
    refine ⟨_, PSs.nox (pss_cons (ps_set (i := 2) sc__law_folded.nd rfl (.inl rfl) (pe_callTy call_list_of (by rfl) T.m_list bt_list (pa_cons (pe_slice sl_list (pv 0) po_none (po_some (pv 1))) pa_nil)))
    (pss_cons (ps_for PassesOwn.never rfl (pi_enum (by rfl) T.m_enumerate (pa_cons (pe_slice sl_list (pv 0) (po_some (pv 1)) (po_some pe_int)) pa_nil)) (pg_tup rfl (pgs_cons (pg_name (i := 3) sc__law_folded.nd rfl (.inl rfl)) (pgs_cons (pg_name (i := 4) sc__law_folded.nd rfl (.inl rfl)) pgs_nil))) (pss_one (ps_asg (pe_op op_add (pe_ix ix_list (pv 2) (pe_op op_mod (pv 3) (pv 1)) (fun _ _ => rfl)) (pe_op op_mul (pv 4) (pe_op op_add (pv 3) pe_int))) (pg_sub (pv 2) (pe_op op_mod (pv 3) (pv 1)) set_list))))
    (pss_one (ps_ret (pv 2))))), ?_⟩
    refine ⟨.ref a, rfl, .int m, rfl, m, rfl, a, _, rfl, hS, fun c nc => ?_⟩
    rw [cut_take]
    have s1 : Same H (upd H c (.lst ((ns.take m).map V.int))) := same_upd nc
    refine ⟨c, _, rfl, .inl (SqL.mk upd_same), fun l nl => ?_⟩
    have s2 := s1.trans (same_upd nl (o := .lst ((ns.take m).map V.int)))
    refine ⟨.ref a, rfl, .int m, rfl, m, rfl, 63, rfl, a, _, rfl, s2.seq hS, fun d nd => ?_⟩
    obtain ⟨ms, em, hms, hms2⟩ := cut_rest ns m 63
    rw [show (63 : Int) = ((63 : Nat) : Int) from rfl, em]
    have nl0 : H l = none := s1.free nl
    have nd0 : H d = none := s2.free nd
    have ndl : l ≠ d := fun e => by
      rw [← e, upd_same] at nd
      cases nd
    refine ⟨d, _, rfl, SqL.mk upd_same, for_it (walk_enum (xs := ms.map V.int)) (fun i σ H3 => ∃ y3 y4, ∃ cs : List Int, σ = [some (.ref a), some (.int m), some (.ref l), y3, y4] ∧ Same H H3 ∧ H3 l = some (.lst (cs.map V.int)) ∧ cs.length = (ns.take m).length ∧ H3 d = some (.lst (ms.map V.int))) ⟨none, none, ns.take m, rfl, s2.trans (same_upd nd), ?_, rfl, upd_same⟩ ?_ ?_ ?_⟩
    · rw [upd_ne ndl, upd_same]
    · rintro i σ H3 hi ⟨y3, y4, cs, rfl, s3, hl, hc, hd⟩
      exact SqL.mk hd
    · rintro i x σ H3 H4 hi ⟨y3, y4, cs, rfl, s3, hl, hc, hd⟩ ⟨t, x1, x2, rfl, nt, rfl, e1, e2⟩
      rw [List.length_map] at hi
      have lm : m < ns.length := hms (by omega)
      have lc : cs.length = m := by
        rw [hc, List.length_take]
        omega
      have ex1 : x1 = .int (i : Nat) := (Option.some.inj e1).symm
      have ex2 : x2 = .int ms[i] := by
        have e2 : (ms.map V.int)[i]? = some x2 := e2
        rw [List.getElem?_map, List.getElem?_eq_getElem hi] at e2
        exact (Option.some.inj e2).symm
      subst ex1 ex2
      have hl1 : (upd H3 t (.tup [.int (i : Nat), .int ms[i]])) l = some (.lst (cs.map V.int)) := by
        rw [upd_ne (ne_of_none hl nt)]
        exact hl
      have him : i % m < cs.length := by
        rw [lc]
        exact Nat.mod_lt _ hm
      have eim : ((i : Int) % (m : Int)) = ((i % m : Nat) : Int) := by omega
      refine ⟨t, _, rfl, SqT.mk upd_same, rfl, _, _, rfl, _, _, rfl, rfl, ?_⟩
      refine ⟨.ref l, rfl, .int (i : Nat), rfl, .int m, rfl, _, _, rfl, rfl, (show (0 : Int) < (m : Int) by omega), l, _, _, .int cs[i % m], rfl, rfl, SqL.mk hl1, ?_, .int ms[i], rfl, .int (i : Nat), rfl, _, _, rfl, rfl, _, _, rfl, rfl, .inr ⟨by omega, by omega⟩, _, _, rfl, rfl, .ref l, rfl, .int (i : Nat), rfl, .int m, rfl, _, _, rfl, rfl, (show (0 : Int) < (m : Int) by omega), l, _, _, i % m, rfl, rfl, hl1, ?_, ?_⟩
      · rw [eim]
        exact atI_nat (by rw [List.getElem?_map, List.getElem?_eq_getElem him]; rfl)
      · rw [eim]
        exact ixn (by rw [List.length_map]; exact him)
      · refine ⟨_, _, cs.set (i % m) (cs[i % m] + ms[i] * ((i : Int) + 2)), rfl, same_newer (s3.trans (same_upd nt)) nl0, ?_, by rw [List.length_set, hc], ?_⟩
        · rw [upd_same, List.map_set]
        · rw [upd_ne ndl.symm, upd_ne (ne_of_none hd nt)]
          exact hd
    · rintro σ H3 ⟨y3, y4, cs, rfl, s3, hl, hc, hd⟩
      exact ⟨.ref l, rfl, q H3 l cs s3 nl0 hl (by rw [hc, List.length_take]; omega)⟩
/-! the program's own -/
theorem op_fdivNW {X : Cx} : OpR X (binaryOp .FloorDiv) (rI (fun _ j => j ≠ 0 ∧ j.natAbs.log2 < 9000) fun i j => .int (i.fdiv j)) := opI fun _ _ _ _ _ _ _ hc q => floordiv_int hc.1 q (.inl (PyProof.noPylong_of_log2 hc.2))
theorem gcd_step (x y : Nat) : Nat.gcd y (x % y) = Nat.gcd x y := by
  rw [Nat.gcd_comm y, ← Nat.gcd_rec, Nat.gcd_comm]
def sp_common_divisor (_ : PySem.W.Frag) : Sp := fun vs H Q _ => ∃ a b : Int, vs = [.int a, .int b] ∧ Q (.int (if (1 : Int) > (Int.gcd a b : Int) then 1 else (Int.gcd a b : Int))) H
theorem ok_common_divisor (T : Defs K mg) : FnOk P w K mg base CX0 1 T.f_common_divisor T.fd_common_divisor ["one", "other"] (sp_common_divisor K) := by
  refine T.F_common_divisor.ok sc_common_divisor (fun vs H Q E h => ?_) (fun cdv A outer s H vs Q E hr h => ?_)
  · obtain ⟨a, b, rfl, q⟩ := h
    rfl
  · obtain ⟨a, b, rfl, q⟩ := h
    refine ⟨_, PSs.nox (pss_cons (ps_set (i := 0) sc_common_divisor.nd rfl (.inl rfl) (pe_callB call_abs (by rfl) T.m_abs bt_abs (pa_cons (pv 0) pa_nil)))
    (pss_cons (ps_set (i := 1) sc_common_divisor.nd rfl (.inl rfl) (pe_callB call_abs (by rfl) T.m_abs bt_abs (pa_cons (pv 1) pa_nil)))
    (pss_cons (ps_while PassesOwn.never (pt_cmpR op_gt (pv 1) pe_int (nomark _)) (pss_one (ps_par (i := 0) (j := 1) (by rfl) sc_common_divisor.nd rfl rfl (by decide) rfl rfl (pa_cons (pv 1) (pa_cons (pe_op op_mod (pv 0) (pv 1)) pa_nil)) (by rfl))))
    (pss_one (ps_ret (pe_callB (call_max2 rfl) (by rfl) T.m_max bt_max (pa_cons (pv 0) (pa_cons pe_int pa_nil)))))))), ?_⟩
    refine ⟨.int a, rfl, a, rfl, .int b, rfl, b, rfl, ?_⟩
    refine while_by (fun σ H1 => H1 = H ∧ ∃ x y : Nat, σ = [some (.int (x : Nat)), some (.int (y : Nat))] ∧ Nat.gcd x y = Int.gcd a b) (fun σ _ => match σ with | [_, some (.int y)] => y.toNat | _ => 0) ⟨rfl, a.natAbs, b.natAbs, ?_, rfl⟩ ?_ ?_
    · rw [abs_eq, abs_eq]
      rfl
    · rintro σ H1 ⟨rfl, x, y, rfl, hg⟩
      refine ⟨.int (y : Nat), rfl, _, _, rfl, rfl, _, rfl, ite2 (fun e => ?_) (fun e => ?_)⟩
      · have hy : (0 : Int) < (y : Int) := of_decide_eq_true e
        refine ⟨.int (y : Nat), rfl, .int (x : Nat), rfl, .int (y : Nat), rfl, _, _, rfl, rfl, hy, _, _, rfl, ⟨rfl, y, x % y, ?_, ?_⟩, ?_⟩
        · rfl
        · rw [gcd_step, hg]
        · show ((x : Int) % (y : Int)).toNat < ((y : Int)).toNat
          have := Int.emod_lt_of_pos (x : Int) hy
          have := Int.emod_nonneg (x : Int) (show (y : Int) ≠ 0 by omega)
          omega
      · have hy : ¬ (0 : Int) < (y : Int) := fun z => e (decide_eq_true z)
        have y0 : y = 0 := by omega
        subst y0
        rw [Nat.gcd_zero_right] at hg
        refine ⟨.int (x : Nat), rfl, _, _, rfl, ?_⟩
        rw [hg]
        exact q
    · rintro σ H1 Q1 Q2 hQ ⟨v, hv, i, j, e1, e2, k, e3, h3⟩
      exact ⟨v, hv, i, j, e1, e2, k, e3, hQ _ _ h3⟩
def sp_fraction (_ : PySem.W.Frag) : Sp := fun vs H Q _ => ∃ t b : Int, vs = [.int t, .int b] ∧ b ≠ 0 ∧ S 4000 b ∧ ∀ H' p, Same H H' → H p = none → H' p = some (.tup [.int (frT t b), .int (frB t b)]) → Q (.ref p) H'
theorem gcd_small {t b : Int} (hb : b ≠ 0) (h : S 4000 b) : (Int.gcd t b : Int).natAbs.log2 < 9000 := by
  have h1 : Int.gcd t b ≤ b.natAbs := Nat.le_of_dvd (by omega) (Nat.gcd_dvd_right _ _)
  have h2 : 0 < Int.gcd t b := Int.gcd_pos_of_ne_zero_right t hb
  exact (wide_div (i := 0) (j := (Int.gcd t b : Int)) (b := 4000) (by omega) (by rw [Int.natAbs_natCast]; exact Nat.lt_of_le_of_lt h1 h) (by decide) (by decide)).2
theorem ok_fraction (T : Defs K mg) : FnOk P w K mg base CX0 2 T.f_fraction T.fd_fraction ["top", "bottom"] (sp_fraction K) := by
  have G_common_divisor : FnOk P w K mg base CX0 1 T.f_common_divisor T.fd_common_divisor ["one", "other"] (sp_common_divisor K) := ok_common_divisor T
  refine T.F_fraction.ok sc_fraction (fun vs H Q E h => ?_) (fun cdv A outer s H vs Q E hr h => ?_)
  · obtain ⟨t, b, rfl, hb, hs, q⟩ := h
    rfl
  · obtain ⟨t, b, rfl, hb, hs, q⟩ := h
    refine ⟨_, PSs.nox (pss_cons (ps_set (i := 2) sc_fraction.nd rfl (.inl rfl) (pe_call G_common_divisor (hr.mono (by decide)) (by rfl) T.g_common_divisor T.F_common_divisor.kp T.b_common_divisor .nil pass0 (pa_cons (pv 0) (pa_cons (pv 1) pa_nil))))
    (pss_cons (ps_if (pt_cmpR op_lt (pv 1) pe_int (nomark _)) (pss_one (ps_set (i := 2) sc_fraction.nd rfl (.inl rfl) (pe_un un_neg (pv 2)))) pss_nil)
    (pss_one (ps_ret (pe_tup (pa_cons (pe_op op_fdivNW (pv 0) (pv 2)) (pa_cons (pe_op op_fdivNW (pv 1) (pv 2)) pa_nil))))))), ?_⟩
    have hg : 0 < Int.gcd t b := Int.gcd_pos_of_ne_zero_right t hb
    have hd := gcd_small (t := t) hb hs
    refine ⟨.int t, rfl, .int b, rfl, t, b, rfl, ?_⟩
    rw [if_neg (show ¬ (1 : Int) > (Int.gcd t b : Int) by omega)]
    refine ⟨.int b, rfl, _, _, rfl, rfl, _, rfl, ite2 (fun e => ?_) (fun e => ?_)⟩
    · have hb1 : b < 0 := of_decide_eq_true e
      refine ⟨_, rfl, _, rfl, .int t, rfl, _, rfl, _, _, rfl, rfl, ⟨by omega, by rw [Int.natAbs_neg]; exact hd⟩, .int b, rfl, _, rfl, _, _, rfl, rfl, ⟨by omega, by rw [Int.natAbs_neg]; exact hd⟩, (show 2 ≤ sizeLine by decide), fun p np => ?_⟩
      refine q _ p (same_upd np) np ?_
      rw [upd_same]
      exact congrArg some (by rw [← (fr_lt t hb1).1, ← (fr_lt t hb1).2])
    · have hb1 : ¬ b < 0 := fun z => e (decide_eq_true z)
      refine ⟨.int t, rfl, _, rfl, _, _, rfl, rfl, ⟨by omega, hd⟩, .int b, rfl, _, rfl, _, _, rfl, rfl, ⟨by omega, hd⟩, (show 2 ≤ sizeLine by decide), fun p np => ?_⟩
      refine q _ p (same_upd np) np ?_
      rw [upd_same]
      exact congrArg some (by rw [← (fr_ge t (show 0 < b by omega)).1, ← (fr_ge t (show 0 < b by omega)).2])
theorem mulW {n m : Nat} {x y : Int} (h : S (n + 1) x) (k : S (m + 1) y) (l : n + m ≤ 9000) : CMulW x y := wide_mul h k (by omega) (by omega) (by omega)
def spAr (K : PySem.W.Frag) (ft fb : Int → Int → Int → Int → Int) : Sp := fun vs H Q _ => ∃ (p r : Addr) (a b c d : Int), vs = [.ref p, .ref r] ∧ H p = some (.tup [.int a, .int b]) ∧ H r = some (.tup [.int c, .int d]) ∧ 0 < b ∧ 0 < d ∧ S 1000 a ∧ S 1000 b ∧ S 1000 c ∧ S 1000 d ∧
  ∀ H' t, Same H H' → H t = none → H' t = some (.tup [.int (frT (ft a b c d) (fb a b c d)), .int (frB (ft a b c d) (fb a b c d))]) → Q (.ref t) H'
abbrev sp_plus (K : PySem.W.Frag) : Sp := spAr K (fun a b c d => a * d + c * b) (fun _ b _ d => b * d)
abbrev sp_minus (K : PySem.W.Frag) : Sp := spAr K (fun a b c d => a * d - c * b) (fun _ b _ d => b * d)
abbrev sp_times (K : PySem.W.Frag) : Sp := spAr K (fun a _ c _ => a * c) (fun _ b _ d => b * d)
theorem bd_ne {b d : Int} (h : 0 < b) (k : 0 < d) : b * d ≠ 0 := by
  have := Int.mul_pos h k
  omega
theorem ok_plus (T : Defs K mg) : FnOk P w K mg base CX0 3 T.f_plus T.fd_plus ["one", "other"] (sp_plus K) := by
  have G_fraction : FnOk P w K mg base CX0 2 T.f_fraction T.fd_fraction ["top", "bottom"] (sp_fraction K) := ok_fraction T
  refine T.F_plus.ok sc_plus (fun vs H Q E h => ?_) (fun cdv A outer s H vs Q E hr h => ?_)
  · obtain ⟨p, r, a, b, c, d, rfl, hp, hq, hb, hd, sa, sb, sc, sd, q⟩ := h
    rfl
  · obtain ⟨p, r, a, b, c, d, rfl, hp, hq, hb, hd, sa, sb, sc, sd, q⟩ := h
    refine ⟨_, PSs.nox (pss_one (ps_ret (pe_call G_fraction (hr.mono (by decide)) (by rfl) T.g_fraction T.F_fraction.kp T.b_fraction .nil pass0 (pa_cons (pe_op op_add (pe_op op_mulW (pe_ix ix_tup (pv 0) pe_int (fun _ _ => rfl)) (pe_ix ix_tup (pv 1) pe_int (fun _ _ => rfl))) (pe_op op_mulW (pe_ix ix_tup (pv 1) pe_int (fun _ _ => rfl)) (pe_ix ix_tup (pv 0) pe_int (fun _ _ => rfl)))) (pa_cons (pe_op op_mulW (pe_ix ix_tup (pv 0) pe_int (fun _ _ => rfl)) (pe_ix ix_tup (pv 1) pe_int (fun _ _ => rfl))) pa_nil))))), ?_⟩
    have SP : SqT K H p [.int a, .int b] := SqT.mk hp
    have SR : SqT K H r [.int c, .int d] := SqT.mk hq
    refine ⟨.ref p, rfl, p, _, 0, _, rfl, rfl, SP, atI_nat (j := 0) rfl, .ref r, rfl, r, _, 1, _, rfl, rfl, SR, atI_nat (j := 1) rfl, _, _, rfl, rfl, mulW sa sd (by decide), .ref r, rfl, r, _, 0, _, rfl, rfl, SR, atI_nat (j := 0) rfl, .ref p, rfl, p, _, 1, _, rfl, rfl, SP, atI_nat (j := 1) rfl, _, _, rfl, rfl, mulW sc sb (by decide), _, _, rfl, rfl, .ref p, rfl, p, _, 1, _, rfl, rfl, SP, atI_nat (j := 1) rfl, .ref r, rfl, r, _, 1, _, rfl, rfl, SR, atI_nat (j := 1) rfl, _, _, rfl, rfl, mulW sb sd (by decide), ?_⟩
    exact ⟨_, _, rfl, bd_ne hb hd, (sb.mul sd).mono (by decide), q⟩
theorem ok_minus (T : Defs K mg) : FnOk P w K mg base CX0 3 T.f_minus T.fd_minus ["one", "other"] (sp_minus K) := by
  have G_fraction : FnOk P w K mg base CX0 2 T.f_fraction T.fd_fraction ["top", "bottom"] (sp_fraction K) := ok_fraction T
  refine T.F_minus.ok sc_minus (fun vs H Q E h => ?_) (fun cdv A outer s H vs Q E hr h => ?_)
  · obtain ⟨p, r, a, b, c, d, rfl, hp, hq, hb, hd, sa, sb, sc, sd, q⟩ := h
    rfl
  · obtain ⟨p, r, a, b, c, d, rfl, hp, hq, hb, hd, sa, sb, sc, sd, q⟩ := h
    refine ⟨_, PSs.nox (pss_one (ps_ret (pe_call G_fraction (hr.mono (by decide)) (by rfl) T.g_fraction T.F_fraction.kp T.b_fraction .nil pass0 (pa_cons (pe_op op_sub (pe_op op_mulW (pe_ix ix_tup (pv 0) pe_int (fun _ _ => rfl)) (pe_ix ix_tup (pv 1) pe_int (fun _ _ => rfl))) (pe_op op_mulW (pe_ix ix_tup (pv 1) pe_int (fun _ _ => rfl)) (pe_ix ix_tup (pv 0) pe_int (fun _ _ => rfl)))) (pa_cons (pe_op op_mulW (pe_ix ix_tup (pv 0) pe_int (fun _ _ => rfl)) (pe_ix ix_tup (pv 1) pe_int (fun _ _ => rfl))) pa_nil))))), ?_⟩
    have SP : SqT K H p [.int a, .int b] := SqT.mk hp
    have SR : SqT K H r [.int c, .int d] := SqT.mk hq
    refine ⟨.ref p, rfl, p, _, 0, _, rfl, rfl, SP, atI_nat (j := 0) rfl, .ref r, rfl, r, _, 1, _, rfl, rfl, SR, atI_nat (j := 1) rfl, _, _, rfl, rfl, mulW sa sd (by decide), .ref r, rfl, r, _, 0, _, rfl, rfl, SR, atI_nat (j := 0) rfl, .ref p, rfl, p, _, 1, _, rfl, rfl, SP, atI_nat (j := 1) rfl, _, _, rfl, rfl, mulW sc sb (by decide), _, _, rfl, rfl, .ref p, rfl, p, _, 1, _, rfl, rfl, SP, atI_nat (j := 1) rfl, .ref r, rfl, r, _, 1, _, rfl, rfl, SR, atI_nat (j := 1) rfl, _, _, rfl, rfl, mulW sb sd (by decide), ?_⟩
    exact ⟨_, _, rfl, bd_ne hb hd, (sb.mul sd).mono (by decide), q⟩
theorem ok_times (T : Defs K mg) : FnOk P w K mg base CX0 3 T.f_times T.fd_times ["one", "other"] (sp_times K) := by
  have G_fraction : FnOk P w K mg base CX0 2 T.f_fraction T.fd_fraction ["top", "bottom"] (sp_fraction K) := ok_fraction T
  refine T.F_times.ok sc_times (fun vs H Q E h => ?_) (fun cdv A outer s H vs Q E hr h => ?_)
  · obtain ⟨p, r, a, b, c, d, rfl, hp, hq, hb, hd, sa, sb, sc, sd, q⟩ := h
    rfl
  · obtain ⟨p, r, a, b, c, d, rfl, hp, hq, hb, hd, sa, sb, sc, sd, q⟩ := h
    refine ⟨_, PSs.nox (pss_one (ps_ret (pe_call G_fraction (hr.mono (by decide)) (by rfl) T.g_fraction T.F_fraction.kp T.b_fraction .nil pass0 (pa_cons (pe_op op_mulW (pe_ix ix_tup (pv 0) pe_int (fun _ _ => rfl)) (pe_ix ix_tup (pv 1) pe_int (fun _ _ => rfl))) (pa_cons (pe_op op_mulW (pe_ix ix_tup (pv 0) pe_int (fun _ _ => rfl)) (pe_ix ix_tup (pv 1) pe_int (fun _ _ => rfl))) pa_nil))))), ?_⟩
    have SP : SqT K H p [.int a, .int b] := SqT.mk hp
    have SR : SqT K H r [.int c, .int d] := SqT.mk hq
    refine ⟨.ref p, rfl, p, _, 0, _, rfl, rfl, SP, atI_nat (j := 0) rfl, .ref r, rfl, r, _, 0, _, rfl, rfl, SR, atI_nat (j := 0) rfl, _, _, rfl, rfl, mulW sa sc (by decide), .ref p, rfl, p, _, 1, _, rfl, rfl, SP, atI_nat (j := 1) rfl, .ref r, rfl, r, _, 1, _, rfl, rfl, SR, atI_nat (j := 1) rfl, _, _, rfl, rfl, mulW sb sd (by decide), ?_⟩
    exact ⟨_, _, rfl, bd_ne hb hd, (sb.mul sd).mono (by decide), q⟩
def sp_before (_ : PySem.W.Frag) : Sp := fun vs H Q _ => ∃ (p r : Addr) (a b c d : Int), vs = [.ref p, .ref r] ∧ H p = some (.tup [.int a, .int b]) ∧ H r = some (.tup [.int c, .int d]) ∧ S 1000 a ∧ S 1000 b ∧ S 1000 c ∧ S 1000 d ∧ Q (.bl (decide (a * d < c * b))) H
theorem ok_before (T : Defs K mg) : FnOk P w K mg base CX0 1 T.f_before T.fd_before ["one", "other"] (sp_before K) := by
  refine T.F_before.ok sc_before (fun vs H Q E h => ?_) (fun cdv A outer s H vs Q E hr h => ?_)
  · obtain ⟨p, r, a, b, c, d, rfl, hp, hq, sa, sb, sc, sd, q⟩ := h
    rfl
  · obtain ⟨p, r, a, b, c, d, rfl, hp, hq, sa, sb, sc, sd, q⟩ := h
    refine ⟨_, PSs.nox (pss_one (ps_ret (pe_cmpR op_lt (pe_op op_mulW (pe_ix ix_tup (pv 0) pe_int (fun _ _ => rfl)) (pe_ix ix_tup (pv 1) pe_int (fun _ _ => rfl))) (pe_op op_mulW (pe_ix ix_tup (pv 1) pe_int (fun _ _ => rfl)) (pe_ix ix_tup (pv 0) pe_int (fun _ _ => rfl))) (nomark _)))), ?_⟩
    have SP : SqT K H p [.int a, .int b] := SqT.mk hp
    have SR : SqT K H r [.int c, .int d] := SqT.mk hq
    refine ⟨.ref p, rfl, p, _, 0, _, rfl, rfl, SP, atI_nat (j := 0) rfl, .ref r, rfl, r, _, 1, _, rfl, rfl, SR, atI_nat (j := 1) rfl, _, _, rfl, rfl, mulW sa sd (by decide), .ref r, rfl, r, _, 0, _, rfl, rfl, SR, atI_nat (j := 0) rfl, .ref p, rfl, p, _, 1, _, rfl, rfl, SP, atI_nat (j := 1) rfl, _, _, rfl, rfl, mulW sc sb (by decide), _, _, rfl, rfl, q⟩
/-! the law's own divisor -/
def sp__law_divisor (_ : PySem.W.Frag) : Sp := fun vs H Q _ => ∃ a b : Int, vs = [.int a, .int b] ∧ Q (.int (Int.gcd a b : Int)) H
theorem ok__law_divisor (T : Defs K mg) : FnOk P w K mg base CX0 1 T.f__law_divisor T.fd__law_divisor ["_law_one", "_law_other"] (sp__law_divisor K) := by
  refine T.F__law_divisor.ok sc__law_divisor (fun vs H Q E h => ?_) (fun cdv A outer s H vs Q E hr h => ?_)
  · obtain ⟨a, b, rfl, q⟩ := h
    rfl
  · obtain ⟨a, b, rfl, q⟩ := h
    refine ⟨_, PSs.nox (pss_cons (ps_par (i := 0) (j := 1) (by rfl) sc__law_divisor.nd rfl rfl (by decide) rfl rfl (pa_cons (pe_callB call_abs (by rfl) T.m_abs bt_abs (pa_cons (pv 0) pa_nil)) (pa_cons (pe_callB call_abs (by rfl) T.m_abs bt_abs (pa_cons (pv 1) pa_nil)) pa_nil)) (by rfl))
    (pss_cons (ps_while PassesOwn.never (PW.pt (pw_and (pt_cmpR op_gt (pv 0) pe_int (nomark _)) (pw_and1 (pt_cmpR op_gt (pv 1) pe_int (nomark _))))) (pss_cons (ps_if (pt_cmpR op_lt (pv 0) (pv 1) (nomark _)) (pss_one (ps_par (i := 0) (j := 1) (by rfl) sc__law_divisor.nd rfl rfl (by decide) rfl rfl (pa_cons (pv 1) (pa_cons (pv 0) pa_nil)) (by rfl))) pss_nil)
    (pss_one (ps_set (i := 0) sc__law_divisor.nd rfl (.inl rfl) (pe_op op_mod (pv 0) (pv 1))))))
    (pss_one (ps_ret (pe_op op_add (pv 0) (pv 1)))))), ?_⟩
    refine ⟨.int a, rfl, a, rfl, .int b, rfl, b, rfl, _, _, rfl, ?_⟩
    refine while_by (fun σ H1 => H1 = H ∧ ∃ x y : Nat, σ = [some (.int (x : Nat)), some (.int (y : Nat))] ∧ Nat.gcd x y = Int.gcd a b) (fun σ _ => match σ with | [some (.int x), some (.int y)] => x.toNat + y.toNat | _ => 0) ⟨rfl, a.natAbs, b.natAbs, ?_, rfl⟩ ?_ ?_
    · rw [abs_eq, abs_eq]
      rfl
    · rintro σ H1 ⟨rfl, x, y, rfl, hg⟩
      have fin : (x = 0 ∨ y = 0) → ((x : Int) + (y : Int)) = (Int.gcd a b : Int) := fun z => by
        rcases z with rfl | rfl
        · rw [Nat.gcd_zero_left] at hg
          omega
        · rw [Nat.gcd_zero_right] at hg
          omega
      refine ⟨.int (x : Nat), rfl, _, _, rfl, rfl, _, rfl, ite2 (fun e1 => ?_) (fun e1 => ?_)⟩
      · have hx : (0 : Int) < (x : Int) := of_decide_eq_true e1
        refine ⟨.int (y : Nat), rfl, _, _, rfl, rfl, _, rfl, ite2 (fun e2 => ?_) (fun e2 => ?_)⟩
        · have hy : (0 : Int) < (y : Int) := of_decide_eq_true e2
          refine ⟨.int (x : Nat), rfl, .int (y : Nat), rfl, _, _, rfl, rfl, _, rfl, ite2 (fun e3 => ?_) (fun e3 => ?_)⟩
          · have hl : (x : Int) < (y : Int) := of_decide_eq_true e3
            refine ⟨.int (y : Nat), rfl, .int (x : Nat), rfl, _, _, rfl, .int (y : Nat), rfl, .int (x : Nat), rfl, _, _, rfl, rfl, hx, ⟨rfl, y % x, x, rfl, ?_⟩, ?_⟩
            · rw [← Nat.gcd_rec]
              exact hg
            · show ((y : Int) % (x : Int)).toNat + ((x : Int)).toNat < ((x : Int)).toNat + ((y : Int)).toNat
              have := Int.emod_lt_of_pos (y : Int) hx
              have := Int.emod_nonneg (y : Int) (show (x : Int) ≠ 0 by omega)
              omega
          · have hl : ¬ (x : Int) < (y : Int) := fun z => e3 (decide_eq_true z)
            refine ⟨.int (x : Nat), rfl, .int (y : Nat), rfl, _, _, rfl, rfl, hy, ⟨rfl, x % y, y, rfl, ?_⟩, ?_⟩
            · rw [← Nat.gcd_rec, Nat.gcd_comm]
              exact hg
            · show ((x : Int) % (y : Int)).toNat + ((y : Int)).toNat < ((x : Int)).toNat + ((y : Int)).toNat
              have := Int.emod_lt_of_pos (x : Int) hy
              have := Int.emod_nonneg (x : Int) (show (y : Int) ≠ 0 by omega)
              omega
        · have hy : ¬ (0 : Int) < (y : Int) := fun z => e2 (decide_eq_true z)
          refine ⟨.int (x : Nat), rfl, .int (y : Nat), rfl, _, _, rfl, rfl, ?_⟩
          show Q (.int ((x : Int) + (y : Int))) H1
          rw [fin (.inr (by omega))]
          exact q
      · have hx : ¬ (0 : Int) < (x : Int) := fun z => e1 (decide_eq_true z)
        refine ⟨.int (x : Nat), rfl, .int (y : Nat), rfl, _, _, rfl, rfl, ?_⟩
        show Q (.int ((x : Int) + (y : Int))) H1
        rw [fin (.inl (by omega))]
        exact q
    · rintro σ H1 Q1 Q2 hQ ⟨v, hv, i, j, e1, e2, k, e3, h3⟩
      refine ⟨v, hv, i, j, e1, e2, k, e3, ?_⟩
      cases k with
      | true =>
        rw [if_pos rfl] at h3 ⊢
        obtain ⟨v, hv, i, j, e1, e2, k, e3, h3⟩ := h3
        exact ⟨v, hv, i, j, e1, e2, k, e3, hQ _ _ h3⟩
      | false =>
        rw [if_neg Bool.false_ne_true] at h3 ⊢
        exact hQ _ _ h3
/-! numbers and pairs of the law -/
theorem s40 {x : Int} (h0 : 0 ≤ x) (h1 : x < 1099511627776) : S 40 x := by
  show x.natAbs < 1099511627776
  omega
def sp__law_number (_ : PySem.W.Frag) : Sp := fun vs H Q _ => ∃ (p : Addr) (n : Nat), vs = [.ref p] ∧ Bx H p n ∧ n < 100000000000 ∧
  ∀ H' x, But p H H' → Bx H' p (n + 6) → S 42 x → Q (.int x) H'
theorem ok__law_number (T : Defs K mg) : FnOk P w K mg base CX0 2 T.f__law_number T.fd__law_number ["_law_box_here"] (sp__law_number K) := by
  have G__law_take : FnOk P w K mg base CX0 1 T.f__law_take T.fd__law_take ["_law_box_here", "_law_many"] (sp__law_take K) := ok__law_take T
  refine T.F__law_number.ok sc__law_number (fun vs H Q E h => ?_) (fun cdv A outer s H vs Q E hr h => ?_)
  · obtain ⟨p, n, rfl, hB, hn, q⟩ := h
    rfl
  · obtain ⟨p, n, rfl, hB, hn, q⟩ := h
    refine ⟨_, PSs.nox (pss_cons (ps_set (i := 1) sc__law_number.nd rfl (.inl rfl) (pe_lst (pa_cons (pe_call G__law_take (hr.mono (by decide)) (by rfl) T.g__law_take T.F__law_take.kp T.b__law_take .nil pass0 (pa_cons (pv 0) (pa_cons pe_int pa_nil))) (pa_cons (pe_call G__law_take (hr.mono (by decide)) (by rfl) T.g__law_take T.F__law_take.kp T.b__law_take .nil pass0 (pa_cons (pv 0) (pa_cons pe_int pa_nil))) (pa_cons (pe_op op_sub pe_int (pe_call G__law_take (hr.mono (by decide)) (by rfl) T.g__law_take T.F__law_take.kp T.b__law_take .nil pass0 (pa_cons (pv 0) (pa_cons pe_int pa_nil)))) (pa_cons (pe_call G__law_take (hr.mono (by decide)) (by rfl) T.g__law_take T.F__law_take.kp T.b__law_take .nil pass0 (pa_cons (pv 0) (pa_cons (pe_op op_pow pe_int pe_int) pa_nil))) pa_nil))))))
    (pss_one (ps_ret (pe_op op_mul (pe_ix ix_list (pv 1) (pe_call G__law_take (hr.mono (by decide)) (by rfl) T.g__law_take T.F__law_take.kp T.b__law_take .nil pass0 (pa_cons (pv 0) (pa_cons pe_int pa_nil))) (fun _ _ => rfl)) (pe_ix ix_list (pe_lst (pa_cons pe_int (pa_cons pe_int (pa_cons (pe_un un_neg pe_int) pa_nil)))) (pe_call G__law_take (hr.mono (by decide)) (by rfl) T.g__law_take T.F__law_take.kp T.b__law_take .nil pass0 (pa_cons (pv 0) (pa_cons pe_int pa_nil))) (fun _ _ => rfl)))))), ?_⟩
    refine ⟨.ref p, rfl, p, 9, n, rfl, hB, by decide, by decide, by omega, fun H1 r1 b1 B1 l1 u1 => ?_⟩
    refine ⟨.ref p, rfl, p, 1000, n + 1, rfl, B1, by decide, by decide, by omega, fun H2 r2 b2 B2 l2 u2 => ?_⟩
    refine ⟨.ref p, rfl, p, 3, n + 2, rfl, B2, by decide, by decide, by omega, fun H3 r3 b3 B3 l3 u3 => ⟨_, _, rfl, rfl, ?_⟩⟩
    refine ⟨.ref p, rfl, _, _, rfl, rfl, ⟨by decide, by decide, by decide⟩, p, _, n + 3, rfl, B3, by decide, by decide, by omega, fun H4 r4 b4 B4 l4 u4 => ?_⟩
    have u4 : r4 < 1000000000000 := u4
    refine ⟨(show 4 ≤ sizeLine by decide), fun s ns => ?_⟩
    have hs : (upd H4 s (.lst [.int r1, .int r2, .int (4096 - r3), .int r4])) s = some (.lst [.int r1, .int r2, .int (4096 - r3), .int r4]) := upd_same
    have nsp : s ≠ p := fun e => by
      obtain ⟨a, b, c, hp, _⟩ := B4
      rw [e, hp] at ns
      cases ns
    refine ⟨.ref s, rfl, .ref p, rfl, p, 4, n + 4, rfl, B4.new ns, by decide, by decide, by omega, fun H5 r5 b5 B5 l5 u5 => ?_⟩
    obtain ⟨v, ev, sv⟩ := at_menu (Pr := S 40) (xs := [r1, r2, 4096 - r3, r4]) l5 u5 (fun x hx => by
      rcases List.mem_cons.mp hx with rfl | hx
      · exact s40 l1 (by omega)
      rcases List.mem_cons.mp hx with rfl | hx
      · exact s40 l2 (by omega)
      rcases List.mem_cons.mp hx with rfl | hx
      · exact s40 (by omega) (by omega)
      rcases List.mem_cons.mp hx with rfl | hx
      · exact s40 l4 (by omega)
      · cases hx)
    refine ⟨s, _, _, _, rfl, rfl, SqL.mk (b5 s _ nsp hs), ev, 1, rfl, (show 3 ≤ sizeLine by decide), fun l nl => ?_⟩
    have nlp : l ≠ p := fun e => by
      obtain ⟨a, b, c, hp, _⟩ := B5
      rw [e, hp] at nl
      cases nl
    refine ⟨.ref p, rfl, p, 3, n + 5, rfl, B5.new nl, by decide, by decide, by omega, fun H6 r6 b6 B6 l6 u6 => ?_⟩
    obtain ⟨z, ez, sz⟩ := at_menu (Pr := fun z => z = 1 ∨ z = -1) (xs := [1, 1, -1]) l6 u6 (fun x hx => by
      rcases List.mem_cons.mp hx with rfl | hx
      · exact .inl rfl
      rcases List.mem_cons.mp hx with rfl | hx
      · exact .inl rfl
      rcases List.mem_cons.mp hx with rfl | hx
      · exact .inr rfl
      · cases hx)
    refine ⟨l, _, _, _, rfl, rfl, SqL.mk (b6 l _ nlp upd_same), ez, _, _, rfl, rfl, .inr ⟨by omega, by omega⟩, ?_⟩
    refine q H6 _ ?_ B6 ?_
    · exact ((((((b1.trans b2).trans b3).trans b4).trans ((But.refl p _).new ns)).trans b5).trans ((But.refl p _).new nl)).trans b6
    · exact (sv.mul (show S 2 z by
        show z.natAbs < 4
        omega)).mono (by decide)
def sp__law_pair (_ : PySem.W.Frag) : Sp := fun vs H Q _ => ∃ (p : Addr) (n : Nat), vs = [.ref p] ∧ Bx H p n ∧ n < 10000000000 ∧
  ∀ H' t x y, But p H H' → Bx H' p (n + 13) → H' t = some (.tup [.int x, .int y]) → y ≠ 0 → S 50 x → S 50 y → Q (.ref t) H'
theorem ok__law_pair (T : Defs K mg) : FnOk P w K mg base CX0 3 T.f__law_pair T.fd__law_pair ["_law_box_here"] (sp__law_pair K) := by
  have G__law_number : FnOk P w K mg base CX0 2 T.f__law_number T.fd__law_number ["_law_box_here"] (sp__law_number K) := ok__law_number T
  have G__law_take : FnOk P w K mg base CX0 1 T.f__law_take T.fd__law_take ["_law_box_here", "_law_many"] (sp__law_take K) := ok__law_take T
  refine T.F__law_pair.ok sc__law_pair (fun vs H Q E h => ?_) (fun cdv A outer s H vs Q E hr h => ?_)
  · obtain ⟨p, n, rfl, hB, hn, q⟩ := h
    rfl
  · obtain ⟨p, n, rfl, hB, hn, q⟩ := h
    refine ⟨_, PSs.nox (pss_cons (ps_par (i := 1) (j := 2) (by rfl) sc__law_pair.nd rfl rfl (by decide) rfl rfl (pa_cons (pe_call G__law_number (hr.mono (by decide)) (by rfl) T.g__law_number T.F__law_number.kp T.b__law_number .nil pass0 (pa_cons (pv 0) pa_nil)) (pa_cons (pe_call G__law_number (hr.mono (by decide)) (by rfl) T.g__law_number T.F__law_number.kp T.b__law_number .nil pass0 (pa_cons (pv 0) pa_nil)) pa_nil)) (by rfl))
    (pss_cons (ps_set (i := 3) sc__law_pair.nd rfl (.inl rfl) (pe_op op_add pe_int (pe_call G__law_take (hr.mono (by decide)) (by rfl) T.g__law_take T.F__law_take.kp T.b__law_take .nil pass0 (pa_cons (pv 0) (pa_cons pe_int pa_nil)))))
    (pss_one (ps_ret (pe_tup (pa_cons (pe_op op_mul (pv 1) (pv 3)) (pa_cons (pe_op op_mul (pe_ifExp (pt_cmpR op_ne (pv 2) pe_int (nomark _)) (pv 2) (pe_un un_neg pe_int)) (pv 3)) pa_nil))))))), ?_⟩
    refine ⟨.ref p, rfl, p, n, rfl, hB, by omega, fun H1 x b1 B1 sx => ?_⟩
    refine ⟨.ref p, rfl, p, n + 6, rfl, B1, by omega, fun H2 y b2 B2 sy => ⟨_, _, rfl, ?_⟩⟩
    refine ⟨.ref p, rfl, p, 12, n + 12, rfl, B2, by decide, by decide, by omega, fun H3 r b3 B3 l3 u3 => ⟨_, _, rfl, rfl, ?_⟩⟩
    have sr : S 4 (1 + r) := by
      show (1 + r).natAbs < 16
      omega
    refine ⟨.int x, rfl, _, rfl, _, _, rfl, rfl, .inr ⟨by omega, by omega⟩, .int y, rfl, rfl, _, rfl, ?_⟩
    refine ite2 (fun e => ?_) (fun e => ?_)
    · have hy : y ≠ 0 := fun z => by
        subst z
        cases e
      refine ⟨.int y, rfl, _, rfl, _, _, rfl, rfl, .inr ⟨by omega, by omega⟩, (show 2 ≤ sizeLine by decide), fun t nt => ?_⟩
      exact q _ t _ _ (((b1.trans b2).trans b3).new nt) (B3.new nt) upd_same (Int.mul_ne_zero hy (by omega)) ((sx.mul sr).mono (by decide)) ((sy.mul sr).mono (by decide))
    · refine ⟨1, rfl, _, rfl, _, _, rfl, rfl, .inr ⟨by omega, by omega⟩, (show 2 ≤ sizeLine by decide), fun t nt => ?_⟩
      exact q _ t _ _ (((b1.trans b2).trans b3).new nt) (B3.new nt) upd_same (Int.mul_ne_zero (by decide) (by omega)) ((sx.mul sr).mono (by decide)) (((show S 1 (-1) from (show (-1 : Int).natAbs < 2 ^ 1 by decide)).mul sr).mono (by decide))
/-! what the law asks of a fraction -/
def sp__law_is_lowest (_ : PySem.W.Frag) : Sp := fun vs H Q _ => ∃ (p : Addr) (t b : Int), vs = [.ref p] ∧ H p = some (.tup [.int t, .int b]) ∧ 0 < b ∧ Int.gcd t b = 1 ∧ ∀ H', Same H H' → Q (.bl true) H'
theorem kT : PySem.W.kitOne K (.type "tuple") (.type "tuple") = some true := kit_ty (by decide +kernel)
theorem kI : PySem.W.kitOne K (.type "int") (.type "int") = some true := kit_ty (by decide +kernel)
theorem kIB : PySem.W.kitOne K (.type "int") (.type "bool") = some false := kit_ty (by decide +kernel)
theorem kBB : PySem.W.kitOne K (.type "bool") (.type "bool") = some true := kit_ty (by decide +kernel)
theorem ok__law_is_lowest (T : Defs K mg) : FnOk P w K mg base CX0 2 T.f__law_is_lowest T.fd__law_is_lowest ["_law_found"] (sp__law_is_lowest K) := by
  have G__law_divisor : FnOk P w K mg base CX0 1 T.f__law_divisor T.fd__law_divisor ["_law_one", "_law_other"] (sp__law_divisor K) := ok__law_divisor T
  refine T.F__law_is_lowest.ok sc__law_is_lowest (fun vs H Q E h => ?_) (fun cdv A outer s H vs Q E hr h => ?_)
  · obtain ⟨p, t, b, rfl, hp, hb, hg, q⟩ := h
    rfl
  · obtain ⟨p, t, b, rfl, hp, hb, hg, q⟩ := h
    refine ⟨_, PSs.nox (pss_cons (ps_if (PW.pt (pw_or (pt_not (pt_val (pe_callB call_isi (by rfl) T.m_isinstance bt_isinstance (pa_cons (pv 0) (pa_cons (pe_bltn (v := .ty "tuple") (by rfl) T.m_tuple bt_tuple rfl) pa_nil))))) (pw_or1 (pt_cmpR op_ne (pe_callB call_len_seq (by rfl) T.m_len bt_len (pa_cons (pv 0) pa_nil)) pe_int (nomark _))))) (pss_one (ps_ret pe_bl)) pss_nil)
    (pss_cons (ps_if (pt_val (pe_callB (cr_any rfl) (by rfl) T.m_any bt_any (pa_cons (pe_lc (own := [("_law_part", 1)]) (g := gName 1) (tt := tYes) rfl sc__law_is_lowest.nd (pi_tup (pv 0)) (blkOk_by (N := N__law_is_lowest) (sc := defScope s__law_is_lowest) (by decide +kernel)) (fun _ _ _ _ _ => (pg_name (i := 1) sc__law_is_lowest.nd rfl (.inl rfl))) (fun _ _ _ _ _ => pts_nil) (fun _ _ _ _ _ => (pe_or (pe_not (pe_callB (isiK (K := K) rfl) (by rfl) T.m_isinstance bt_isinstance (pa_cons (pv 1) (pa_cons (pe_bltn (v := .ty "int") (by rfl) T.m_int bt_int rfl) pa_nil)))) (pe_one (pe_callB (isiK (K := K) rfl) (by rfl) T.m_isinstance bt_isinstance (pa_cons (pv 1) (pa_cons (pe_bltn (v := .ty "bool") (by rfl) T.m_bool bt_bool rfl) pa_nil))))))) pa_nil))) (pss_one (ps_ret pe_bl)) pss_nil)
    (pss_one (ps_ret (pe_and (pe_cmpR op_gt (pe_ix ix_tup (pv 0) pe_int (fun _ _ => rfl)) pe_int (nomark _)) (pe_one (pe_cmpR op_eq (pe_call G__law_divisor (hr.mono (by decide)) (by rfl) T.g__law_divisor T.F__law_divisor.kp T.b__law_divisor .nil pass0 (pa_cons (pe_ix ix_tup (pv 0) pe_int (fun _ _ => rfl)) (pa_cons (pe_ix ix_tup (pv 0) pe_int (fun _ _ => rfl)) pa_nil))) pe_int (nomark _)))))))), ?_⟩
    have SP : SqT K H p [.int t, .int b] := SqT.mk hp
    refine ⟨.ref p, rfl, _, _, _, _, _, rfl, .ty "tuple", .base (.tup hp), kT, _, rfl, ?_⟩
    refine iteF ?_
    refine ⟨.ref p, rfl, p, _, rfl, .inr SP, rfl, _, rfl, ?_⟩
    refine iteF ?_
    refine ⟨.ref p, rfl, p, rfl, ⟨_, SP⟩, fun D nD => ?_⟩
    have npD : p ≠ D := ne_of_none hp nD
    refine lc_tup (xs := [.int t, .int b]) (fun i H1 => Same H H1 ∧ H1 D = some (.lst ((List.replicate i false).map V.bl))) ⟨same_upd nD, upd_same⟩ (fun i H1 _ h1 => SqT.mk (h1.1 _ _ hp)) ?_ ?_
    · rintro i x H1 hx ⟨s1, hD⟩
      have ex : ∃ n : Int, x = .int n := by
        match i, hx with
        | 0, hx => exact ⟨t, (Option.some.inj hx).symm⟩
        | 1, hx => exact ⟨b, (Option.some.inj hx).symm⟩
      obtain ⟨n, rfl⟩ := ex
      have hi : i < 2 := (List.getElem?_eq_some_iff.mp hx).1
      refine ⟨rfl, ?_⟩
      refine yes_ite ?_
      refine ⟨.int n, rfl, _, _, _, _, _, rfl, .ty "int", .base (.int n), kI, _, rfl, ?_⟩
      refine ⟨_, rfl, ?_⟩
      refine iteF ?_
      refine ⟨.int n, rfl, _, _, _, _, _, rfl, .ty "bool", .base (.int n), kIB, ?_⟩
      refine ⟨_, hD, by rw [List.length_map, List.length_replicate]; exact small1000 (by omega), same_newer s1 nD, ?_⟩
      rw [upd_same, List.replicate_succ', List.map_append]
      rfl
    · rintro H1 ⟨s1, hD⟩
      refine ⟨D, [false, false], rfl, SqL.mk hD, _, rfl, ?_⟩
      refine iteF ?_
      have SP1 : SqT K H1 p [.int t, .int b] := SqT.mk (s1 _ _ hp)
      refine ⟨.ref p, rfl, p, _, 1, _, rfl, rfl, SP1, atI_nat (j := 1) rfl, _, _, rfl, rfl, _, rfl, ?_⟩
      rw [decide_eq_true hb]
      refine iteT ?_
      refine ⟨.ref p, rfl, p, _, 0, _, rfl, rfl, SP1, atI_nat (j := 0) rfl, .ref p, rfl, p, _, 1, _, rfl, rfl, SP1, atI_nat (j := 1) rfl, t, b, rfl, rfl, ?_⟩
      rw [hg]
      exact q _ s1
def sp__law_is (_ : PySem.W.Frag) : Sp := fun vs H Q _ => ∃ (p : Addr) (t b x y : Int), vs = [.ref p, .int x, .int y] ∧ H p = some (.tup [.int t, .int b]) ∧ 0 < b ∧ Int.gcd t b = 1 ∧ t * y = x * b ∧ S 4000 t ∧ S 4000 b ∧ S 4000 x ∧ S 4000 y ∧ ∀ H', Same H H' → Q (.bl true) H'
theorem ok__law_is (T : Defs K mg) : FnOk P w K mg base CX0 3 T.f__law_is T.fd__law_is ["_law_found", "_law_top", "_law_bottom"] (sp__law_is K) := by
  have G__law_is_lowest : FnOk P w K mg base CX0 2 T.f__law_is_lowest T.fd__law_is_lowest ["_law_found"] (sp__law_is_lowest K) := ok__law_is_lowest T
  refine T.F__law_is.ok sc__law_is (fun vs H Q E h => ?_) (fun cdv A outer s H vs Q E hr h => ?_)
  · obtain ⟨p, t, b, x, y, rfl, hp, hb, hg, he, st, sb, sx, sy, q⟩ := h
    rfl
  · obtain ⟨p, t, b, x, y, rfl, hp, hb, hg, he, st, sb, sx, sy, q⟩ := h
    refine ⟨_, PSs.nox (pss_one (ps_ret (pe_and (pe_call G__law_is_lowest (hr.mono (by decide)) (by rfl) T.g__law_is_lowest T.F__law_is_lowest.kp T.b__law_is_lowest .nil pass0 (pa_cons (pv 0) pa_nil)) (pe_one (pe_cmpR op_eq (pe_op op_mulW (pe_ix ix_tup (pv 0) pe_int (fun _ _ => rfl)) (pv 2)) (pe_op op_mulW (pv 1) (pe_ix ix_tup (pv 0) pe_int (fun _ _ => rfl))) (nomark _)))))), ?_⟩
    refine ⟨.ref p, rfl, p, t, b, rfl, hp, hb, hg, fun H1 s1 => ⟨_, rfl, ?_⟩⟩
    have SP1 : SqT K H1 p [.int t, .int b] := SqT.mk (s1 _ _ hp)
    refine iteT ?_
    refine ⟨.ref p, rfl, p, _, 0, _, rfl, rfl, SP1, atI_nat (j := 0) rfl, .int y, rfl, _, _, rfl, rfl, mulW st sy (by decide), .int x, rfl, .ref p, rfl, p, _, 1, _, rfl, rfl, SP1, atI_nat (j := 1) rfl, _, _, rfl, rfl, mulW sx sb (by decide), rfl, ?_⟩
    have e : decide (V.int (t * y) = V.int (x * b)) = true := by rw [he]; exact decide_eq_true rfl
    show Q (.bl (decide (V.int (t * y) = V.int (x * b)))) H1
    rw [e]
    exact q _ s1
/-! two fractions -/
structure Lo (n : Nat) (t b : Int) : Prop where
  pos : 0 < b
  low : Int.gcd t b = 1
  st : S n t
  sb : S n b
theorem Lo.fr {n : Nat} {t b : Int} (hb : b ≠ 0) (ht : S n t) (hs : S n b) : Lo n (frT t b) (frB t b) := ⟨fr_pos t hb, fr_gcd t hb, ht.frT hb, hs.frB hb⟩
theorem eqv2 {K : PySem.W.Frag} {H : Hp} {p r : Addr} {a b c d : Int} (hp : H p = some (.tup [.int a, .int b])) (hr : H r = some (.tup [.int c, .int d])) (e1 : a = c) (e2 : b = d) {Q : VK} (q : Q (.bl false) H) : rNeD K (.ref p) (.ref r) H Q := by
  subst e1 e2
  refine ⟨_, _, .tup (SqT.mk hp) (.cons (.int a) (.cons (.int b) .nil)), .tup (SqT.mk hr) (.cons (.int a) (.cons (.int b) .nil)), rfl, rfl, ?_⟩
  have e : PyData.eqv (.tuple [.int a, .int b]) (.tuple [.int a, .int b]) = true := by
    simp [PyData.eqv, PyData.eqvAll]
  rw [e]
  exact q
def sp__law_two_right (_ : PySem.W.Frag) : Sp := fun vs H Q _ => ∃ (p r : Addr) (a b c d : Int), vs = [.ref p, .ref r] ∧ H p = some (.tup [.int a, .int b]) ∧ H r = some (.tup [.int c, .int d]) ∧ Lo 1000 a b ∧ Lo 1000 c d ∧ ∀ H', Same H H' → Q (.bl true) H'
theorem ok__law_two_right (T : Defs K mg) : FnOk P w K mg base CX0 4 T.f__law_two_right T.fd__law_two_right ["_law_one", "_law_other"] (sp__law_two_right K) := by
  have G_before : FnOk P w K mg base CX0 1 T.f_before T.fd_before ["one", "other"] (sp_before K) := ok_before T
  have G__law_is : FnOk P w K mg base CX0 3 T.f__law_is T.fd__law_is ["_law_found", "_law_top", "_law_bottom"] (sp__law_is K) := ok__law_is T
  have G_plus : FnOk P w K mg base CX0 3 T.f_plus T.fd_plus ["one", "other"] (sp_plus K) := ok_plus T
  have G_minus : FnOk P w K mg base CX0 3 T.f_minus T.fd_minus ["one", "other"] (sp_minus K) := ok_minus T
  have G_times : FnOk P w K mg base CX0 3 T.f_times T.fd_times ["one", "other"] (sp_times K) := ok_times T
  refine T.F__law_two_right.ok sc__law_two_right (fun vs H Q E h => ?_) (fun cdv A outer s H vs Q E hr h => ?_)
  · obtain ⟨p, r, a, b, c, d, rfl, hp, hq, ha, hc, q⟩ := h
    rfl
  · obtain ⟨p, r, a, b, c, d, rfl, hp, hq, ha, hc, q⟩ := h
    refine ⟨_, PSs.nox (pss_cons (ps_asg (pv 0) (pg_tup rfl (pgs_cons (pg_name (i := 2) sc__law_two_right.nd rfl (.inl rfl)) (pgs_cons (pg_name (i := 3) sc__law_two_right.nd rfl (.inl rfl)) pgs_nil))))
    (pss_cons (ps_asg (pv 1) (pg_tup rfl (pgs_cons (pg_name (i := 4) sc__law_two_right.nd rfl (.inl rfl)) (pgs_cons (pg_name (i := 5) sc__law_two_right.nd rfl (.inl rfl)) pgs_nil))))
    (pss_cons (ps_for PassesOwn.never rfl (pi_range1 (by rfl) T.m_range (pa_cons pe_int pa_nil)) (pg_name (i := 6) sc__law_two_right.nd rfl (.inl rfl)) (pss_cons (ps_if (PW.pt (pw_or (pt_not (pt_val (pe_call G__law_is (hr.mono (by decide)) (by rfl) T.g__law_is T.F__law_is.kp T.b__law_is .nil pass0 (pa_cons (pe_call G_plus (hr.mono (by decide)) (by rfl) T.g_plus T.F_plus.kp T.b_plus .nil pass0 (pa_cons (pv 0) (pa_cons (pv 1) pa_nil))) (pa_cons (pe_op op_add (pe_op op_mulW (pv 2) (pv 5)) (pe_op op_mulW (pv 4) (pv 3))) (pa_cons (pe_op op_mulW (pv 3) (pv 5)) pa_nil)))))) (pw_or1 (pt_cmpR (op_neD hr.units) (pe_call G_plus (hr.mono (by decide)) (by rfl) T.g_plus T.F_plus.kp T.b_plus .nil pass0 (pa_cons (pv 1) (pa_cons (pv 0) pa_nil))) (pe_call G_plus (hr.mono (by decide)) (by rfl) T.g_plus T.F_plus.kp T.b_plus .nil pass0 (pa_cons (pv 0) (pa_cons (pv 1) pa_nil))) (nomark _))))) (pss_one (ps_ret pe_bl)) pss_nil)
    (pss_cons (ps_if (pt_not (pt_val (pe_call G__law_is (hr.mono (by decide)) (by rfl) T.g__law_is T.F__law_is.kp T.b__law_is .nil pass0 (pa_cons (pe_call G_minus (hr.mono (by decide)) (by rfl) T.g_minus T.F_minus.kp T.b_minus .nil pass0 (pa_cons (pv 0) (pa_cons (pv 1) pa_nil))) (pa_cons (pe_op op_sub (pe_op op_mulW (pv 2) (pv 5)) (pe_op op_mulW (pv 4) (pv 3))) (pa_cons (pe_op op_mulW (pv 3) (pv 5)) pa_nil)))))) (pss_one (ps_ret pe_bl)) pss_nil)
    (pss_cons (ps_if (pt_not (pt_val (pe_call G__law_is (hr.mono (by decide)) (by rfl) T.g__law_is T.F__law_is.kp T.b__law_is .nil pass0 (pa_cons (pe_call G_minus (hr.mono (by decide)) (by rfl) T.g_minus T.F_minus.kp T.b_minus .nil pass0 (pa_cons (pv 1) (pa_cons (pv 0) pa_nil))) (pa_cons (pe_op op_sub (pe_op op_mulW (pv 4) (pv 3)) (pe_op op_mulW (pv 2) (pv 5))) (pa_cons (pe_op op_mulW (pv 3) (pv 5)) pa_nil)))))) (pss_one (ps_ret pe_bl)) pss_nil)
    (pss_cons (ps_if (PW.pt (pw_or (pt_not (pt_val (pe_call G__law_is (hr.mono (by decide)) (by rfl) T.g__law_is T.F__law_is.kp T.b__law_is .nil pass0 (pa_cons (pe_call G_times (hr.mono (by decide)) (by rfl) T.g_times T.F_times.kp T.b_times .nil pass0 (pa_cons (pv 0) (pa_cons (pv 1) pa_nil))) (pa_cons (pe_op op_mulW (pv 2) (pv 4)) (pa_cons (pe_op op_mulW (pv 3) (pv 5)) pa_nil)))))) (pw_or1 (pt_cmpR (op_neD hr.units) (pe_call G_times (hr.mono (by decide)) (by rfl) T.g_times T.F_times.kp T.b_times .nil pass0 (pa_cons (pv 1) (pa_cons (pv 0) pa_nil))) (pe_call G_times (hr.mono (by decide)) (by rfl) T.g_times T.F_times.kp T.b_times .nil pass0 (pa_cons (pv 0) (pa_cons (pv 1) pa_nil))) (nomark _))))) (pss_one (ps_ret pe_bl)) pss_nil)
    (pss_cons (ps_set (i := 7) sc__law_two_right.nd rfl (.inl rfl) (pe_call G_before (hr.mono (by decide)) (by rfl) T.g_before T.F_before.kp T.b_before .nil pass0 (pa_cons (pv 0) (pa_cons (pv 1) pa_nil))))
    (pss_one (ps_if (PW.pt (pw_or (pt_not (pt_val (pe_callB call_isi (by rfl) T.m_isinstance bt_isinstance (pa_cons (pv 7) (pa_cons (pe_bltn (v := .ty "bool") (by rfl) T.m_bool bt_bool rfl) pa_nil))))) (pw_or1 (pt_cmpR op_ne (pv 7) (pe_cmpR op_lt (pe_op op_mulW (pv 2) (pv 5)) (pe_op op_mulW (pv 4) (pv 3)) (nomark _)) (nomark _))))) (pss_one (ps_ret pe_bl)) pss_nil))))))))
    (pss_one (ps_ret pe_bl))))), ?_⟩
    refine ⟨.ref p, rfl, p, _, rfl, SqT.mk hp, rfl, _, _, rfl, _, _, rfl, rfl, .ref r, rfl, r, _, rfl, SqT.mk hq, rfl, _, _, rfl, _, _, rfl, rfl, ?_⟩
    refine ⟨2, rfl, by decide, by decide, for_range (n := 2) (fun i σ H1 => ∃ y6 y7, σ = [some (.ref p), some (.ref r), some (.int a), some (.int b), some (.int c), some (.int d), y6, y7] ∧ Same H H1) ⟨none, none, rfl, Same.refl H⟩ ?_ ?_⟩
    · rintro i σ H1 hi ⟨y6, y7, rfl, s1⟩
      have bd := bd_ne ha.pos hc.pos
      have db := bd_ne hc.pos ha.pos
      have sbd : S 2000 (b * d) := ha.sb.mul hc.sb
      have sdb : S 2000 (d * b) := hc.sb.mul ha.sb
      have sad : S 2000 (a * d) := ha.st.mul hc.sb
      have scb : S 2000 (c * b) := hc.st.mul ha.sb
      have m1 := mulW ha.st hc.sb (by decide)
      have m2 := mulW hc.st ha.sb (by decide)
      have m3 := mulW ha.sb hc.sb (by decide)
      have m4 := mulW ha.st hc.st (by decide)
      -- plus
      refine ⟨.ref p, rfl, .ref r, rfl, p, r, a, b, c, d, rfl, s1 _ _ hp, s1 _ _ hq, ha.pos, hc.pos, ha.st, ha.sb, hc.st, hc.sb, fun H2 t2 s2 n2 h2 => ?_⟩
      refine ⟨.int a, rfl, .int d, rfl, _, _, rfl, rfl, m1, .int c, rfl, .int b, rfl, _, _, rfl, rfl, m2, _, _, rfl, rfl, .int b, rfl, .int d, rfl, _, _, rfl, rfl, m3, t2, _, _, _, _, rfl, h2, fr_pos _ bd, fr_gcd _ bd, fr_eq _ bd, ((sad.add scb).frT bd).mono (by decide), (sbd.frB bd).mono (by decide), (sad.add scb).mono (by decide), sbd.mono (by decide), fun H3 s3 => ⟨_, rfl, ?_⟩⟩
      refine iteF ?_
      have s13 := (s1.trans s2).trans s3
      refine ⟨.ref r, rfl, .ref p, rfl, r, p, c, d, a, b, rfl, s13 _ _ hq, s13 _ _ hp, hc.pos, ha.pos, hc.st, hc.sb, ha.st, ha.sb, fun H4 t4 s4 n4 h4 => ?_⟩
      have s14 := s13.trans s4
      refine ⟨.ref p, rfl, .ref r, rfl, p, r, a, b, c, d, rfl, s14 _ _ hp, s14 _ _ hq, ha.pos, hc.pos, ha.st, ha.sb, hc.st, hc.sb, fun H5 t5 s5 n5 h5 => ?_⟩
      have s15 := s14.trans s5
      refine eqv2 (s5 _ _ h4) h5 ?_ ?_ ⟨_, rfl, ?_⟩
      · dsimp only
        rw [Int.add_comm (c * b), Int.mul_comm d b]
      · dsimp only
        rw [Int.add_comm (c * b), Int.mul_comm d b]
      refine iteF ?_
      -- minus
      refine ⟨.ref p, rfl, .ref r, rfl, p, r, a, b, c, d, rfl, s15 _ _ hp, s15 _ _ hq, ha.pos, hc.pos, ha.st, ha.sb, hc.st, hc.sb, fun H6 t6 s6 n6 h6 => ?_⟩
      refine ⟨.int a, rfl, .int d, rfl, _, _, rfl, rfl, m1, .int c, rfl, .int b, rfl, _, _, rfl, rfl, m2, _, _, rfl, rfl, .int b, rfl, .int d, rfl, _, _, rfl, rfl, m3, t6, _, _, _, _, rfl, h6, fr_pos _ bd, fr_gcd _ bd, fr_eq _ bd, ((sad.sub scb).frT bd).mono (by decide), (sbd.frB bd).mono (by decide), (sad.sub scb).mono (by decide), sbd.mono (by decide), fun H7 s7 => ⟨_, rfl, ?_⟩⟩
      refine iteF ?_
      have s17 := (s15.trans s6).trans s7
      refine ⟨.ref r, rfl, .ref p, rfl, r, p, c, d, a, b, rfl, s17 _ _ hq, s17 _ _ hp, hc.pos, ha.pos, hc.st, hc.sb, ha.st, ha.sb, fun H8 t8 s8 n8 h8 => ?_⟩
      dsimp only at h8
      rw [Int.mul_comm d b] at h8
      refine ⟨.int c, rfl, .int b, rfl, _, _, rfl, rfl, m2, .int a, rfl, .int d, rfl, _, _, rfl, rfl, m1, _, _, rfl, rfl, .int b, rfl, .int d, rfl, _, _, rfl, rfl, m3, t8, _, _, _, _, rfl, h8, fr_pos _ bd, fr_gcd _ bd, fr_eq _ bd, ((scb.sub sad).frT bd).mono (by decide), (sbd.frB bd).mono (by decide), (scb.sub sad).mono (by decide), sbd.mono (by decide), fun H9 s9 => ⟨_, rfl, ?_⟩⟩
      refine iteF ?_
      have s19 := (s17.trans s8).trans s9
      -- times
      refine ⟨.ref p, rfl, .ref r, rfl, p, r, a, b, c, d, rfl, s19 _ _ hp, s19 _ _ hq, ha.pos, hc.pos, ha.st, ha.sb, hc.st, hc.sb, fun G2 t2 s2 n2 h2 => ?_⟩
      refine ⟨.int a, rfl, .int c, rfl, _, _, rfl, rfl, m4, .int b, rfl, .int d, rfl, _, _, rfl, rfl, m3, t2, _, _, _, _, rfl, h2, fr_pos _ bd, fr_gcd _ bd, fr_eq _ bd, ((ha.st.mul hc.st).frT bd).mono (by decide), (sbd.frB bd).mono (by decide), (ha.st.mul hc.st).mono (by decide), sbd.mono (by decide), fun G3 s3 => ⟨_, rfl, ?_⟩⟩
      refine iteF ?_
      have s23 := (s19.trans s2).trans s3
      refine ⟨.ref r, rfl, .ref p, rfl, r, p, c, d, a, b, rfl, s23 _ _ hq, s23 _ _ hp, hc.pos, ha.pos, hc.st, hc.sb, ha.st, ha.sb, fun G4 t4 s4 n4 h4 => ?_⟩
      have s24 := s23.trans s4
      refine ⟨.ref p, rfl, .ref r, rfl, p, r, a, b, c, d, rfl, s24 _ _ hp, s24 _ _ hq, ha.pos, hc.pos, ha.st, ha.sb, hc.st, hc.sb, fun G5 t5 s5 n5 h5 => ?_⟩
      have s25 := s24.trans s5
      refine eqv2 (s5 _ _ h4) h5 ?_ ?_ ⟨_, rfl, ?_⟩
      · dsimp only
        rw [Int.mul_comm c a, Int.mul_comm d b]
      · dsimp only
        rw [Int.mul_comm c a, Int.mul_comm d b]
      refine iteF ?_
      -- before
      refine ⟨.ref p, rfl, .ref r, rfl, p, r, a, b, c, d, rfl, s25 _ _ hp, s25 _ _ hq, ha.st, ha.sb, hc.st, hc.sb, ?_⟩
      refine ⟨_, rfl, _, _, _, _, _, rfl, .ty "bool", .base (.bl _), kBB, _, rfl, ?_⟩
      refine iteF ?_
      refine ⟨_, rfl, .int a, rfl, .int d, rfl, _, _, rfl, rfl, m1, .int c, rfl, .int b, rfl, _, _, rfl, rfl, m2, _, _, rfl, rfl, rfl, _, rfl, ?_⟩
      refine ite2 (fun e => ?_) (fun _ => ⟨_, _, rfl, s25⟩)
      exfalso
      simp at e
    · rintro σ H1 ⟨y6, y7, rfl, s1⟩
      exact q _ s1
/-! the law -/
def IsFr (n : Nat) (H : Hp) (x : V) : Prop := ∃ (p : Addr) (t b : Int), x = .ref p ∧ H p = some (.tup [.int t, .int b]) ∧ Lo n t b
theorem IsFr.same {n : Nat} {H H' : Hp} {x : V} (h : IsFr n H x) (s : Same H H') : IsFr n H' x := by
  obtain ⟨p, t, b, rfl, hp, l⟩ := h
  exact ⟨p, t, b, rfl, s _ _ hp, l⟩
theorem IsFr.mono {n m : Nat} {H : Hp} {x : V} (h : IsFr n H x) (l : n ≤ m) : IsFr m H x := by
  obtain ⟨p, t, b, rfl, hp, ⟨h1, h2, h3, h4⟩⟩ := h
  exact ⟨p, t, b, rfl, hp, ⟨h1, h2, h3.mono l, h4.mono l⟩⟩
/-- what stays of it where lists alone change -/
theorem IsFr.put {n : Nat} {H : Hp} {x : V} {l : Addr} {xs ys : List V} (h : IsFr n H x) (hl : H l = some (.lst xs)) : IsFr n (upd H l (.lst ys)) x := by
  obtain ⟨p, t, b, rfl, hp, lo⟩ := h
  exact ⟨p, t, b, rfl, by rw [upd_ne (ne_of hp hl (fun z => by cases z))]; exact hp, lo⟩
theorem IsFr.but {n m : Nat} {H H' : Hp} {x : V} {b : Addr} (h : IsFr n H x) (B : Bx H b m) (s : But b H H') : IsFr n H' x := by
  obtain ⟨p, t, c, rfl, hp, lo⟩ := h
  exact ⟨p, t, c, rfl, s _ _ (B.ne_tup hp) hp, lo⟩
theorem four {n : Nat} {H : Hp} {fs : List V} (hl : fs.length = 4) (h : ∀ x, x ∈ fs → IsFr n H x) : ∃ x0 x1 x2 x3, fs = [x0, x1, x2, x3] ∧ IsFr n H x0 ∧ IsFr n H x1 ∧ IsFr n H x2 ∧ IsFr n H x3 := by
  match fs, hl with
  | [x0, x1, x2, x3], _ => exact ⟨x0, x1, x2, x3, rfl, h _ (by simp), h _ (by simp), h _ (by simp), h _ (by simp)⟩
def sp_law (K : PySem.W.Frag) : Sp := fun vs H Q _ => ∃ (a : Addr) (ns : List Int), vs = [.ref a] ∧ SqL K H a (ns.map V.int) ∧ ns.length ≤ 63 ∧ ∀ H', Q (.bl true) H'
theorem ok_law (T : Defs K mg) : FnOk P w K mg base CX0 5 T.f_law T.fd_law ["_law_script"] (sp_law K) := by
  have G__law_folded : FnOk P w K mg base CX0 1 T.f__law_folded T.fd__law_folded ["_law_script", "_law_many"] (sp__law_folded K) := ok__law_folded T
  have G__law_box : FnOk P w K mg base CX0 1 T.f__law_box T.fd__law_box ["_law_script", "_law_k"] (sp__law_box K) := ok__law_box T
  have G__law_pair : FnOk P w K mg base CX0 3 T.f__law_pair T.fd__law_pair ["_law_box_here"] (sp__law_pair K) := ok__law_pair T
  have G_fraction : FnOk P w K mg base CX0 2 T.f_fraction T.fd_fraction ["top", "bottom"] (sp_fraction K) := ok_fraction T
  have G_plus : FnOk P w K mg base CX0 3 T.f_plus T.fd_plus ["one", "other"] (sp_plus K) := ok_plus T
  have G_times : FnOk P w K mg base CX0 3 T.f_times T.fd_times ["one", "other"] (sp_times K) := ok_times T
  have G__law_is : FnOk P w K mg base CX0 3 T.f__law_is T.fd__law_is ["_law_found", "_law_top", "_law_bottom"] (sp__law_is K) := ok__law_is T
  have G__law_two_right : FnOk P w K mg base CX0 4 T.f__law_two_right T.fd__law_two_right ["_law_one", "_law_other"] (sp__law_two_right K) := ok__law_two_right T
  refine T.F_law.ok sc_law (fun vs H Q E h => ?_) (fun cdv A outer s H vs Q E hr h => ?_)
  · obtain ⟨a, ns, rfl, hS, hlen, q⟩ := h
    rfl
  · obtain ⟨a, ns, rfl, hS, hlen, q⟩ := h
    refine ⟨_, PSs.nox (pss_cons (ps_set (i := 1) sc_law.nd rfl (.inl rfl) (pe_call G__law_folded (hr.mono (by decide)) (by rfl) T.g__law_folded T.F__law_folded.kp T.b__law_folded .nil pass0 (pa_cons (pv 0) (pa_cons pe_int pa_nil))))
    (pss_cons (ps_for PassesOwn.never rfl (pi_range1 (by rfl) T.m_range (pa_cons (pe_callB (call_max2 rfl) (by rfl) T.m_max bt_max (pa_cons pe_int (pa_cons (pe_callB call_len_seq (by rfl) T.m_len bt_len (pa_cons (pv 1) pa_nil)) pa_nil))) pa_nil)) (pg_name (i := 2) sc_law.nd rfl (.inl rfl)) (pss_cons (ps_set (i := 3) sc_law.nd rfl (.inl rfl) (pe_call G__law_box (hr.mono (by decide)) (by rfl) T.g__law_box T.F__law_box.kp T.b__law_box .nil pass0 (pa_cons (pv 1) (pa_cons (pv 2) pa_nil))))
    (pss_cons (ps_set (i := 4) sc_law.nd rfl (.inl rfl) (pe_lst pa_nil))
    (pss_cons (ps_for PassesOwn.never rfl (pi_range1 (by rfl) T.m_range (pa_cons pe_int pa_nil)) (pg_name (i := 5) sc_law.nd rfl (.inl rfl)) (pss_cons (ps_asg (pe_call G__law_pair (hr.mono (by decide)) (by rfl) T.g__law_pair T.F__law_pair.kp T.b__law_pair .nil pass0 (pa_cons (pv 3) pa_nil)) (pg_tup rfl (pgs_cons (pg_name (i := 6) sc_law.nd rfl (.inl rfl)) (pgs_cons (pg_name (i := 7) sc_law.nd rfl (.inl rfl)) pgs_nil))))
    (pss_cons (ps_expr (pe_bm PySem.F.plainAttrs_list PySem.F.slot_list_append PySem.F.type_list_append mt_append (pv 4) (pa_cons (pe_call G_fraction (hr.mono (by decide)) (by rfl) T.g_fraction T.F_fraction.kp T.b_fraction .nil pass0 (pa_cons (pv 6) (pa_cons (pv 7) pa_nil))) pa_nil)))
    (pss_one (ps_if (PW.pt (pw_or (pt_not (pt_val (pe_call G__law_is (hr.mono (by decide)) (by rfl) T.g__law_is T.F__law_is.kp T.b__law_is .nil pass0 (pa_cons (pe_ix ix_list (pv 4) (pe_un un_neg pe_int) (fun _ _ => rfl)) (pa_cons (pv 6) (pa_cons (pv 7) pa_nil)))))) (pw_or1 (pt_cmpR (op_neD hr.units) (pe_call G_fraction (hr.mono (by decide)) (by rfl) T.g_fraction T.F_fraction.kp T.b_fraction .nil pass0 (pa_cons (pe_un un_neg (pv 6)) (pa_cons (pe_un un_neg (pv 7)) pa_nil))) (pe_ix ix_list (pv 4) (pe_un un_neg pe_int) (fun _ _ => rfl)) (nomark _))))) (pss_one (ps_ret pe_bl)) pss_nil)))))
    (pss_cons (ps_set (i := 4) sc_law.nd rfl (.inl rfl) (pe_op op_cat (pv 4) (pe_lst (pa_cons (pe_tup (pa_cons pe_int (pa_cons pe_int pa_nil))) (pa_cons (pe_tup (pa_cons pe_int (pa_cons pe_int pa_nil))) (pa_cons (pe_call G_plus (hr.mono (by decide)) (by rfl) T.g_plus T.F_plus.kp T.b_plus .nil pass0 (pa_cons (pe_ix ix_list (pv 4) pe_int (fun _ _ => rfl)) (pa_cons (pe_ix ix_list (pv 4) pe_int (fun _ _ => rfl)) pa_nil))) (pa_cons (pe_call G_times (hr.mono (by decide)) (by rfl) T.g_times T.F_times.kp T.b_times .nil pass0 (pa_cons (pe_ix ix_list (pv 4) pe_int (fun _ _ => rfl)) (pa_cons (pe_ix ix_list (pv 4) pe_int (fun _ _ => rfl)) pa_nil))) pa_nil)))))))
    (pss_one (ps_for PassesOwn.never rfl (pi_list (pv 4)) (pg_name (i := 8) sc_law.nd rfl (.inl rfl)) (pss_one (ps_for PassesOwn.never rfl (pi_list (pv 4)) (pg_name (i := 9) sc_law.nd rfl (.inl rfl)) (pss_one (ps_if (pt_not (pt_val (pe_call G__law_two_right (hr.mono (by decide)) (by rfl) T.g__law_two_right T.F__law_two_right.kp T.b__law_two_right .nil pass0 (pa_cons (pv 8) (pa_cons (pv 9) pa_nil))))) (pss_one (ps_ret pe_bl)) pss_nil)))))))))))
    (pss_one (ps_ret pe_bl)))), ?_⟩
    refine ⟨.ref a, rfl, a, ns, 4, rfl, hS, hlen, by decide, by decide, fun H1 c cs s1 nc hc lc => ?_⟩
    have hn : (if (((cs.map V.int).length : Nat) : Int) > 2 then (((cs.map V.int).length : Nat) : Int) else 2) ≤ 4 ∧ 0 ≤ (if (((cs.map V.int).length : Nat) : Int) > 2 then (((cs.map V.int).length : Nat) : Int) else 2) := by
      rw [List.length_map]
      split <;> omega
    refine ⟨.ref c, rfl, c, _, rfl, .inl (SqL.mk hc), _, _, rfl, _, rfl, by omega, by omega, for_range (fun i σ H2 => ∃ y2 y3 y4 y5 y6 y7 y8 y9, σ = [some (.ref a), some (.ref c), y2, y3, y4, y5, y6, y7, y8, y9] ∧ Same H1 H2) ⟨none, none, none, none, none, none, none, none, rfl, Same.refl H1⟩ ?_ ?_⟩
    · rintro i σ H2 hi ⟨y2, y3, y4, y5, y6, y7, y8, y9, rfl, s2⟩
      have hi2 : i < 1000 := by omega
      refine ⟨.ref c, rfl, .int (0 + (i : Int)), rfl, c, cs, i, by rw [Int.zero_add]; rfl, SqL.mk (s2 _ _ hc), hi2, fun H3 b s3 nb hB => ?_⟩
      refine ⟨Nat.zero_le _, fun l nl => ?_⟩
      have nlb : l ≠ b := fun e => by
        obtain ⟨_, _, _, hp, _⟩ := hB
        rw [e, hp] at nl
        cases nl
      have nb1 : H1 b = none := s2.free nb
      have nl1 : H1 l = none := s2.free (s3.free nl)
      refine ⟨4, rfl, by decide, by decide, for_range (n := 4) (fun j σ H5 => ∃ y5 y6 y7, ∃ fs : List V, σ = [some (.ref a), some (.ref c), some (.int (0 + (i : Int))), some (.ref b), some (.ref l), y5, y6, y7, y8, y9] ∧ Same H1 H5 ∧ Bx H5 b (13 * j) ∧ H5 l = some (.lst fs) ∧ fs.length = j ∧ ∀ x, x ∈ fs → IsFr 50 H5 x) ⟨y5, y6, y7, [], rfl, s2.trans (s3.trans (same_upd nl)), hB.new nl, upd_same, rfl, fun x hx => by cases hx⟩ ?_ ?_⟩
      · rintro j σ H5 hj ⟨y5, y6, y7, fs, rfl, s5, B5, hl5, lf, hf⟩
        refine ⟨.ref b, rfl, b, 13 * j, rfl, B5, by omega, fun H6 t x y b6 B6 h6 hy sx sy => ?_⟩
        refine ⟨t, _, rfl, SqT.mk h6, rfl, _, _, rfl, _, _, rfl, rfl, ?_⟩
        have hl6 := b6 l _ nlb hl5
        refine ⟨.ref l, rfl, .inl ⟨rfl, _, SqL.mk hl6⟩, .int x, rfl, .int y, rfl, x, y, rfl, hy, sy.mono (by decide), fun H7 f s7 n7 h7 => ?_⟩
        have hl7 := s7 _ _ hl6
        refine ⟨l, _, _, rfl, rfl, hl7, small1000 (by omega), ?_⟩
        have nfl : f ≠ l := (ne_of_none hl6 n7).symm
        have h8 : (upd H7 l (.lst (fs ++ [.ref f]))) f = some (.tup [.int (frT x y), .int (frB x y)]) := by
          rw [upd_ne nfl]
          exact h7
        have L8 : SqL K (upd H7 l (.lst (fs ++ [.ref f]))) l (fs ++ [.ref f]) := SqL.mk upd_same
        refine ⟨.ref l, rfl, 1, rfl, l, _, _, _, rfl, rfl, L8, atI_last _ _, .int x, rfl, .int y, rfl, f, _, _, x, y, rfl, h8, fr_pos _ hy, fr_gcd _ hy, fr_eq _ hy, (sx.frT hy).mono (by decide), (sy.frB hy).mono (by decide), sx.mono (by decide), sy.mono (by decide), fun H9 s9 => ⟨_, rfl, ?_⟩⟩
        refine iteF ?_
        refine ⟨.int x, rfl, x, rfl, .int y, rfl, y, rfl, -x, -y, rfl, by omega, (show (-y).natAbs < 2 ^ 4000 by rw [Int.natAbs_neg]; exact sy.mono (by decide)), fun H10 g s10 n10 h10 => ?_⟩
        rw [fr_negT, fr_negB] at h10
        refine ⟨.ref l, rfl, 1, rfl, l, _, _, _, rfl, rfl, (s9.trans s10).seq L8, atI_last _ _, ?_⟩
        refine eqv2 h10 ((s9.trans s10) _ _ h8) rfl rfl ⟨_, rfl, ?_⟩
        refine iteF ?_
        have bb : b ≠ l := nlb.symm
        have B8 : Bx (upd H7 l (.lst (fs ++ [.ref f]))) b (13 * j + 13) := by
          obtain ⟨z1, z2, z3, hz, r⟩ := B6.same s7
          exact ⟨z1, z2, z3, by rw [upd_ne bb]; exact hz, r⟩
        refine ⟨_, _, _, fs ++ [.ref f], rfl, ?_, (B8.same (s9.trans s10)).mono (by omega), (s9.trans s10) _ _ upd_same, by rw [List.length_append, lf]; rfl, fun z hz => ?_⟩
        · exact (same_newer ((But.same nb1 s5 b6).trans s7) nl1).trans (s9.trans s10)
        · refine IsFr.same ?_ (s9.trans s10)
          rcases List.mem_append.mp hz with hz | hz
          · exact (((hf z hz).but B5 b6).same s7).put hl7
          · rw [List.mem_singleton] at hz
            subst hz
            exact ⟨f, _, _, rfl, h8, Lo.fr hy sx sy⟩
      · rintro σ H5 ⟨y5, y6, y7, fs, rfl, s5, B5, hl5, lf, hf⟩
        obtain ⟨x0, x1, x2, x3, rfl, f0, f1, f2, f3⟩ := four lf hf
        refine ⟨.ref l, rfl, (show 2 ≤ sizeLine by decide), fun e1 ne1 => ?_⟩
        refine ⟨(show 2 ≤ sizeLine by decide), fun e2 ne2 => ?_⟩
        have s6 : Same H5 (upd (upd H5 e1 (.tup [.int 0, .int 1])) e2 (.tup [.int 1, .int 1])) := (same_upd ne1).trans (same_upd ne2)
        have g1 : IsFr 1000 (upd (upd H5 e1 (.tup [.int 0, .int 1])) e2 (.tup [.int 1, .int 1])) (.ref e1) := ⟨e1, 0, 1, rfl, (same_upd ne2) _ _ upd_same, ⟨by decide, by decide, (show S 1 0 from (by decide : (0 : Int).natAbs < 2 ^ 1)).mono (by decide), (show S 1 1 from (by decide : (1 : Int).natAbs < 2 ^ 1)).mono (by decide)⟩⟩
        have g2 : IsFr 1000 (upd (upd H5 e1 (.tup [.int 0, .int 1])) e2 (.tup [.int 1, .int 1])) (.ref e2) := ⟨e2, 1, 1, rfl, upd_same, ⟨by decide, by decide, (show S 1 1 from (by decide : (1 : Int).natAbs < 2 ^ 1)).mono (by decide), (show S 1 1 from (by decide : (1 : Int).natAbs < 2 ^ 1)).mono (by decide)⟩⟩
        generalize upd (upd H5 e1 (.tup [.int 0, .int 1])) e2 (.tup [.int 1, .int 1]) = H6 at s6 g1 g2 ⊢
        have L6 : SqL K H6 l [x0, x1, x2, x3] := SqL.mk (s6 _ _ hl5)
        obtain ⟨p0, t0, b0, rfl, h0, o0⟩ := f0.same s6
        obtain ⟨p1, t1, b1, rfl, h1, o1⟩ := f1.same s6
        obtain ⟨p2, t2, b2, rfl, h2, o2⟩ := f2.same s6
        obtain ⟨p3, t3, b3, rfl, h3, o3⟩ := f3.same s6
        refine ⟨.ref l, rfl, l, _, 0, _, rfl, rfl, L6, atI_nat (j := 0) rfl, .ref l, rfl, l, _, 1, _, rfl, rfl, L6, atI_nat (j := 1) rfl, p0, p1, t0, b0, t1, b1, rfl, h0, h1, o0.pos, o1.pos, o0.st.mono (by decide), o0.sb.mono (by decide), o1.st.mono (by decide), o1.sb.mono (by decide), fun H7 e3 s7 n7 h7 => ?_⟩
        have L7 := s7.seq L6
        refine ⟨.ref l, rfl, l, _, 2, _, rfl, rfl, L7, atI_nat (j := 2) rfl, .ref l, rfl, l, _, 3, _, rfl, rfl, L7, atI_nat (j := 3) rfl, p2, p3, t2, b2, t3, b3, rfl, s7 _ _ h2, s7 _ _ h3, o2.pos, o3.pos, o2.st.mono (by decide), o2.sb.mono (by decide), o3.st.mono (by decide), o3.sb.mono (by decide), fun H8 e4 s8 n8 h8 => ?_⟩
        have s68 := s7.trans s8
        refine ⟨(show 4 ≤ sizeLine by decide), fun m nm => ?_⟩
        have hl8 : (upd H8 m (.lst [.ref e1, .ref e2, .ref e3, .ref e4])) l = some (.lst [.ref p0, .ref p1, .ref p2, .ref p3]) := (same_upd nm) _ _ (s68 _ _ (s6 _ _ hl5))
        refine ⟨l, m, _, _, rfl, rfl, hl8, upd_same, (show 4 + 4 ≤ sizeLine by decide), fun d nd => ?_⟩
        have s9 : Same H8 (upd (upd H8 m (.lst [.ref e1, .ref e2, .ref e3, .ref e4])) d (.lst ([.ref p0, .ref p1, .ref p2, .ref p3] ++ [.ref e1, .ref e2, .ref e3, .ref e4]))) := (same_upd nm).trans (same_upd nd)
        have hd : (upd (upd H8 m (.lst [.ref e1, .ref e2, .ref e3, .ref e4])) d (.lst ([.ref p0, .ref p1, .ref p2, .ref p3] ++ [.ref e1, .ref e2, .ref e3, .ref e4]))) d = some (.lst ([.ref p0, .ref p1, .ref p2, .ref p3] ++ [.ref e1, .ref e2, .ref e3, .ref e4])) := upd_same
        generalize upd (upd H8 m (.lst [.ref e1, .ref e2, .ref e3, .ref e4])) d (.lst ([.ref p0, .ref p1, .ref p2, .ref p3] ++ [.ref e1, .ref e2, .ref e3, .ref e4])) = H9 at s9 hd ⊢
        have bd1 := bd_ne o0.pos o1.pos
        have bd2 := bd_ne o2.pos o3.pos
        have all : ∀ x, x ∈ [V.ref p0, .ref p1, .ref p2, .ref p3] ++ [.ref e1, .ref e2, .ref e3, .ref e4] → IsFr 1000 H9 x := by
          intro x hx
          rcases List.mem_append.mp hx with hx | hx
          · exact (((((hf x hx).same s6).same s68).same s9)).mono (by decide)
          · rcases List.mem_cons.mp hx with rfl | hx
            · exact (g1.same s68).same s9
            rcases List.mem_cons.mp hx with rfl | hx
            · exact (g2.same s68).same s9
            rcases List.mem_cons.mp hx with rfl | hx
            · exact IsFr.mono ⟨e3, _, _, rfl, (s8.trans s9) _ _ h7, Lo.fr bd1 ((o0.st.mul o1.sb).add (o1.st.mul o0.sb)) ((o0.sb.mul o1.sb).mono (by decide))⟩ (by decide)
            rcases List.mem_cons.mp hx with rfl | hx
            · exact IsFr.mono ⟨e4, _, _, rfl, s9 _ _ h8, Lo.fr bd2 (o2.st.mul o3.st) (o2.sb.mul o3.sb)⟩ (by decide)
            · cases hx
        have s19 : Same H1 H9 := ((s5.trans s6).trans s68).trans s9
        generalize [V.ref p0, .ref p1, .ref p2, .ref p3] ++ [.ref e1, .ref e2, .ref e3, .ref e4] = fs at hd all
        refine ⟨.ref d, rfl, d, rfl, ⟨_, SqL.mk hd⟩, for_list (xs := fs) (fun j σ G => ∃ y8 y9, σ = [some (.ref a), some (.ref c), some (.int (0 + (i : Int))), some (.ref b), some (.ref d), y5, y6, y7, y8, y9] ∧ Same H9 G) ⟨y8, y9, rfl, Same.refl H9⟩ ?_ ?_ ?_⟩
        · rintro j σ G _ ⟨y8, y9, rfl, sG⟩
          exact SqL.mk (sG _ _ hd)
        · rintro j x σ G hx ⟨y8, y9, rfl, sG⟩
          have fx := all x (List.mem_of_getElem? hx)
          refine ⟨.ref d, rfl, d, rfl, ⟨_, SqL.mk (sG _ _ hd)⟩, for_list (xs := fs) (fun j σ G => ∃ y9, σ = [some (.ref a), some (.ref c), some (.int (0 + (i : Int))), some (.ref b), some (.ref d), y5, y6, y7, some x, y9] ∧ Same H9 G) ⟨y9, rfl, sG⟩ ?_ ?_ ?_⟩
          · rintro j σ G _ ⟨y9, rfl, sG⟩
            exact SqL.mk (sG _ _ hd)
          · rintro j z σ G hz ⟨y9, rfl, sG⟩
            have fz := all z (List.mem_of_getElem? hz)
            obtain ⟨px, tx, bx, rfl, hpx, ox⟩ := fx.same sG
            obtain ⟨pz, tz, bz, rfl, hpz, oz⟩ := fz.same sG
            refine ⟨_, rfl, _, rfl, px, pz, tx, bx, tz, bz, rfl, hpx, hpz, ox, oz, fun G2 sG2 => ⟨_, rfl, ?_⟩⟩
            refine iteF ?_
            exact ⟨_, rfl, sG.trans sG2⟩
          · rintro σ G ⟨y9, rfl, sG⟩
            exact ⟨_, _, rfl, sG⟩
        · rintro σ G ⟨y8, y9, rfl, sG⟩
          exact ⟨_, _, _, _, _, _, _, _, rfl, s19.trans sG⟩
    · rintro σ H2 ⟨y2, y3, y4, y5, y6, y7, y8, y9, rfl, s2⟩
      exact q _
end
def d_common_divisor : He.DefD := ⟨("common_divisor", none), "common_divisor", "common_divisor", defArgs s_common_divisor, defBody s_common_divisor, defScope s_common_divisor, [], []⟩
def d_fraction : He.DefD := ⟨("fraction", none), "fraction", "fraction", defArgs s_fraction, defBody s_fraction, defScope s_fraction, [], []⟩
def d_plus : He.DefD := ⟨("plus", none), "plus", "plus", defArgs s_plus, defBody s_plus, defScope s_plus, [], []⟩
def d_minus : He.DefD := ⟨("minus", none), "minus", "minus", defArgs s_minus, defBody s_minus, defScope s_minus, [], []⟩
def d_times : He.DefD := ⟨("times", none), "times", "times", defArgs s_times, defBody s_times, defScope s_times, [], []⟩
def d_before : He.DefD := ⟨("before", none), "before", "before", defArgs s_before, defBody s_before, defScope s_before, [], []⟩
def d__law_box : He.DefD := ⟨("_law_box", none), "_law_box", "_law_box", defArgs s__law_box, defBody s__law_box, defScope s__law_box, [], []⟩
def d__law_take : He.DefD := ⟨("_law_take", none), "_law_take", "_law_take", defArgs s__law_take, defBody s__law_take, defScope s__law_take, [], []⟩
def d__law_folded : He.DefD := ⟨("_law_folded", none), "_law_folded", "_law_folded", defArgs s__law_folded, defBody s__law_folded, defScope s__law_folded, [], []⟩
def d__law_divisor : He.DefD := ⟨("_law_divisor", none), "_law_divisor", "_law_divisor", defArgs s__law_divisor, defBody s__law_divisor, defScope s__law_divisor, [], []⟩
def d__law_number : He.DefD := ⟨("_law_number", none), "_law_number", "_law_number", defArgs s__law_number, defBody s__law_number, defScope s__law_number, [], []⟩
def d__law_pair : He.DefD := ⟨("_law_pair", none), "_law_pair", "_law_pair", defArgs s__law_pair, defBody s__law_pair, defScope s__law_pair, [], []⟩
def d__law_is_lowest : He.DefD := ⟨("_law_is_lowest", none), "_law_is_lowest", "_law_is_lowest", defArgs s__law_is_lowest, defBody s__law_is_lowest, defScope s__law_is_lowest, [], []⟩
def d__law_is : He.DefD := ⟨("_law_is", none), "_law_is", "_law_is", defArgs s__law_is, defBody s__law_is, defScope s__law_is, [], []⟩
def d__law_two_right : He.DefD := ⟨("_law_two_right", none), "_law_two_right", "_law_two_right", defArgs s__law_two_right, defBody s__law_two_right, defScope s__law_two_right, [], []⟩
def d_law : He.DefD := ⟨("law", none), "law", "law", defArgs s_law, defBody s_law, defScope s_law, [], []⟩
def hfn : List He.DefD := [d_common_divisor, d_fraction, d_plus, d_minus, d_times, d_before, d__law_box, d__law_take, d__law_folded, d__law_divisor, d__law_number, d__law_pair, d__law_is_lowest, d__law_is, d__law_two_right, d_law]
def hfa : List He.Fa := [.glo "common_divisor", .glo "fraction", .glo "plus", .glo "minus", .glo "times", .glo "before", .glo "_law_box", .glo "_law_take", .glo "_law_folded", .glo "_law_divisor", .glo "_law_number", .glo "_law_pair", .glo "_law_is_lowest", .glo "_law_is", .glo "_law_two_right", .glo "law", .free "abs", .free "any", .free "bool", .free "divmod", .free "enumerate", .free "int", .free "isinstance", .free "len", .free "list", .free "max", .free "range", .free "tuple"]
abbrev R : PySem.W.OpenRow := PySem.W.OpenLaw.row PySem.Challenge.rw_shareones_k01_fractions
abbrev hk : PySem.W.Hook := He.hookD 4 hfa hfn
def ob (s : PySem.W.SharedT) : He.AlD := He.obsDG 4 hfa hfn (HandSHeadRun.getT s)
theorem ob_eq (s : PySem.W.SharedT) : ob s = hk.obs s.abs := He.obsDG_eq (HandSHeadRun.getT_eq s)
def loose : List Str := ["common_divisor", "fraction", "plus", "minus", "times", "before", "_law_box", "_law_take", "_law_folded", "_law_divisor", "_law_number", "_law_pair", "_law_is_lowest", "_law_is", "_law_two_right"]
theorem run (w : World) : HandSHeadRun.RunEq R (PySem.W.view R.prog [17]) hk ob 6000 loose w := by
  intro os
  kernel_rfl
theorem facts {P : Program} {w : World} {K : PySem.W.Frag} {h : Heap} {mg : Str → Option Value} {f : Addr} (X : K.In h) (G : h.Ns mainGlobals mg) (hfa_ : mg ("law" : Str) = some (.ref f)) (c : He.SaysD hfa hfn K) :
    ∃ fd : FuncData, (∀ (s : Shared) (v : Value), BindsTo s fd ⟨[v], []⟩ [("_law_script", v)]) ∧ ∀ base : Heap, K.In base → base.Ns mainGlobals mg → FnOk P w K mg base CX0 5 f fd ["_law_script"] (sp_law K) := by
  obtain ⟨fd_common_divisor, F_common_divisor⟩ := c.def_ 0 (d := d_common_divisor) rfl
  obtain ⟨fd_fraction, F_fraction⟩ := c.def_ 1 (d := d_fraction) rfl
  obtain ⟨fd_plus, F_plus⟩ := c.def_ 2 (d := d_plus) rfl
  obtain ⟨fd_minus, F_minus⟩ := c.def_ 3 (d := d_minus) rfl
  obtain ⟨fd_times, F_times⟩ := c.def_ 4 (d := d_times) rfl
  obtain ⟨fd_before, F_before⟩ := c.def_ 5 (d := d_before) rfl
  obtain ⟨fd__law_box, F__law_box⟩ := c.def_ 6 (d := d__law_box) rfl
  obtain ⟨fd__law_take, F__law_take⟩ := c.def_ 7 (d := d__law_take) rfl
  obtain ⟨fd__law_folded, F__law_folded⟩ := c.def_ 8 (d := d__law_folded) rfl
  obtain ⟨fd__law_divisor, F__law_divisor⟩ := c.def_ 9 (d := d__law_divisor) rfl
  obtain ⟨fd__law_number, F__law_number⟩ := c.def_ 10 (d := d__law_number) rfl
  obtain ⟨fd__law_pair, F__law_pair⟩ := c.def_ 11 (d := d__law_pair) rfl
  obtain ⟨fd__law_is_lowest, F__law_is_lowest⟩ := c.def_ 12 (d := d__law_is_lowest) rfl
  obtain ⟨fd__law_is, F__law_is⟩ := c.def_ 13 (d := d__law_is) rfl
  obtain ⟨fd__law_two_right, F__law_two_right⟩ := c.def_ 14 (d := d__law_two_right) rfl
  obtain ⟨fd_law, F_law⟩ := c.def_ 15 (d := d_law) rfl
  have e := hfa_.symm.trans (He.glo_ok X G (c.fact 15 (f := .glo "law") rfl))
  cases e
  have b := FunD.bindsA (ps := ["_law_script"]) F_law fun _ _ _ _ _ _ us hl => match us, hl with | [_], _ => rfl
  refine ⟨fd_law, fun s v => b s [v] rfl, fun base _ _ => ok_law (T := ⟨_, fd_common_divisor, F_common_divisor, (He.glo_ok X G (c.fact 0 (f := .glo "common_divisor") rfl)), (FunD.bindsN F_common_divisor fun _ _ _ _ _ _ us hl => match us, hl with | [_, _], _ => rfl), _, fd_fraction, F_fraction, (He.glo_ok X G (c.fact 1 (f := .glo "fraction") rfl)), (FunD.bindsN F_fraction fun _ _ _ _ _ _ us hl => match us, hl with | [_, _], _ => rfl), _, fd_plus, F_plus, (He.glo_ok X G (c.fact 2 (f := .glo "plus") rfl)), (FunD.bindsN F_plus fun _ _ _ _ _ _ us hl => match us, hl with | [_, _], _ => rfl), _, fd_minus, F_minus, (He.glo_ok X G (c.fact 3 (f := .glo "minus") rfl)), (FunD.bindsN F_minus fun _ _ _ _ _ _ us hl => match us, hl with | [_, _], _ => rfl), _, fd_times, F_times, (He.glo_ok X G (c.fact 4 (f := .glo "times") rfl)), (FunD.bindsN F_times fun _ _ _ _ _ _ us hl => match us, hl with | [_, _], _ => rfl), _, fd_before, F_before, (He.glo_ok X G (c.fact 5 (f := .glo "before") rfl)), (FunD.bindsN F_before fun _ _ _ _ _ _ us hl => match us, hl with | [_, _], _ => rfl), _, fd__law_box, F__law_box, (He.glo_ok X G (c.fact 6 (f := .glo "_law_box") rfl)), (FunD.bindsN F__law_box fun _ _ _ _ _ _ us hl => match us, hl with | [_, _], _ => rfl), _, fd__law_take, F__law_take, (He.glo_ok X G (c.fact 7 (f := .glo "_law_take") rfl)), (FunD.bindsN F__law_take fun _ _ _ _ _ _ us hl => match us, hl with | [_, _], _ => rfl), _, fd__law_folded, F__law_folded, (He.glo_ok X G (c.fact 8 (f := .glo "_law_folded") rfl)), (FunD.bindsN F__law_folded fun _ _ _ _ _ _ us hl => match us, hl with | [_, _], _ => rfl), _, fd__law_divisor, F__law_divisor, (He.glo_ok X G (c.fact 9 (f := .glo "_law_divisor") rfl)), (FunD.bindsN F__law_divisor fun _ _ _ _ _ _ us hl => match us, hl with | [_, _], _ => rfl), _, fd__law_number, F__law_number, (He.glo_ok X G (c.fact 10 (f := .glo "_law_number") rfl)), (FunD.bindsN F__law_number fun _ _ _ _ _ _ us hl => match us, hl with | [_], _ => rfl), _, fd__law_pair, F__law_pair, (He.glo_ok X G (c.fact 11 (f := .glo "_law_pair") rfl)), (FunD.bindsN F__law_pair fun _ _ _ _ _ _ us hl => match us, hl with | [_], _ => rfl), _, fd__law_is_lowest, F__law_is_lowest, (He.glo_ok X G (c.fact 12 (f := .glo "_law_is_lowest") rfl)), (FunD.bindsN F__law_is_lowest fun _ _ _ _ _ _ us hl => match us, hl with | [_], _ => rfl), _, fd__law_is, F__law_is, (He.glo_ok X G (c.fact 13 (f := .glo "_law_is") rfl)), (FunD.bindsN F__law_is fun _ _ _ _ _ _ us hl => match us, hl with | [_, _, _], _ => rfl), _, fd__law_two_right, F__law_two_right, (He.glo_ok X G (c.fact 14 (f := .glo "_law_two_right") rfl)), (FunD.bindsN F__law_two_right fun _ _ _ _ _ _ us hl => match us, hl with | [_, _], _ => rfl), _, fd_law, F_law, (He.glo_ok X G (c.fact 15 (f := .glo "law") rfl)), (FunD.bindsN F_law fun _ _ _ _ _ _ us hl => match us, hl with | [_], _ => rfl), (He.free_ok X G (c.fact 16 (f := .free "abs") rfl)), (He.free_ok X G (c.fact 17 (f := .free "any") rfl)), (He.free_ok X G (c.fact 18 (f := .free "bool") rfl)), (He.free_ok X G (c.fact 19 (f := .free "divmod") rfl)), (He.free_ok X G (c.fact 20 (f := .free "enumerate") rfl)), (He.free_ok X G (c.fact 21 (f := .free "int") rfl)), (He.free_ok X G (c.fact 22 (f := .free "isinstance") rfl)), (He.free_ok X G (c.fact 23 (f := .free "len") rfl)), (He.free_ok X G (c.fact 24 (f := .free "list") rfl)), (He.free_ok X G (c.fact 25 (f := .free "max") rfl)), (He.free_ok X G (c.fact 26 (f := .free "range") rfl)), (He.free_ok X G (c.fact 27 (f := .free "tuple") rfl))⟩)⟩
end Fq
open PySem PySem.W PySem.Calls PyProof.Rows
set_option maxHeartbeats 0 in
theorem PySem.Challenge.cw_shareones_k01_fractions_holds : PySem.Challenge.rw_shareones_k01_fractions.Holds := by
  w_on; o_law
  refine HandSHeadRun.head_any (r := OpenLaw.row PySem.Challenge.rw_shareones_k01_fractions) (q := view (OpenLaw.row PySem.Challenge.rw_shareones_k01_fractions).prog [17]) (H := Fq.hk) (ob := Fq.ob) (M := 6000) (loose := Fq.loose) (d := HandSHeadRun.topDef (OpenLaw.row PySem.Challenge.rw_shareones_k01_fractions).prog 17) (kwd := []) Fq.ob_eq
    (by kernel_rfl) (fun s => by kernel_rfl) Fq.run (by kernel_rfl) (by kernel_rfl) (by kernel_rfl) (by rfl) (by first | assumption | decide +kernel) (by decide +kernel) ⟨rfl, rfl, rfl, rfl, rfl, by decide +kernel⟩ ?hw ?hc
  case hw => w_witness2
  case hc =>
    refine L2.walk_ofE (l := PySem.Challenge.rw_shareones_k01_fractions) (n := 63) (k := 5) (x := "_law_script") (CX := L2.CX0) rfl (by decide) (by kernel_rfl) ⟨rfl, by decide, by decide⟩ ?F (fun _ _ _ _ z => z)
    intro w mg fa h Y G hmg0
    obtain ⟨K, KX, c⟩ := Y
    have hmg : mg ("law" : PySem.Str) = some (.ref fa) := by
      have e : (HandSHeadRun.topDef (OpenLaw.row PySem.Challenge.rw_shareones_k01_fractions).prog 17).name = ("law" : PySem.Str) := by kernel_rfl
      rw [← e]
      exact hmg0
    obtain ⟨fd, hb, hF⟩ := Fq.facts (P := (PySem.Challenge.rw_shareones_k01_fractions).prog) (w := w) KX G hmg c
    exact ⟨K, fd, Fq.sp_law K, KX, hb, fun H a ns hl _ hS => ⟨a, ns, rfl, hS, hl, fun _ => rfl⟩, hF⟩
