import PyProof.Rows.All
import Wide.All
import OpenK.AllK
import Wide.FinOn
import KE.KStateDown
import Lean
import HandS.ForMost
import HandS.Wide
import HandS.WideBits
import HandS.IsInst
import HandS.Walk
import HandS.Evl
import HandS.Style
import HandS.NoneIn
import HandS.Defaults
import HandS.Head0
import HandS.Head1
import HandS.Head2
import HandS.HeadEnd
import HandS.HeadHook1
import HandS.HeadHook2
import PySem.Challenge.RW_shareones_k02_what_is_a_share
set_option Elab.async false
set_option linter.all false
set_option maxRecDepth 100000
set_option maxHeartbeats 4000000
namespace Fq
open PySem PySem.Spec PyProof.Rows L2
section
variable {P : Program} {w : World} {K : PySem.W.Frag} {mg : Str → Option Value} {base : Heap}
def topS (i : Nat) : Stmt := PySem.Challenge.pw_shareones_k02_what_is_a_share.main.body.getD i (.Pass ⟨0, 0, 0, 0⟩)
abbrev FnP (K : PySem.W.Frag) (x : Str) (st : Stmt) (f : Addr) (fd : FuncData) : Prop := FunD K x x (defArgs st) (defBody st) (defScope st) [] [] f fd
abbrev s_is_number : Stmt := topS 1
abbrev N_is_number : List Str := ["thing"]
theorem sc_is_number : FnScope N_is_number ["thing"] (defScope s_is_number) := ⟨rfl, rfl, rfl, by decide +kernel, rfl, by decide +kernel, by decide +kernel⟩
abbrev s_common_divisor : Stmt := topS 2
abbrev N_common_divisor : List Str := ["one", "other"]
theorem sc_common_divisor : FnScope N_common_divisor ["one", "other"] (defScope s_common_divisor) := ⟨rfl, rfl, rfl, by decide +kernel, rfl, by decide +kernel, by decide +kernel⟩
abbrev s_fraction : Stmt := topS 3
abbrev N_fraction : List Str := ["top", "bottom", "divisor"]
theorem sc_fraction : FnScope N_fraction ["top", "bottom"] (defScope s_fraction) := ⟨rfl, rfl, rfl, by decide +kernel, rfl, by decide +kernel, by decide +kernel⟩
abbrev s_is_fraction : Stmt := topS 4
abbrev N_is_fraction : List Str := ["thing", "top", "bottom"]
theorem sc_is_fraction : FnScope N_is_fraction ["thing"] (defScope s_is_fraction) := ⟨rfl, rfl, rfl, by decide +kernel, rfl, by decide +kernel, by decide +kernel⟩
abbrev s_is_share : Stmt := topS 5
abbrev N_is_share : List Str := ["thing"]
theorem sc_is_share : FnScope N_is_share ["thing"] (defScope s_is_share) := ⟨rfl, rfl, rfl, by decide +kernel, rfl, by decide +kernel, by decide +kernel⟩
abbrev s__law_box : Stmt := topS 7
abbrev N__law_box : List Str := ["_law_script", "_law_k", "_law_cell"]
theorem sc__law_box : FnScope N__law_box ["_law_script", "_law_k"] (defScope s__law_box) := ⟨rfl, rfl, rfl, by decide +kernel, rfl, by decide +kernel, by decide +kernel⟩
abbrev s__law_take : Stmt := topS 8
abbrev N__law_take : List Str := ["_law_box_here", "_law_many", "_law_found", "_law_once"]
theorem sc__law_take : FnScope N__law_take ["_law_box_here", "_law_many"] (defScope s__law_take) := ⟨rfl, rfl, rfl, by decide +kernel, rfl, by decide +kernel, by decide +kernel⟩
abbrev s__law_folded : Stmt := topS 9
abbrev N__law_folded : List Str := ["_law_script", "_law_many", "_law_cells", "_law_k", "_law_cell"]
theorem sc__law_folded : FnScope N__law_folded ["_law_script", "_law_many"] (defScope s__law_folded) := ⟨rfl, rfl, rfl, by decide +kernel, rfl, by decide +kernel, by decide +kernel⟩
abbrev s__law_divisor : Stmt := topS 10
abbrev N__law_divisor : List Str := ["_law_one", "_law_other"]
theorem sc__law_divisor : FnScope N__law_divisor ["_law_one", "_law_other"] (defScope s__law_divisor) := ⟨rfl, rfl, rfl, by decide +kernel, rfl, by decide +kernel, by decide +kernel⟩
abbrev s__law_odd : Stmt := topS 11
abbrev N__law_odd : List Str := ["_law_box_here", "_law_some"]
theorem sc__law_odd : FnScope N__law_odd ["_law_box_here"] (defScope s__law_odd) := ⟨rfl, rfl, rfl, by decide +kernel, rfl, by decide +kernel, by decide +kernel⟩
abbrev s__law_otherwise : Stmt := topS 12
abbrev N__law_otherwise : List Str := ["_law_box_here", "_law_share", "_law_way", "_law_by", "_law_odd_here", "_law_top", "_law_bottom", "_law_some"]
theorem sc__law_otherwise : FnScope N__law_otherwise ["_law_box_here", "_law_share"] (defScope s__law_otherwise) := ⟨rfl, rfl, rfl, by decide +kernel, rfl, by decide +kernel, by decide +kernel⟩
abbrev s__law_due : Stmt := topS 13
abbrev N__law_due : List Str := ["_law_thing", "_law_part"]
theorem sc__law_due : FnScope N__law_due ["_law_thing"] (defScope s__law_due) := ⟨rfl, rfl, rfl, by decide +kernel, rfl, by decide +kernel, by decide +kernel⟩
abbrev s_law : Stmt := topS 14
abbrev N_law : List Str := ["_law_script", "_law_cells", "_law_k", "_law_box_here", "_law_bottom", "_law_share", "_law_turn", "_law_thing", "_law_one", "_law_found"]
theorem sc_law : FnScope N_law ["_law_script"] (defScope s_law) := ⟨rfl, rfl, rfl, by decide +kernel, rfl, by decide +kernel, by decide +kernel⟩
structure Defs (K : PySem.W.Frag) (mg : Str → Option Value) where
  f_is_number : Addr
  fd_is_number : FuncData
  F_is_number : FnP K "is_number" s_is_number f_is_number fd_is_number
  g_is_number : mg "is_number" = some (.ref f_is_number)
  b_is_number : Binds K fd_is_number ["thing"] []
  f_common_divisor : Addr
  fd_common_divisor : FuncData
  F_common_divisor : FnP K "common_divisor" s_common_divisor f_common_divisor fd_common_divisor
  g_common_divisor : mg "common_divisor" = some (.ref f_common_divisor)
  b_common_divisor : Binds K fd_common_divisor ["one", "other"] []
  f_fraction : Addr
  fd_fraction : FuncData
  F_fraction : FnP K "fraction" s_fraction f_fraction fd_fraction
  g_fraction : mg "fraction" = some (.ref f_fraction)
  b_fraction : Binds K fd_fraction ["top", "bottom"] []
  f_is_fraction : Addr
  fd_is_fraction : FuncData
  F_is_fraction : FnP K "is_fraction" s_is_fraction f_is_fraction fd_is_fraction
  g_is_fraction : mg "is_fraction" = some (.ref f_is_fraction)
  b_is_fraction : Binds K fd_is_fraction ["thing"] []
  f_is_share : Addr
  fd_is_share : FuncData
  F_is_share : FnP K "is_share" s_is_share f_is_share fd_is_share
  g_is_share : mg "is_share" = some (.ref f_is_share)
  b_is_share : Binds K fd_is_share ["thing"] []
  f__law_box : Addr
  fd__law_box : FuncData
  F__law_box : FnP K "_law_box" s__law_box f__law_box fd__law_box
  g__law_box : mg "_law_box" = some (.ref f__law_box)
  b__law_box : Binds K fd__law_box ["_law_script", "_law_k"] []
  f__law_take : Addr
  fd__law_take : FuncData
  F__law_take : FnP K "_law_take" s__law_take f__law_take fd__law_take
  g__law_take : mg "_law_take" = some (.ref f__law_take)
  b__law_take : Binds K fd__law_take ["_law_box_here", "_law_many"] []
  f__law_folded : Addr
  fd__law_folded : FuncData
  F__law_folded : FnP K "_law_folded" s__law_folded f__law_folded fd__law_folded
  g__law_folded : mg "_law_folded" = some (.ref f__law_folded)
  b__law_folded : Binds K fd__law_folded ["_law_script", "_law_many"] []
  f__law_divisor : Addr
  fd__law_divisor : FuncData
  F__law_divisor : FnP K "_law_divisor" s__law_divisor f__law_divisor fd__law_divisor
  g__law_divisor : mg "_law_divisor" = some (.ref f__law_divisor)
  b__law_divisor : Binds K fd__law_divisor ["_law_one", "_law_other"] []
  f__law_odd : Addr
  fd__law_odd : FuncData
  F__law_odd : FnP K "_law_odd" s__law_odd f__law_odd fd__law_odd
  g__law_odd : mg "_law_odd" = some (.ref f__law_odd)
  b__law_odd : Binds K fd__law_odd ["_law_box_here"] []
  f__law_otherwise : Addr
  fd__law_otherwise : FuncData
  F__law_otherwise : FnP K "_law_otherwise" s__law_otherwise f__law_otherwise fd__law_otherwise
  g__law_otherwise : mg "_law_otherwise" = some (.ref f__law_otherwise)
  b__law_otherwise : Binds K fd__law_otherwise ["_law_box_here", "_law_share"] []
  f__law_due : Addr
  fd__law_due : FuncData
  F__law_due : FnP K "_law_due" s__law_due f__law_due fd__law_due
  g__law_due : mg "_law_due" = some (.ref f__law_due)
  b__law_due : Binds K fd__law_due ["_law_thing"] []
  f_law : Addr
  fd_law : FuncData
  F_law : FnP K "law" s_law f_law fd_law
  g_law : mg "law" = some (.ref f_law)
  b_law : Binds K fd_law ["_law_script"] []
  m_abs : mg "abs" = none
  m_bool : mg "bool" = none
  m_divmod : mg "divmod" = none
  m_enumerate : mg "enumerate" = none
  m_int : mg "int" = none
  m_isinstance : mg "isinstance" = none
  m_len : mg "len" = none
  m_list : mg "list" = none
  m_max : mg "max" = none
  m_range : mg "range" = none
  m_tuple : mg "tuple" = none
theorem bt_abs : bootBuiltins "abs" = some (.builtin "abs") := by decide +kernel
theorem bt_bool : bootBuiltins "bool" = some (.type "bool") := by decide +kernel
theorem bt_divmod : bootBuiltins "divmod" = some (.builtin "divmod") := by decide +kernel
theorem bt_enumerate : bootBuiltins "enumerate" = some (.type "enumerate") := by decide +kernel
theorem bt_int : bootBuiltins "int" = some (.type "int") := by decide +kernel
theorem bt_isinstance : bootBuiltins "isinstance" = some (.builtin "isinstance") := by decide +kernel
theorem bt_len : bootBuiltins "len" = some (.builtin "len") := by decide +kernel
theorem bt_list : bootBuiltins "list" = some (.type "list") := by decide +kernel
theorem bt_max : bootBuiltins "max" = some (.builtin "max") := by decide +kernel
theorem bt_range : bootBuiltins "range" = some (.type "range") := by decide +kernel
theorem bt_tuple : bootBuiltins "tuple" = some (.type "tuple") := by decide +kernel
def frT (t b : Int) : Int := (b.sign * t) / (Int.gcd t b : Int)
def frB (t b : Int) : Int := (b.natAbs : Int) / (Int.gcd t b : Int)
theorem fr_ex (t : Int) {b : Int} (hb : b ≠ 0) : ∃ (g : Nat) (x y : Int), 0 < g ∧ Int.gcd t b = g ∧ t = (g : Int) * x ∧ b = (g : Int) * y ∧ y ≠ 0 ∧ Int.gcd x y = 1 := by
  have hg : 0 < Int.gcd t b := Int.gcd_pos_of_ne_zero_right t hb
  obtain ⟨x, hx⟩ := Int.gcd_dvd_left t b
  obtain ⟨y, hy⟩ := Int.gcd_dvd_right t b
  refine ⟨Int.gcd t b, x, y, hg, rfl, hx, hy, fun e => hb (by rw [hy, e, Int.mul_zero]), ?_⟩
  generalize eg : Int.gcd t b = g at hg hx hy
  have e : g = g * Int.gcd x y := by
    rw [← eg]
    conv => lhs; rw [hx, hy, Int.gcd_mul_left]
    rw [Int.natAbs_natCast, eg]
  exact Nat.eq_of_mul_eq_mul_left hg (by rw [← e, Nat.mul_one])
theorem sgn {b : Int} {g : Nat} {y : Int} (hg : 0 < g) (hb : b = (g : Int) * y) : b.sign = y.sign := by
  rw [hb, Int.sign_mul, Int.sign_eq_one_of_pos (by omega), Int.one_mul]
theorem fr_vals {t b : Int} {g : Nat} {x y : Int} (hg : 0 < g) (eg : Int.gcd t b = g) (ht : t = (g : Int) * x) (hb : b = (g : Int) * y) : frT t b = y.sign * x ∧ frB t b = (y.natAbs : Int) := by
  have g0 : (g : Int) ≠ 0 := by omega
  constructor
  · unfold frT
    rw [eg, sgn hg hb, ht, show y.sign * ((g : Int) * x) = (g : Int) * (y.sign * x) by rw [Int.mul_left_comm]]
    exact Int.mul_ediv_cancel_left _ g0
  · unfold frB
    rw [eg, hb, Int.natAbs_mul, Int.natAbs_natCast, Int.natCast_mul]
    exact Int.mul_ediv_cancel_left _ g0
theorem sgn_abs {y : Int} (hy : y ≠ 0) : y.sign.natAbs = 1 := Int.natAbs_sign_of_ne_zero hy
theorem fr_pos (t : Int) {b : Int} (hb : b ≠ 0) : 0 < frB t b := by
  obtain ⟨g, x, y, hg, eg, ht, hy, hy0, h1⟩ := fr_ex t hb
  rw [(fr_vals hg eg ht hy).2]
  omega
theorem fr_gcd (t : Int) {b : Int} (hb : b ≠ 0) : Int.gcd (frT t b) (frB t b) = 1 := by
  obtain ⟨g, x, y, hg, eg, ht, hy, hy0, h1⟩ := fr_ex t hb
  rw [(fr_vals hg eg ht hy).1, (fr_vals hg eg ht hy).2]
  show Nat.gcd (y.sign * x).natAbs ((y.natAbs : Int)).natAbs = 1
  rw [Int.natAbs_mul, sgn_abs hy0, Nat.one_mul, Int.natAbs_natCast]
  exact h1
theorem fr_eq (t : Int) {b : Int} (hb : b ≠ 0) : frT t b * b = t * frB t b := by
  obtain ⟨g, x, y, hg, eg, ht, hy, hy0, h1⟩ := fr_ex t hb
  rw [(fr_vals hg eg ht hy).1, (fr_vals hg eg ht hy).2]
  rw [ht, hy]
  have e : y * y.sign = (y.natAbs : Int) := Int.mul_sign_self y
  rw [← e]
  simp only [Int.mul_comm, Int.mul_left_comm, Int.mul_assoc]
theorem fr_absT (t : Int) {b : Int} (hb : b ≠ 0) : (frT t b).natAbs ≤ t.natAbs := by
  obtain ⟨g, x, y, hg, eg, ht, hy, hy0, h1⟩ := fr_ex t hb
  rw [(fr_vals hg eg ht hy).1, ht, Int.natAbs_mul, sgn_abs hy0, Nat.one_mul, Int.natAbs_mul, Int.natAbs_natCast]
  exact Nat.le_mul_of_pos_left _ hg
theorem fr_absB (t : Int) {b : Int} (hb : b ≠ 0) : (frB t b).natAbs ≤ b.natAbs := by
  obtain ⟨g, x, y, hg, eg, ht, hy, hy0, h1⟩ := fr_ex t hb
  rw [(fr_vals hg eg ht hy).2, hy, Int.natAbs_mul, Int.natAbs_natCast, Int.natAbs_natCast]
  exact Nat.le_mul_of_pos_left _ hg
theorem fr_negT (t b : Int) : frT (-t) (-b) = frT t b := by
  unfold frT
  rw [Int.sign_neg, Int.neg_mul_neg, Int.gcd_neg, Int.neg_gcd]
theorem fr_negB (t b : Int) : frB (-t) (-b) = frB t b := by
  unfold frB
  rw [Int.natAbs_neg, Int.gcd_neg, Int.neg_gcd]
/-- what the program's two ways reckon -/
theorem fd_pos {g : Nat} {x : Int} (hg : 0 < g) : ((g : Int) * x).fdiv (g : Int) = x := by
  rw [Int.fdiv_eq_ediv_of_nonneg _ (by omega)]
  exact Int.mul_ediv_cancel_left _ (by omega)
theorem fd_neg {g : Nat} {x : Int} (hg : 0 < g) : ((g : Int) * x).fdiv (-(g : Int)) = -x := by
  rw [show (g : Int) * x = -(g : Int) * (-x) by rw [Int.neg_mul_neg]]
  exact Int.mul_fdiv_cancel_left _ (by omega)
theorem fr_lt (t : Int) {b : Int} (hb : b < 0) : t.fdiv (-(Int.gcd t b : Int)) = frT t b ∧ b.fdiv (-(Int.gcd t b : Int)) = frB t b := by
  obtain ⟨g, x, y, hg, eg, ht, hy, hy0, h1⟩ := fr_ex t (show b ≠ 0 by omega)
  rw [(fr_vals hg eg ht hy).1, (fr_vals hg eg ht hy).2, eg]
  have yn : y < 0 := by
    rw [hy] at hb
    exact Int.neg_of_mul_neg_right hb (by omega)
  constructor
  · conv => lhs; rw [ht]
    rw [fd_neg hg, Int.sign_eq_neg_one_of_neg yn]
    omega
  · conv => lhs; rw [hy]
    rw [fd_neg hg]
    omega
theorem fr_ge (t : Int) {b : Int} (hb : 0 < b) : t.fdiv (Int.gcd t b : Int) = frT t b ∧ b.fdiv (Int.gcd t b : Int) = frB t b := by
  obtain ⟨g, x, y, hg, eg, ht, hy, hy0, h1⟩ := fr_ex t (show b ≠ 0 by omega)
  rw [(fr_vals hg eg ht hy).1, (fr_vals hg eg ht hy).2, eg]
  have yn : 0 < y := by
    rw [hy] at hb
    exact Int.pos_of_mul_pos_right hb (by omega)
  constructor
  · conv => lhs; rw [ht]
    rw [fd_pos hg, Int.sign_eq_one_of_pos yn]
    omega
  · conv => lhs; rw [hy]
    rw [fd_pos hg]
    omega
/-! sizes -/
def S (n : Nat) (x : Int) : Prop := x.natAbs < 2 ^ n
theorem S.mono {n m : Nat} {x : Int} (h : S n x) (l : n ≤ m) : S m x := Nat.lt_of_lt_of_le h (Nat.pow_le_pow_right (by decide) l)
theorem S.mul {n m : Nat} {x y : Int} (h : S n x) (k : S m y) : S (n + m) (x * y) := by
  unfold S at *
  rw [Int.natAbs_mul, Nat.pow_add]
  exact Nat.mul_lt_mul'' h k
theorem S.add {n : Nat} {x y : Int} (h : S n x) (k : S n y) : S (n + 1) (x + y) := by
  unfold S at *
  rw [Nat.pow_succ]
  omega
theorem S.sub {n : Nat} {x y : Int} (h : S n x) (k : S n y) : S (n + 1) (x - y) := by
  unfold S at *
  rw [Nat.pow_succ]
  omega
theorem S.frT {n : Nat} {t b : Int} (h : S n t) (hb : b ≠ 0) : S n (frT t b) := Nat.lt_of_le_of_lt (fr_absT t hb) h
theorem S.frB {n : Nat} {t b : Int} (h : S n b) (hb : b ≠ 0) : S n (frB t b) := Nat.lt_of_le_of_lt (fr_absB t hb) h
theorem abs_eq (i : Int) : (if i < 0 then -i else i) = (i.natAbs : Int) := by
  split <;> omega
/-! the same rules with the written part by its name: for the inside of comprehensions -/
theorem pg_tupK {X : Cx} {K : PySem.W.Frag} {es : List Expr} {k n : Nat} {pos : Pos} {t : TGs} (h : X.K = K) (hc : X.calm = true) (hg : PGs X es t) (hn : (assignEach es X.env).length = n := by rfl) (hst : (assignEach es X.env).findIdx? (·.1) = none := by rfl) : PG X (.Tuple es k pos) (gTup K n t) := by
  subst h
  exact pg_tup hc hg hn hst
theorem isiK {X : Cx} {K : PySem.W.Frag} (h : X.K = K) : CallR X (.builtin "isinstance") (rIsi K) := by
  subst h
  exact call_isi
theorem ixlK {X : Cx} {K : PySem.W.Frag} (h : X.K = K) : IxR X (rIxL K) := by
  subst h
  exact ix_list
theorem ixtK {X : Cx} {K : PySem.W.Frag} (h : X.K = K) : IxR X (rIxT K) := by
  subst h
  exact ix_tup
theorem lenK {X : Cx} {K : PySem.W.Frag} (h : X.K = K) : CallR X (.builtin "len") (fun xs H Q => ∃ p ys, xs = [.ref p] ∧ (SqL K H p ys ∨ SqT K H p ys) ∧ Q (.int ys.length) H) := by
  subst h
  exact call_len_seq
theorem sumK {X : Cx} {K : PySem.W.Frag} (h : X.K = K) (hc : X.calm = true) : CallR X (.builtin "sum") (rSum K) := by
  subst h
  exact cr_sum hc
theorem yes_ite {σ : L2.St} {H : Hp} {A B : Hp → Prop} (h : A H) : tYes σ H (fun b H3 => if b = true then A H3 else B H3) := by
  show if true = true then A H else B H
  rw [if_pos rfl]
  exact h
/-! heaps -/
theorem same_upd {H : Hp} {p : Addr} {o : HO} (h : H p = none) : Same H (upd H p o) := fun b x e => by
  rw [upd_ne (ne_of_none e h)]
  exact e
def But (p : Addr) (H H' : Hp) : Prop := ∀ b o, b ≠ p → H b = some o → H' b = some o
theorem But.trans {p : Addr} {H H1 H2 : Hp} (a : But p H H1) (b : But p H1 H2) : But p H H2 := fun c o n e => b c o n (a c o n e)
theorem But.refl (p : Addr) (H : Hp) : But p H H := fun _ _ _ e => e
theorem But.put {p : Addr} {H H' : Hp} {o : HO} (a : But p H H') : But p H (L2.upd H' p o) := fun c x n e => by
  rw [upd_ne n]
  exact a c x n e
theorem same_but {p : Addr} {H H' : Hp} (a : Same H H') : But p H H' := fun c x _ e => a c x e
theorem But.new {p q : Addr} {H H' : Hp} {o : HO} (a : But p H H') (n : H' q = none) : But p H (upd H' q o) := fun c x hn e => by
  have e2 := a c x hn e
  rw [upd_ne (ne_of_none e2 n)]
  exact e2
/-- objects made since H may change: what H has stays -/
theorem same_newer {H H' : Hp} {q : Addr} {o : HO} (a : Same H H') (n : H q = none) : Same H (upd H' q o) := fun c x e => by
  rw [upd_ne (ne_of_none e n)]
  exact a c x e
theorem But.same {p : Addr} {H H1 H2 : Hp} (n : H p = none) (a : Same H H1) (b : But p H1 H2) : Same H H2 := fun c x e =>
  b c x (ne_of_none e n) (a c x e)
/-- the box: a rest, a begin, how often -/
def Bx (H : Hp) (p : Addr) (n : Nat) : Prop := ∃ a b c : Int, H p = some (.lst [.int a, .int b, .int c]) ∧ 0 ≤ a ∧ 0 ≤ b ∧ b < 2147483647 ∧ 0 ≤ c ∧ c ≤ n
theorem Bx.same {H H' : Hp} {p : Addr} {n : Nat} (h : Bx H p n) (s : Same H H') : Bx H' p n := by
  obtain ⟨a, b, c, hp, r⟩ := h
  exact ⟨a, b, c, s _ _ hp, r⟩
theorem Bx.mono {H : Hp} {p : Addr} {n m : Nat} (h : Bx H p n) (l : n ≤ m) : Bx H p m := by
  obtain ⟨a, b, c, hp, h1, h2, h3, h4, h5⟩ := h
  exact ⟨a, b, c, hp, h1, h2, h3, h4, by omega⟩
theorem Bx.new {H : Hp} {p q : Addr} {n : Nat} {o : HO} (h : Bx H p n) (nq : H q = none) : Bx (L2.upd H q o) p n := h.same (same_upd nq)
theorem Bx.ne_tup {H : Hp} {p q : Addr} {n : Nat} {xs : List V} (h : Bx H p n) (e : H q = some (.tup xs)) : q ≠ p := by
  obtain ⟨a, b, c, hp, _⟩ := h
  exact ne_of e hp (fun z => by cases z)
/-- an item of a menu of numbers -/
theorem at_menu {Pr : Int → Prop} {xs : List Int} {r : Int} (h0 : 0 ≤ r) (h1 : r < xs.length) (hx : ∀ x, x ∈ xs → Pr x) : ∃ v, atI (xs.map V.int) r = some (V.int v) ∧ Pr v := by
  obtain ⟨j, rfl⟩ := Int.eq_ofNat_of_zero_le h0
  have hj : j < xs.length := by omega
  refine ⟨xs[j], atI_nat (by rw [List.getElem?_map, List.getElem?_eq_getElem hj]; rfl), hx _ (List.getElem_mem hj)⟩
theorem SqL.mk {K : PySem.W.Frag} {H : Hp} {a : Addr} {xs : List V} (h : H a = some (.lst xs)) : SqL K H a xs := .inl (.inl h)
theorem SqT.mk {K : PySem.W.Frag} {H : Hp} {a : Addr} {xs : List V} (h : H a = some (.tup xs)) : SqT K H a xs := .inl (.inl h)
theorem same_tup {K : PySem.W.Frag} {H H' : Hp} {a : Addr} {xs : List V} (e : Same H H') (h : SqT K H a xs) : SqT K H' a xs := by
  rcases h with (h | ⟨o, h⟩) | h
  · exact .inl (.inl (e _ _ h))
  · exact .inl (.inr ⟨o, e _ _ h⟩)
  · exact .inr h
theorem ixn {n j : Nat} (hj : j < n) : ixN n (j : Int) = some j := by
  unfold ixN
  rw [if_pos (by omega), if_pos (by omega)]
  simp
theorem cdivP {a m : Int} (h0 : 0 < m) (h1 : m < 2 ^ 60) : CDivP a m := ⟨h0, PyProof.noPylong_of_log2 (wide_div (i := a) (b := 60) h0 (by omega) (by decide) (by decide)).2⟩
theorem i01 {c : Prop} [Decidable c] : -(2 ^ 64) < (if c then (1 : Int) else 0) ∧ (if c then (1 : Int) else 0) < 2 ^ 64 := by
  split <;> decide
theorem i01n {c : Prop} [Decidable c] : 0 ≤ (if c then (1 : Int) else 0) := by
  split <;> decide
theorem absn (i : Int) : 0 ≤ (if i < 0 then -i else i) := by
  split <;> omega
/-! the box of a cell -/
def sp__law_box (K : PySem.W.Frag) : Sp := fun vs H Q _ => ∃ (a : Addr) (ns : List Int) (k : Nat), vs = [.ref a, .int (k : Nat)] ∧ SqL K H a (ns.map V.int) ∧ k < 1000 ∧
  ∀ H' p, Same H H' → H p = none → Bx H' p 0 → Q (.ref p) H'
theorem ok__law_box (T : Defs K mg) : FnOk P w K mg base CX0 1 T.f__law_box T.fd__law_box ["_law_script", "_law_k"] (sp__law_box K) := by
  refine T.F__law_box.ok sc__law_box (fun vs H Q E h => ?_) (fun cdv A outer s H vs Q E hr h => ?_)
  · obtain ⟨a, ns, k, rfl, hS, hk, q⟩ := h
    rfl
  · obtain ⟨a, ns, k, rfl, hS, hk, q⟩ := h
    refine ⟨_, PSs.nox (pss_cons (ps_set (i := 2) sc__law_box.nd rfl (.inl rfl) pe_int)
    (pss_cons (ps_if (pt_cmpR op_lt (pv 1) (pe_callB call_len_seq (by rfl) T.m_len bt_len (pa_cons (pv 0) pa_nil)) (nomark _)) (pss_one (ps_set (i := 2) sc__law_box.nd rfl (.inl rfl) (pe_ix ix_list (pv 0) (pv 1) (fun _ _ => rfl)))) pss_nil)
    (pss_one (ps_ret (pe_lst (pa_cons (pe_op op_mul (pe_callB call_abs (by rfl) T.m_abs bt_abs (pa_cons (pv 2) pa_nil)) (pe_callTy call_int1 (by rfl) T.m_int bt_int (pa_cons (pe_cmpR op_ge (pe_callB call_abs (by rfl) T.m_abs bt_abs (pa_cons (pv 2) pa_nil)) (pe_op op_pow pe_int pe_int) (nomark _)) pa_nil))) (pa_cons (pe_op op_mod (pe_op op_add (pv 2) (pe_op op_mul (pe_op op_mul pe_int (pv 1)) (pv 1))) pe_int) (pa_cons pe_int pa_nil)))))))), ?_⟩
    refine ⟨.int k, rfl, .ref a, rfl, a, _, rfl, .inl hS, _, _, rfl, rfl, _, rfl, ite2 (fun e => ?_) (fun e => ?_)⟩
    · have hl : (k : Int) < ((ns.map V.int).length : Nat) := of_decide_eq_true e
      rw [List.length_map] at hl
      have hj : k < ns.length := by omega
      refine ⟨.ref a, rfl, .int k, rfl, a, _, _, .int ns[k], rfl, rfl, hS, atI_nat (by rw [List.getElem?_map, List.getElem?_eq_getElem hj]; rfl), ?_⟩
      refine ⟨_, rfl, _, rfl, _, rfl, _, rfl, _, _, rfl, rfl, ⟨by decide, by decide, by decide⟩, _, _, rfl, rfl, .inr ⟨_, rfl, _, _, rfl, rfl, .inr i01, _, rfl, .int k, rfl, _, _, rfl, rfl, .inl ⟨by decide, by decide⟩, .int k, rfl, _, _, rfl, rfl, .inr ⟨by omega, by omega⟩, _, _, rfl, rfl, _, _, rfl, rfl, (show (0 : Int) < 2147483647 by decide), (show 3 ≤ sizeLine by decide), fun p np => ?_⟩⟩
      refine q _ p (same_upd np) np ⟨_, _, _, upd_same, ?_, Int.emod_nonneg _ (by decide), Int.emod_lt_of_pos _ (by decide), Int.le_refl 0, Int.le_refl 0⟩
      exact Int.mul_nonneg (absn _) i01n
    · refine ⟨_, rfl, _, rfl, _, rfl, _, rfl, _, _, rfl, rfl, ⟨by decide, by decide, by decide⟩, _, _, rfl, rfl, .inr ⟨_, rfl, _, _, rfl, rfl, .inr i01, _, rfl, .int k, rfl, _, _, rfl, rfl, .inl ⟨by decide, by decide⟩, .int k, rfl, _, _, rfl, rfl, .inr ⟨by omega, by omega⟩, _, _, rfl, rfl, _, _, rfl, rfl, (show (0 : Int) < 2147483647 by decide), (show 3 ≤ sizeLine by decide), fun p np => ?_⟩⟩
      refine q _ p (same_upd np) np ⟨_, _, _, upd_same, ?_, Int.emod_nonneg _ (by decide), Int.emod_lt_of_pos _ (by decide), Int.le_refl 0, Int.le_refl 0⟩
      exact Int.mul_nonneg (absn _) i01n
/-! one number taken -/
def sp__law_take (K : PySem.W.Frag) : Sp := fun vs H Q _ => ∃ (p : Addr) (m : Int) (n : Nat), vs = [.ref p, .int m] ∧ Bx H p n ∧ 0 < m ∧ m < 2 ^ 60 ∧ n < 1000000000000 ∧
  ∀ H' r, But p H H' → Bx H' p (n + 1) → 0 ≤ r → r < m → Q (.int r) H'
theorem ok__law_take (T : Defs K mg) : FnOk P w K mg base CX0 1 T.f__law_take T.fd__law_take ["_law_box_here", "_law_many"] (sp__law_take K) := by
  refine T.F__law_take.ok sc__law_take (fun vs H Q E h => ?_) (fun cdv A outer s H vs Q E hr h => ?_)
  · obtain ⟨p, m, n, rfl, ⟨a, b, c, hp, ha, hb, hb2, hc, hc2⟩, h0, h1, hn, q⟩ := h
    rfl
  · obtain ⟨p, m, n, rfl, ⟨a, b, c, hp, ha, hb, hb2, hc, hc2⟩, h0, h1, hn, q⟩ := h
    refine ⟨_, PSs.nox (pss_cons (ps_if (pt_cmpR op_gt (pe_ix ix_list (pv 0) pe_int (fun _ _ => rfl)) pe_int (nomark _)) (pss_cons (ps_asg (pe_callB call_divmodW (by rfl) T.m_divmod bt_divmod (pa_cons (pe_ix ix_list (pv 0) pe_int (fun _ _ => rfl)) (pa_cons (pv 1) pa_nil))) (pg_tup rfl (pgs_cons (pg_sub (pv 0) pe_int set_list) (pgs_cons (pg_name (i := 2) sc__law_take.nd rfl (.inl rfl)) pgs_nil))))
    (pss_one (ps_ret (pv 2)))) pss_nil)
    (pss_cons (ps_asg (pe_op op_add (pe_ix ix_list (pv 0) pe_int (fun _ _ => rfl)) pe_int) (pg_sub (pv 0) pe_int set_list))
    (pss_cons (ps_set (i := 3) sc__law_take.nd rfl (.inl rfl) (pe_op op_mod (pe_op op_pow (pe_op op_add (pe_ix ix_list (pv 0) pe_int (fun _ _ => rfl)) (pe_op op_mul pe_int (pe_ix ix_list (pv 0) pe_int (fun _ _ => rfl)))) pe_int) pe_int))
    (pss_one (ps_ret (pe_op op_mod (pe_op op_fdiv (pe_op op_mod (pe_op op_add (pe_op op_mul (pv 3) pe_int) (pe_op op_mul (pe_op op_mul (pe_ix ix_list (pv 0) pe_int (fun _ _ => rfl)) (pe_ix ix_list (pv 0) pe_int (fun _ _ => rfl))) pe_int)) pe_int) pe_int) (pv 1))))))), ?_⟩
    have SQ : SqL K H p [.int a, .int b, .int c] := SqL.mk hp
    refine ⟨.ref p, rfl, p, _, 0, _, rfl, rfl, SQ, atI_nat (j := 0) rfl, _, _, rfl, rfl, _, rfl, ite2 (fun e => ?_) (fun e => ?_)⟩
    · refine ⟨.ref p, rfl, p, _, 0, _, rfl, rfl, SQ, atI_nat (j := 0) rfl, .int m, rfl, a, m, rfl, cdivP h0 h1, fun t nt => ?_⟩
      have hp1 : (upd H t (.tup [.int (a / m), .int (a % m)])) p = some (.lst [.int a, .int b, .int c]) := by
        rw [upd_ne (ne_of_none hp nt)]
        exact hp
      refine ⟨t, _, rfl, SqT.mk upd_same, rfl, _, _, rfl, .ref p, rfl, p, _, 0, 0, rfl, rfl, hp1, rfl, _, _, rfl, rfl, _, rfl, ?_⟩
      refine q _ _ ((But.refl p H).new nt).put ⟨_, _, _, upd_same, Int.ediv_nonneg ha (by omega), hb, hb2, hc, by omega⟩ (Int.emod_nonneg _ (by omega)) (Int.emod_lt_of_pos _ h0)
    · refine ⟨.ref p, rfl, p, _, 2, _, rfl, rfl, SQ, atI_nat (j := 2) rfl, _, _, rfl, rfl, .ref p, rfl, p, _, 2, 2, rfl, rfl, hp, rfl, ?_⟩
      have SQ1 : SqL K (upd H p (.lst [.int a, .int b, .int (c + 1)])) p [.int a, .int b, .int (c + 1)] := SqL.mk upd_same
      refine ⟨.ref p, rfl, p, _, 1, _, rfl, rfl, SQ1, atI_nat (j := 1) rfl, .ref p, rfl, p, _, 2, _, rfl, rfl, SQ1, atI_nat (j := 2) rfl, _, _, rfl, rfl, .inl ⟨by decide, by decide⟩, _, _, rfl, rfl, _, _, rfl, rfl, ⟨by decide, by decide, by omega⟩, _, _, rfl, rfl, (show (0 : Int) < 2147483647 by decide), ?_⟩
      refine ⟨_, rfl, _, _, rfl, rfl, .inr ⟨by decide, by decide⟩, .ref p, rfl, p, _, 2, _, rfl, rfl, SQ1, atI_nat (j := 2) rfl, .ref p, rfl, p, _, 2, _, rfl, rfl, SQ1, atI_nat (j := 2) rfl, _, _, rfl, rfl, .inl ⟨by omega, by omega⟩, _, _, rfl, rfl, .inr ⟨by decide, by decide⟩, _, _, rfl, rfl, _, _, rfl, rfl, (show (0 : Int) < 2147483629 by decide), _, _, rfl, rfl, ⟨by decide, by decide⟩, .int m, rfl, _, _, rfl, rfl, h0, ?_⟩
      refine q _ _ (But.refl p H).put ⟨_, _, _, upd_same, ha, hb, hb2, by omega, by omega⟩ (Int.emod_nonneg _ (by omega)) (Int.emod_lt_of_pos _ h0)
/-! the folded cells -/
theorem cut_take (ns : List Int) (m : Nat) : cutV (ns.map V.int) none (some (m : Int)) = (ns.take m).map V.int := by
  unfold cutV
  rw [HT.sIx_none, HT.sIx_nat, List.drop_zero, List.length_map, Nat.sub_zero, ← List.map_take]
  congr 1
  by_cases h : m ≤ ns.length
  · rw [Nat.min_eq_left h]
  · rw [Nat.min_eq_right (by omega), List.take_length, List.take_of_length_le (by omega)]
theorem cut_rest (ns : List Int) (m k : Nat) : ∃ ms : List Int, cutV (ns.map V.int) (some (m : Int)) (some (k : Int)) = ms.map V.int ∧ (0 < ms.length → m < ns.length) ∧ ms.length ≤ ns.length := by
  unfold cutV
  rw [HT.sIx_nat, HT.sIx_nat, List.length_map]
  refine ⟨(ns.drop (min m ns.length)).take (min k ns.length - min m ns.length), ?_, fun h => ?_, ?_⟩
  · rw [List.map_take, List.map_drop]
  · rw [List.length_take, List.length_drop] at h
    omega
  · rw [List.length_take, List.length_drop]
    omega
def sp__law_folded (K : PySem.W.Frag) : Sp := fun vs H Q _ => ∃ (a : Addr) (ns : List Int) (m : Nat), vs = [.ref a, .int (m : Nat)] ∧ SqL K H a (ns.map V.int) ∧ ns.length ≤ 63 ∧ 0 < m ∧ m < 64 ∧
  ∀ H' p (cs : List Int), Same H H' → H p = none → H' p = some (.lst (cs.map V.int)) → cs.length ≤ m → Q (.ref p) H'
theorem ok__law_folded (T : Defs K mg) : FnOk P w K mg base CX0 1 T.f__law_folded T.fd__law_folded ["_law_script", "_law_many"] (sp__law_folded K) := by
  refine T.F__law_folded.ok sc__law_folded (fun vs H Q E h => ?_) (fun cdv A outer s H vs Q E hr h => ?_)
  · obtain ⟨a, ns, m, rfl, hS, hlen, hm, hm2, q⟩ := h
    rfl
  · obtain ⟨a, ns, m, rfl, hS, hlen, hm, hm2, q⟩ := h
    refine ⟨_, PSs.nox (pss_cons (ps_set (i := 2) sc__law_folded.nd rfl (.inl rfl) (pe_callTy call_list_of (by rfl) T.m_list bt_list (pa_cons (pe_slice sl_list (pv 0) po_none (po_some (pv 1))) pa_nil)))
    (pss_cons (ps_for PassesOwn.never rfl (pi_enum (by rfl) T.m_enumerate (pa_cons (pe_slice sl_list (pv 0) (po_some (pv 1)) (po_some pe_int)) pa_nil)) (pg_tup rfl (pgs_cons (pg_name (i := 3) sc__law_folded.nd rfl (.inl rfl)) (pgs_cons (pg_name (i := 4) sc__law_folded.nd rfl (.inl rfl)) pgs_nil))) (pss_one (ps_asg (pe_op op_add (pe_ix ix_list (pv 2) (pe_op op_mod (pv 3) (pv 1)) (fun _ _ => rfl)) (pe_op op_mul (pv 4) (pe_op op_add (pv 3) pe_int))) (pg_sub (pv 2) (pe_op op_mod (pv 3) (pv 1)) set_list))))
    (pss_one (ps_ret (pv 2))))), ?_⟩
    refine ⟨.ref a, rfl, .int m, rfl, m, rfl, a, _, rfl, hS, fun c nc => ?_⟩
    rw [cut_take]
    have s1 : Same H (upd H c (.lst ((ns.take m).map V.int))) := same_upd nc
    refine ⟨c, _, rfl, .inl (SqL.mk upd_same), fun l nl => ?_⟩
    have s2 := s1.trans (same_upd nl (o := .lst ((ns.take m).map V.int)))
    refine ⟨.ref a, rfl, .int m, rfl, m, rfl, 63, rfl, a, _, rfl, s2.seq hS, fun d nd => ?_⟩
    obtain ⟨ms, em, hms, hms2⟩ := cut_rest ns m 63
    rw [show (63 : Int) = ((63 : Nat) : Int) from rfl, em]
    have nl0 : H l = none := s1.free nl
    have nd0 : H d = none := s2.free nd
    have ndl : l ≠ d := fun e => by
      rw [← e, upd_same] at nd
      cases nd
    refine ⟨d, _, rfl, SqL.mk upd_same, for_it (walk_enum (xs := ms.map V.int)) (fun i σ H3 => ∃ y3 y4, ∃ cs : List Int, σ = [some (.ref a), some (.int m), some (.ref l), y3, y4] ∧ Same H H3 ∧ H3 l = some (.lst (cs.map V.int)) ∧ cs.length = (ns.take m).length ∧ H3 d = some (.lst (ms.map V.int))) ⟨none, none, ns.take m, rfl, s2.trans (same_upd nd), ?_, rfl, upd_same⟩ ?_ ?_ ?_⟩
    · rw [upd_ne ndl, upd_same]
    · rintro i σ H3 hi ⟨y3, y4, cs, rfl, s3, hl, hc, hd⟩
      exact SqL.mk hd
    · rintro i x σ H3 H4 hi ⟨y3, y4, cs, rfl, s3, hl, hc, hd⟩ ⟨t, x1, x2, rfl, nt, rfl, e1, e2⟩
      rw [List.length_map] at hi
      have lm : m < ns.length := hms (by omega)
      have lc : cs.length = m := by
        rw [hc, List.length_take]
        omega
      have ex1 : x1 = .int (i : Nat) := (Option.some.inj e1).symm
      have ex2 : x2 = .int ms[i] := by
        have e2 : (ms.map V.int)[i]? = some x2 := e2
        rw [List.getElem?_map, List.getElem?_eq_getElem hi] at e2
        exact (Option.some.inj e2).symm
      subst ex1 ex2
      have hl1 : (upd H3 t (.tup [.int (i : Nat), .int ms[i]])) l = some (.lst (cs.map V.int)) := by
        rw [upd_ne (ne_of_none hl nt)]
        exact hl
      have him : i % m < cs.length := by
        rw [lc]
        exact Nat.mod_lt _ hm
      have eim : ((i : Int) % (m : Int)) = ((i % m : Nat) : Int) := by omega
      refine ⟨t, _, rfl, SqT.mk upd_same, rfl, _, _, rfl, _, _, rfl, rfl, ?_⟩
      refine ⟨.ref l, rfl, .int (i : Nat), rfl, .int m, rfl, _, _, rfl, rfl, (show (0 : Int) < (m : Int) by omega), l, _, _, .int cs[i % m], rfl, rfl, SqL.mk hl1, ?_, .int ms[i], rfl, .int (i : Nat), rfl, _, _, rfl, rfl, _, _, rfl, rfl, .inr ⟨by omega, by omega⟩, _, _, rfl, rfl, .ref l, rfl, .int (i : Nat), rfl, .int m, rfl, _, _, rfl, rfl, (show (0 : Int) < (m : Int) by omega), l, _, _, i % m, rfl, rfl, hl1, ?_, ?_⟩
      · rw [eim]
        exact atI_nat (by rw [List.getElem?_map, List.getElem?_eq_getElem him]; rfl)
      · rw [eim]
        exact ixn (by rw [List.length_map]; exact him)
      · refine ⟨_, _, cs.set (i % m) (cs[i % m] + ms[i] * ((i : Int) + 2)), rfl, same_newer (s3.trans (same_upd nt)) nl0, ?_, by rw [List.length_set, hc], ?_⟩
        · rw [upd_same, List.map_set]
        · rw [upd_ne ndl.symm, upd_ne (ne_of_none hd nt)]
          exact hd
    · rintro σ H3 ⟨y3, y4, cs, rfl, s3, hl, hc, hd⟩
      exact ⟨.ref l, rfl, q H3 l cs s3 nl0 hl (by rw [hc, List.length_take]; omega)⟩
/-! the program's own -/
theorem op_fdivNW {X : Cx} : OpR X (binaryOp .FloorDiv) (rI (fun _ j => j ≠ 0 ∧ j.natAbs.log2 < 9000) fun i j => .int (i.fdiv j)) := opI fun _ _ _ _ _ _ _ hc q => floordiv_int hc.1 q (.inl (PyProof.noPylong_of_log2 hc.2))
theorem gcd_step (x y : Nat) : Nat.gcd y (x % y) = Nat.gcd x y := by
  rw [Nat.gcd_comm y, ← Nat.gcd_rec, Nat.gcd_comm]
def sp_common_divisor (_ : PySem.W.Frag) : Sp := fun vs H Q _ => ∃ a b : Int, vs = [.int a, .int b] ∧ Q (.int (if (1 : Int) > (Int.gcd a b : Int) then 1 else (Int.gcd a b : Int))) H
theorem ok_common_divisor (T : Defs K mg) : FnOk P w K mg base CX0 1 T.f_common_divisor T.fd_common_divisor ["one", "other"] (sp_common_divisor K) := by
  refine T.F_common_divisor.ok sc_common_divisor (fun vs H Q E h => ?_) (fun cdv A outer s H vs Q E hr h => ?_)
  · obtain ⟨a, b, rfl, q⟩ := h
    rfl
  · obtain ⟨a, b, rfl, q⟩ := h
    refine ⟨_, PSs.nox (pss_cons (ps_set (i := 0) sc_common_divisor.nd rfl (.inl rfl) (pe_callB call_abs (by rfl) T.m_abs bt_abs (pa_cons (pv 0) pa_nil)))
    (pss_cons (ps_set (i := 1) sc_common_divisor.nd rfl (.inl rfl) (pe_callB call_abs (by rfl) T.m_abs bt_abs (pa_cons (pv 1) pa_nil)))
    (pss_cons (ps_while PassesOwn.never (pt_cmpR op_gt (pv 1) pe_int (nomark _)) (pss_one (ps_par (i := 0) (j := 1) (by rfl) sc_common_divisor.nd rfl rfl (by decide) rfl rfl (pa_cons (pv 1) (pa_cons (pe_op op_mod (pv 0) (pv 1)) pa_nil)) (by rfl))))
    (pss_one (ps_ret (pe_callB (call_max2 rfl) (by rfl) T.m_max bt_max (pa_cons (pv 0) (pa_cons pe_int pa_nil)))))))), ?_⟩
    refine ⟨.int a, rfl, a, rfl, .int b, rfl, b, rfl, ?_⟩
    refine while_by (fun σ H1 => H1 = H ∧ ∃ x y : Nat, σ = [some (.int (x : Nat)), some (.int (y : Nat))] ∧ Nat.gcd x y = Int.gcd a b) (fun σ _ => match σ with | [_, some (.int y)] => y.toNat | _ => 0) ⟨rfl, a.natAbs, b.natAbs, ?_, rfl⟩ ?_ ?_
    · rw [abs_eq, abs_eq]
      rfl
    · rintro σ H1 ⟨rfl, x, y, rfl, hg⟩
      refine ⟨.int (y : Nat), rfl, _, _, rfl, rfl, _, rfl, ite2 (fun e => ?_) (fun e => ?_)⟩
      · have hy : (0 : Int) < (y : Int) := of_decide_eq_true e
        refine ⟨.int (y : Nat), rfl, .int (x : Nat), rfl, .int (y : Nat), rfl, _, _, rfl, rfl, hy, _, _, rfl, ⟨rfl, y, x % y, ?_, ?_⟩, ?_⟩
        · rfl
        · rw [gcd_step, hg]
        · show ((x : Int) % (y : Int)).toNat < ((y : Int)).toNat
          have := Int.emod_lt_of_pos (x : Int) hy
          have := Int.emod_nonneg (x : Int) (show (y : Int) ≠ 0 by omega)
          omega
      · have hy : ¬ (0 : Int) < (y : Int) := fun z => e (decide_eq_true z)
        have y0 : y = 0 := by omega
        subst y0
        rw [Nat.gcd_zero_right] at hg
        refine ⟨.int (x : Nat), rfl, _, _, rfl, ?_⟩
        rw [hg]
        exact q
    · rintro σ H1 Q1 Q2 hQ ⟨v, hv, i, j, e1, e2, k, e3, h3⟩
      exact ⟨v, hv, i, j, e1, e2, k, e3, hQ _ _ h3⟩
def sp_fraction (_ : PySem.W.Frag) : Sp := fun vs H Q _ => ∃ t b : Int, vs = [.int t, .int b] ∧ b ≠ 0 ∧ S 4000 b ∧ ∀ H' p, Same H H' → H p = none → H' p = some (.tup [.int (frT t b), .int (frB t b)]) → Q (.ref p) H'
theorem gcd_small {t b : Int} (hb : b ≠ 0) (h : S 4000 b) : (Int.gcd t b : Int).natAbs.log2 < 9000 := by
  have h1 : Int.gcd t b ≤ b.natAbs := Nat.le_of_dvd (by omega) (Nat.gcd_dvd_right _ _)
  have h2 : 0 < Int.gcd t b := Int.gcd_pos_of_ne_zero_right t hb
  exact (wide_div (i := 0) (j := (Int.gcd t b : Int)) (b := 4000) (by omega) (by rw [Int.natAbs_natCast]; exact Nat.lt_of_le_of_lt h1 h) (by decide) (by decide)).2
theorem ok_fraction (T : Defs K mg) : FnOk P w K mg base CX0 2 T.f_fraction T.fd_fraction ["top", "bottom"] (sp_fraction K) := by
  have G_common_divisor : FnOk P w K mg base CX0 1 T.f_common_divisor T.fd_common_divisor ["one", "other"] (sp_common_divisor K) := ok_common_divisor T
  refine T.F_fraction.ok sc_fraction (fun vs H Q E h => ?_) (fun cdv A outer s H vs Q E hr h => ?_)
  · obtain ⟨t, b, rfl, hb, hs, q⟩ := h
    rfl
  · obtain ⟨t, b, rfl, hb, hs, q⟩ := h
    refine ⟨_, PSs.nox (pss_cons (ps_set (i := 2) sc_fraction.nd rfl (.inl rfl) (pe_call G_common_divisor (hr.mono (by decide)) (by rfl) T.g_common_divisor T.F_common_divisor.kp T.b_common_divisor .nil pass0 (pa_cons (pv 0) (pa_cons (pv 1) pa_nil))))
    (pss_cons (ps_if (pt_cmpR op_lt (pv 1) pe_int (nomark _)) (pss_one (ps_set (i := 2) sc_fraction.nd rfl (.inl rfl) (pe_un un_neg (pv 2)))) pss_nil)
    (pss_one (ps_ret (pe_tup (pa_cons (pe_op op_fdivNW (pv 0) (pv 2)) (pa_cons (pe_op op_fdivNW (pv 1) (pv 2)) pa_nil))))))), ?_⟩
    have hg : 0 < Int.gcd t b := Int.gcd_pos_of_ne_zero_right t hb
    have hd := gcd_small (t := t) hb hs
    refine ⟨.int t, rfl, .int b, rfl, t, b, rfl, ?_⟩
    rw [if_neg (show ¬ (1 : Int) > (Int.gcd t b : Int) by omega)]
    refine ⟨.int b, rfl, _, _, rfl, rfl, _, rfl, ite2 (fun e => ?_) (fun e => ?_)⟩
    · have hb1 : b < 0 := of_decide_eq_true e
      refine ⟨_, rfl, _, rfl, .int t, rfl, _, rfl, _, _, rfl, rfl, ⟨by omega, by rw [Int.natAbs_neg]; exact hd⟩, .int b, rfl, _, rfl, _, _, rfl, rfl, ⟨by omega, by rw [Int.natAbs_neg]; exact hd⟩, (show 2 ≤ sizeLine by decide), fun p np => ?_⟩
      refine q _ p (same_upd np) np ?_
      rw [upd_same]
      exact congrArg some (by rw [← (fr_lt t hb1).1, ← (fr_lt t hb1).2])
    · have hb1 : ¬ b < 0 := fun z => e (decide_eq_true z)
      refine ⟨.int t, rfl, _, rfl, _, _, rfl, rfl, ⟨by omega, hd⟩, .int b, rfl, _, rfl, _, _, rfl, rfl, ⟨by omega, hd⟩, (show 2 ≤ sizeLine by decide), fun p np => ?_⟩
      refine q _ p (same_upd np) np ?_
      rw [upd_same]
      exact congrArg some (by rw [← (fr_ge t (show 0 < b by omega)).1, ← (fr_ge t (show 0 < b by omega)).2])
/-! the law's own divisor -/
def sp__law_divisor (_ : PySem.W.Frag) : Sp := fun vs H Q _ => ∃ a b : Int, vs = [.int a, .int b] ∧ Q (.int (Int.gcd a b : Int)) H
theorem ok__law_divisor (T : Defs K mg) : FnOk P w K mg base CX0 1 T.f__law_divisor T.fd__law_divisor ["_law_one", "_law_other"] (sp__law_divisor K) := by
  refine T.F__law_divisor.ok sc__law_divisor (fun vs H Q E h => ?_) (fun cdv A outer s H vs Q E hr h => ?_)
  · obtain ⟨a, b, rfl, q⟩ := h
    rfl
  · obtain ⟨a, b, rfl, q⟩ := h
    refine ⟨_, PSs.nox (pss_cons (ps_par (i := 0) (j := 1) (by rfl) sc__law_divisor.nd rfl rfl (by decide) rfl rfl (pa_cons (pe_callB call_abs (by rfl) T.m_abs bt_abs (pa_cons (pv 0) pa_nil)) (pa_cons (pe_callB call_abs (by rfl) T.m_abs bt_abs (pa_cons (pv 1) pa_nil)) pa_nil)) (by rfl))
    (pss_cons (ps_while PassesOwn.never (PW.pt (pw_and (pt_cmpR op_gt (pv 0) pe_int (nomark _)) (pw_and1 (pt_cmpR op_gt (pv 1) pe_int (nomark _))))) (pss_cons (ps_if (pt_cmpR op_lt (pv 0) (pv 1) (nomark _)) (pss_one (ps_par (i := 0) (j := 1) (by rfl) sc__law_divisor.nd rfl rfl (by decide) rfl rfl (pa_cons (pv 1) (pa_cons (pv 0) pa_nil)) (by rfl))) pss_nil)
    (pss_one (ps_set (i := 0) sc__law_divisor.nd rfl (.inl rfl) (pe_op op_mod (pv 0) (pv 1))))))
    (pss_one (ps_ret (pe_op op_add (pv 0) (pv 1)))))), ?_⟩
    refine ⟨.int a, rfl, a, rfl, .int b, rfl, b, rfl, _, _, rfl, ?_⟩
    refine while_by (fun σ H1 => H1 = H ∧ ∃ x y : Nat, σ = [some (.int (x : Nat)), some (.int (y : Nat))] ∧ Nat.gcd x y = Int.gcd a b) (fun σ _ => match σ with | [some (.int x), some (.int y)] => x.toNat + y.toNat | _ => 0) ⟨rfl, a.natAbs, b.natAbs, ?_, rfl⟩ ?_ ?_
    · rw [abs_eq, abs_eq]
      rfl
    · rintro σ H1 ⟨rfl, x, y, rfl, hg⟩
      have fin : (x = 0 ∨ y = 0) → ((x : Int) + (y : Int)) = (Int.gcd a b : Int) := fun z => by
        rcases z with rfl | rfl
        · rw [Nat.gcd_zero_left] at hg
          omega
        · rw [Nat.gcd_zero_right] at hg
          omega
      refine ⟨.int (x : Nat), rfl, _, _, rfl, rfl, _, rfl, ite2 (fun e1 => ?_) (fun e1 => ?_)⟩
      · have hx : (0 : Int) < (x : Int) := of_decide_eq_true e1
        refine ⟨.int (y : Nat), rfl, _, _, rfl, rfl, _, rfl, ite2 (fun e2 => ?_) (fun e2 => ?_)⟩
        · have hy : (0 : Int) < (y : Int) := of_decide_eq_true e2
          refine ⟨.int (x : Nat), rfl, .int (y : Nat), rfl, _, _, rfl, rfl, _, rfl, ite2 (fun e3 => ?_) (fun e3 => ?_)⟩
          · have hl : (x : Int) < (y : Int) := of_decide_eq_true e3
            refine ⟨.int (y : Nat), rfl, .int (x : Nat), rfl, _, _, rfl, .int (y : Nat), rfl, .int (x : Nat), rfl, _, _, rfl, rfl, hx, ⟨rfl, y % x, x, rfl, ?_⟩, ?_⟩
            · rw [← Nat.gcd_rec]
              exact hg
            · show ((y : Int) % (x : Int)).toNat + ((x : Int)).toNat < ((x : Int)).toNat + ((y : Int)).toNat
              have := Int.emod_lt_of_pos (y : Int) hx
              have := Int.emod_nonneg (y : Int) (show (x : Int) ≠ 0 by omega)
              omega
          · have hl : ¬ (x : Int) < (y : Int) := fun z => e3 (decide_eq_true z)
            refine ⟨.int (x : Nat), rfl, .int (y : Nat), rfl, _, _, rfl, rfl, hy, ⟨rfl, x % y, y, rfl, ?_⟩, ?_⟩
            · rw [← Nat.gcd_rec, Nat.gcd_comm]
              exact hg
            · show ((x : Int) % (y : Int)).toNat + ((y : Int)).toNat < ((x : Int)).toNat + ((y : Int)).toNat
              have := Int.emod_lt_of_pos (x : Int) hy
              have := Int.emod_nonneg (x : Int) (show (y : Int) ≠ 0 by omega)
              omega
        · have hy : ¬ (0 : Int) < (y : Int) := fun z => e2 (decide_eq_true z)
          refine ⟨.int (x : Nat), rfl, .int (y : Nat), rfl, _, _, rfl, rfl, ?_⟩
          show Q (.int ((x : Int) + (y : Int))) H1
          rw [fin (.inr (by omega))]
          exact q
      · have hx : ¬ (0 : Int) < (x : Int) := fun z => e1 (decide_eq_true z)
        refine ⟨.int (x : Nat), rfl, .int (y : Nat), rfl, _, _, rfl, rfl, ?_⟩
        show Q (.int ((x : Int) + (y : Int))) H1
        rw [fin (.inl (by omega))]
        exact q
    · rintro σ H1 Q1 Q2 hQ ⟨v, hv, i, j, e1, e2, k, e3, h3⟩
      refine ⟨v, hv, i, j, e1, e2, k, e3, ?_⟩
      cases k with
      | true =>
        rw [if_pos rfl] at h3 ⊢
        obtain ⟨v, hv, i, j, e1, e2, k, e3, h3⟩ := h3
        exact ⟨v, hv, i, j, e1, e2, k, e3, hQ _ _ h3⟩
      | false =>
        rw [if_neg Bool.false_ne_true] at h3 ⊢
        exact hQ _ _ h3
/-! things -/
inductive Kn (p : Addr) (H : Hp) : V → Prop
  | non : Kn p H .non
  | bl (b : Bool) : Kn p H (.bl b)
  | int (i : Int) : Kn p H (.int i)
  | str (z : Str) : Kn p H (.str z)
  | lst {a : Addr} {xs : List V} (ne : a ≠ p) (h : H a = some (.lst xs)) : Kn p H (.ref a)
  | tup {a : Addr} {xs : List V} (ne : a ≠ p) (h : H a = some (.tup xs)) : Kn p H (.ref a)
def isInt : V → Bool
  | .int _ => true
  | _ => false
def isBl : V → Bool
  | .bl _ => true
  | _ => false
def isTup (H : Hp) : V → Bool
  | .ref a => match H a with
    | some (.tup _) => true
    | _ => false
  | _ => false
theorem Kn.ty {K : PySem.W.Frag} {p : Addr} {H : Hp} {v : V} (h : Kn p H v) : ∃ t, TyX K H v t ∧ PySem.W.kitOne K t (.type "int") = some (isInt v || isBl v) ∧ PySem.W.kitOne K t (.type "bool") = some (isBl v) ∧ PySem.W.kitOne K t (.type "tuple") = some (isTup H v) := by
  cases h with
  | non => exact ⟨_, .base .non, kit_ty (by show _ = some false; decide +kernel), kit_ty (by show _ = some false; decide +kernel), kit_ty (by show _ = some false; decide +kernel)⟩
  | bl b => exact ⟨_, .base (.bl b), kit_ty (by show _ = some true; decide +kernel), kit_ty (by show _ = some true; decide +kernel), kit_ty (by show _ = some false; decide +kernel)⟩
  | int b => exact ⟨_, .base (.int b), kit_ty (by show _ = some true; decide +kernel), kit_ty (by show _ = some false; decide +kernel), kit_ty (by show _ = some false; decide +kernel)⟩
  | str b => exact ⟨_, .base (.str b), kit_ty (by show _ = some false; decide +kernel), kit_ty (by show _ = some false; decide +kernel), kit_ty (by show _ = some false; decide +kernel)⟩
  | lst ne h =>
    refine ⟨_, .base (.lst h), kit_ty (by show _ = some false; decide +kernel), kit_ty (by show _ = some false; decide +kernel), kit_ty ?_⟩
    simp only [isTup, h]
    decide +kernel
  | tup ne h =>
    refine ⟨_, .base (.tup h), kit_ty (by show _ = some false; decide +kernel), kit_ty (by show _ = some false; decide +kernel), kit_ty ?_⟩
    simp only [isTup, h]
    decide +kernel
theorem Kn.but {p : Addr} {H H' : Hp} {v : V} (h : Kn p H v) (s : But p H H') : Kn p H' v := by
  cases h with
  | non => exact .non
  | bl b => exact .bl b
  | int b => exact .int b
  | str b => exact .str b
  | lst ne h => exact .lst ne (s _ _ ne h)
  | tup ne h => exact .tup ne (s _ _ ne h)
structure Thing (p : Addr) (H : Hp) (v : V) : Prop where
  kn : Kn p H v
  items : ∀ a xs, v = .ref a → H a = some (.tup xs) → ∀ x, x ∈ xs → Kn p H x
def shI : V → V → Bool
  | .int t, .int b => decide (0 ≤ t ∧ t ≤ b ∧ 0 < b ∧ Int.gcd t b = 1)
  | _, _ => false
def shB (H : Hp) : V → Bool
  | .ref a => match H a with
    | some (.tup [x, y]) => shI x y
    | _ => false
  | _ => false
theorem Thing.but {p : Addr} {H H' : Hp} {v : V} (h : Thing p H v) (s : But p H H') : Thing p H' v := by
  refine ⟨h.kn.but s, fun a xs e h2 x hx => ?_⟩
  cases h.kn with
  | lst ne h1 =>
    cases e
    rw [s _ _ ne h1] at h2
    cases h2
  | tup ne h1 =>
    cases e
    rw [s _ _ ne h1] at h2
    cases h2
    exact (h.items _ _ rfl h1 x hx).but s
  | _ => cases e
theorem shB_but {p : Addr} {H H' : Hp} {v : V} (h : Kn p H v) (s : But p H H') : shB H' v = shB H v := by
  cases h with
  | lst ne h1 => simp only [shB, h1, s _ _ ne h1]
  | tup ne h1 => simp only [shB, h1, s _ _ ne h1]
  | _ => rfl
theorem Thing.flat {p : Addr} {H : Hp} {v : V} (h : Kn p H v) (n : ∀ a xs, v = .ref a → H a = some (.tup xs) → False) : Thing p H v := ⟨h, fun a xs e1 e2 => (n a xs e1 e2).elim⟩
theorem Thing.mkTup {p : Addr} {H : Hp} {a : Addr} {xs : List V} (ne : a ≠ p) (h : H a = some (.tup xs)) (hx : ∀ x, x ∈ xs → Kn p H x) : Thing p H (.ref a) := ⟨.tup ne h, fun b ys e1 e2 => by
  cases e1
  rw [h] at e2
  cases e2
  exact hx⟩
theorem Thing.mkLst {p : Addr} {H : Hp} {a : Addr} {xs : List V} (ne : a ≠ p) (h : H a = some (.lst xs)) : Thing p H (.ref a) := .flat (.lst ne h) fun b ys e1 e2 => by
  cases e1
  rw [h] at e2
  cases e2
theorem Thing.nint {p : Addr} {H : Hp} (i : Int) : Thing p H (.int i) := .flat (.int i) fun _ _ e => by cases e
theorem Thing.nbl {p : Addr} {H : Hp} (i : Bool) : Thing p H (.bl i) := .flat (.bl i) fun _ _ e => by cases e
theorem Thing.nnon {p : Addr} {H : Hp} : Thing p H .non := .flat .non fun _ _ e => by cases e
theorem Thing.nstr {p : Addr} {H : Hp} (i : Str) : Thing p H (.str i) := .flat (.str i) fun _ _ e => by cases e
theorem not_tup_len {xs : List V} (h : xs.length ≠ 2) {H : Hp} {a : Addr} (e : H a = some (.tup xs)) : shB H (.ref a) = false := by
  simp only [shB, e]
  match xs, h with
  | [], _ => rfl
  | [_], _ => rfl
  | [_, _], h => exact absurd rfl h
  | _ :: _ :: _ :: _, _ => rfl
theorem shI_l {x y : V} (h : isInt x = false) : shI x y = false := by
  cases x <;> first | rfl | cases h
theorem shI_r {x y : V} (h : isInt y = false) : shI x y = false := by
  cases y <;> cases x <;> first | rfl | cases h
/-! the program's own two -/
def sp_is_number (K : PySem.W.Frag) : Sp := fun vs H Q _ => ∃ (p : Addr) (x : V), vs = [x] ∧ Kn p H x ∧ Q (.bl (isInt x)) H
theorem ok_is_number (T : Defs K mg) : FnOk P w K mg base CX0 1 T.f_is_number T.fd_is_number ["thing"] (sp_is_number K) := by
  refine T.F_is_number.ok sc_is_number (fun vs H Q E h => ?_) (fun cdv A outer s H vs Q E hr h => ?_)
  · obtain ⟨p, x, rfl, hx, q⟩ := h
    rfl
  · obtain ⟨p, x, rfl, hx, q⟩ := h
    refine ⟨_, PSs.nox (pss_one (ps_ret (pe_and (pe_callB call_isi (by rfl) T.m_isinstance bt_isinstance (pa_cons (pv 0) (pa_cons (pe_bltn (v := .ty "int") (by rfl) T.m_int bt_int rfl) pa_nil))) (pe_one (pe_not (pe_callB call_isi (by rfl) T.m_isinstance bt_isinstance (pa_cons (pv 0) (pa_cons (pe_bltn (v := .ty "bool") (by rfl) T.m_bool bt_bool rfl) pa_nil)))))))), ?_⟩
    obtain ⟨t, ty, ki, kb, _⟩ := hx.ty (K := K)
    refine ⟨x, rfl, _, _, _, _, _, rfl, .ty "int", ty, ki, _, rfl, ?_⟩
    refine ite2 (fun e => ?_) (fun e => ?_)
    · refine ⟨x, rfl, _, _, _, _, _, rfl, .ty "bool", ty, kb, _, rfl, ?_⟩
      have ee : (!isBl x) = isInt x := by
        cases x <;> first | rfl | cases e
      rw [ee]
      exact q
    · have ee : isInt x = false := by
        cases x <;> first | rfl | exact absurd rfl e
      rw [ee] at q
      exact q
theorem gcd1 {t b : Int} (hb : 0 < b) : decide (V.int (if (1 : Int) > (Int.gcd t b : Int) then 1 else (Int.gcd t b : Int)) = V.int 1) = decide (Int.gcd t b = 1) := by
  have h2 : 0 < Int.gcd t b := Int.gcd_pos_of_ne_zero_right t (by omega)
  rw [if_neg (show ¬ (1 : Int) > (Int.gcd t b : Int) by omega)]
  refine decide_eq_decide.mpr ⟨fun e => ?_, fun e => ?_⟩
  · have := V.int.inj e
    omega
  · rw [e]
    rfl
theorem gcd2 {t b : Int} : decide (V.int (Int.gcd t b : Int) = V.int 1) = decide (Int.gcd t b = 1) := by
  refine decide_eq_decide.mpr ⟨fun e => ?_, fun e => ?_⟩
  · have := V.int.inj e
    omega
  · rw [e]
    rfl
def fcI : V → V → Bool
  | .int t, .int b => decide (0 < b ∧ Int.gcd t b = 1)
  | _, _ => false
def fcB (H : Hp) : V → Bool
  | .ref a => match H a with
    | some (.tup [x, y]) => fcI x y
    | _ => false
  | _ => false
theorem fcI_l {x y : V} (h : isInt x = false) : fcI x y = false := by
  cases x <;> first | rfl | cases h
theorem fcI_r {x y : V} (h : isInt y = false) : fcI x y = false := by
  cases y <;> cases x <;> first | rfl | cases h
theorem fc_len {xs : List V} (h : xs.length ≠ 2) {H : Hp} {a : Addr} (e : H a = some (.tup xs)) : fcB H (.ref a) = false := by
  simp only [fcB, e]
  match xs, h with
  | [], _ => rfl
  | [_], _ => rfl
  | [_, _], h => exact absurd rfl h
  | _ :: _ :: _ :: _, _ => rfl
theorem fc_no {H : Hp} {v : V} (e0 : isTup H v = false) : fcB H v = false := by
  cases v with
  | ref a =>
    cases hH : H a with
    | none => simp only [fcB, hH]
    | some o => cases o with
      | tup xs =>
        simp only [isTup, hH] at e0
        cases e0
      | _ => simp only [fcB, hH]
  | _ => rfl
/-- a share is a fraction from 0 to 1 -/
theorem fc_sh {H : Hp} {v : V} : (fcB H v = false ∧ shB H v = false) ∨ ∃ a t b, v = .ref a ∧ H a = some (.tup [.int t, .int b]) ∧ fcB H v = true ∧ 0 < b ∧ shB H v = decide (0 ≤ t ∧ t ≤ b) := by
  cases v with
  | ref a =>
    cases hH : H a with
    | none => exact .inl ⟨by simp only [fcB, hH], by simp only [shB, hH]⟩
    | some o => cases o with
      | tup xs =>
        by_cases hl : xs.length = 2
        · obtain ⟨x, y, rfl⟩ : ∃ x y, xs = [x, y] := by
            match xs, hl with
            | [x, y], _ => exact ⟨x, y, rfl⟩
          have f1 : fcB H (.ref a) = fcI x y := by simp only [fcB, hH]
          have f2 : shB H (.ref a) = shI x y := by simp only [shB, hH]
          rw [f1, f2]
          cases ex : isInt x with
          | false => exact .inl ⟨fcI_l ex, shI_l ex⟩
          | true =>
            cases ey : isInt y with
            | false => exact .inl ⟨fcI_r ey, shI_r ey⟩
            | true =>
              obtain ⟨t, rfl⟩ : ∃ t, x = .int t := by
                cases x <;> first | exact ⟨_, rfl⟩ | cases ex
              obtain ⟨b, rfl⟩ : ∃ b, y = .int b := by
                cases y <;> first | exact ⟨_, rfl⟩ | cases ey
              by_cases hc : 0 < b ∧ Int.gcd t b = 1
              · exact .inr ⟨a, t, b, rfl, hH, decide_eq_true hc, hc.1, decide_eq_decide.mpr ⟨fun z => ⟨z.1, z.2.1⟩, fun z => ⟨z.1, z.2, hc.1, hc.2⟩⟩⟩
              · exact .inl ⟨decide_eq_false hc, decide_eq_false fun z => hc ⟨z.2.2.1, z.2.2.2⟩⟩
        · exact .inl ⟨fc_len hl hH, not_tup_len hl hH⟩
      | _ => exact .inl ⟨by simp only [fcB, hH], by simp only [shB, hH]⟩
  | _ => exact .inl ⟨rfl, rfl⟩
def sp_is_fraction (K : PySem.W.Frag) : Sp := fun vs H Q _ => ∃ (p : Addr) (v : V), vs = [v] ∧ Thing p H v ∧ Q (.bl (fcB H v)) H
theorem ok_is_fraction (T : Defs K mg) : FnOk P w K mg base CX0 2 T.f_is_fraction T.fd_is_fraction ["thing"] (sp_is_fraction K) := by
  have G_is_number : FnOk P w K mg base CX0 1 T.f_is_number T.fd_is_number ["thing"] (sp_is_number K) := ok_is_number T
  have G_common_divisor : FnOk P w K mg base CX0 1 T.f_common_divisor T.fd_common_divisor ["one", "other"] (sp_common_divisor K) := ok_common_divisor T
  refine T.F_is_fraction.ok sc_is_fraction (fun vs H Q E h => ?_) (fun cdv A outer s H vs Q E hr h => ?_)
  · obtain ⟨p, v, rfl, hv, q⟩ := h
    rfl
  · obtain ⟨p, v, rfl, hv, q⟩ := h
    refine ⟨_, PSs.nox (pss_cons (ps_if (PW.pt (pw_or (pt_not (pt_val (pe_callB call_isi (by rfl) T.m_isinstance bt_isinstance (pa_cons (pv 0) (pa_cons (pe_bltn (v := .ty "tuple") (by rfl) T.m_tuple bt_tuple rfl) pa_nil))))) (pw_or1 (pt_cmpR op_ne (pe_callB call_len_seq (by rfl) T.m_len bt_len (pa_cons (pv 0) pa_nil)) pe_int (nomark _))))) (pss_one (ps_ret pe_bl)) pss_nil)
    (pss_cons (ps_asg (pv 0) (pg_tup rfl (pgs_cons (pg_name (i := 1) sc_is_fraction.nd rfl (.inl rfl)) (pgs_cons (pg_name (i := 2) sc_is_fraction.nd rfl (.inl rfl)) pgs_nil))))
    (pss_cons (ps_if (PW.pt (pw_or (pt_not (pt_val (pe_call G_is_number (hr.mono (by decide)) (by rfl) T.g_is_number T.F_is_number.kp T.b_is_number .nil pass0 (pa_cons (pv 1) pa_nil)))) (pw_or1 (pt_not (pt_val (pe_call G_is_number (hr.mono (by decide)) (by rfl) T.g_is_number T.F_is_number.kp T.b_is_number .nil pass0 (pa_cons (pv 2) pa_nil))))))) (pss_one (ps_ret pe_bl)) pss_nil)
    (pss_one (ps_ret (pe_and (pe_cmpR op_gt (pv 2) pe_int (nomark _)) (pe_one (pe_cmpR op_eq (pe_call G_common_divisor (hr.mono (by decide)) (by rfl) T.g_common_divisor T.F_common_divisor.kp T.b_common_divisor .nil pass0 (pa_cons (pv 1) (pa_cons (pv 2) pa_nil))) pe_int (nomark _))))))))), ?_⟩
    obtain ⟨t, ty, _, _, kt⟩ := hv.kn.ty (K := K)
    refine ⟨v, rfl, _, _, _, _, _, rfl, .ty "tuple", ty, kt, _, rfl, ?_⟩
    refine ite2 (fun e => ?_) (fun e => ?_)
    · have e0 : isTup H v = false := by
        cases h : isTup H v with
        | false => rfl
        | true =>
          rw [h] at e
          cases e
      refine iteT ?_
      rw [fc_no e0] at q
      exact q
    · have e0 : isTup H v = true := by
        cases h : isTup H v with
        | true => rfl
        | false =>
          rw [h] at e
          exact absurd rfl e
      obtain ⟨a, xs, rfl, ha⟩ : ∃ a xs, v = .ref a ∧ H a = some (.tup xs) := by
        cases v with
        | ref a =>
          simp only [isTup] at e0
          split at e0
          · rename_i xs h
            exact ⟨a, xs, rfl, h⟩
          · cases e0
        | _ => cases e0
      have hi := hv.items a xs rfl ha
      refine ⟨.ref a, rfl, a, _, rfl, .inr (SqT.mk ha), rfl, _, rfl, ?_⟩
      refine ite2 (fun e2 => ?_) (fun e2 => ?_)
      · have l2 : xs.length ≠ 2 := fun z => by
          rw [z] at e2
          cases e2
        rw [fc_len l2 ha] at q
        exact q
      · have l2 : xs.length = 2 := by
          by_cases z : (V.int (xs.length : Nat)) = V.int 2
          · have := V.int.inj z
            omega
          · rw [decide_eq_false z] at e2
            exact absurd rfl e2
        obtain ⟨x, y, rfl⟩ : ∃ x y, xs = [x, y] := by
          match xs, l2 with
          | [x, y], _ => exact ⟨x, y, rfl⟩
        have sh : fcB H (.ref a) = fcI x y := by simp only [fcB, ha]
        rw [sh] at q
        have kx := hi x (by simp)
        have ky := hi y (by simp)
        refine ⟨.ref a, rfl, a, _, rfl, SqT.mk ha, rfl, _, _, rfl, _, _, rfl, rfl, ?_⟩
        refine ⟨x, rfl, p, x, rfl, kx, _, rfl, ?_⟩
        cases ex : isInt x with
        | false =>
          rw [fcI_l ex] at q
          exact iteT q
        | true =>
          refine iteF ?_
          refine ⟨y, rfl, p, y, rfl, ky, _, rfl, ?_⟩
          cases ey : isInt y with
          | false =>
            rw [fcI_r ey] at q
            exact iteT q
          | true =>
            refine iteF ?_
            obtain ⟨t, rfl⟩ : ∃ t, x = .int t := by
              cases x <;> first | exact ⟨_, rfl⟩ | cases ex
            obtain ⟨b, rfl⟩ : ∃ b, y = .int b := by
              cases y <;> first | exact ⟨_, rfl⟩ | cases ey
            refine ⟨.int b, rfl, _, _, rfl, rfl, _, rfl, ?_⟩
            by_cases h3 : (0 : Int) < b
            · rw [show decide (b > 0) = true from decide_eq_true h3]
              refine iteT ?_
              refine ⟨.int t, rfl, .int b, rfl, t, b, rfl, rfl, ?_⟩
              rw [gcd1 h3]
              have e5 : fcI (.int t) (.int b) = decide (Int.gcd t b = 1) := decide_eq_decide.mpr ⟨fun z => z.2, fun z => ⟨h3, z⟩⟩
              rw [e5] at q
              exact q
            · rw [show decide (b > 0) = false from decide_eq_false h3]
              refine iteF ?_
              rw [show fcI (.int t) (.int b) = false from decide_eq_false fun z => h3 z.1] at q
              exact q
def sp_is_share (K : PySem.W.Frag) : Sp := fun vs H Q _ => ∃ (p : Addr) (v : V), vs = [v] ∧ Thing p H v ∧ Q (.bl (shB H v)) H
theorem ok_is_share (T : Defs K mg) : FnOk P w K mg base CX0 3 T.f_is_share T.fd_is_share ["thing"] (sp_is_share K) := by
  have G_is_fraction : FnOk P w K mg base CX0 2 T.f_is_fraction T.fd_is_fraction ["thing"] (sp_is_fraction K) := ok_is_fraction T
  refine T.F_is_share.ok sc_is_share (fun vs H Q E h => ?_) (fun cdv A outer s H vs Q E hr h => ?_)
  · obtain ⟨p, v, rfl, hv, q⟩ := h
    rfl
  · obtain ⟨p, v, rfl, hv, q⟩ := h
    refine ⟨_, PSs.nox (pss_one (ps_ret (pe_and (pe_call G_is_fraction (hr.mono (by decide)) (by rfl) T.g_is_fraction T.F_is_fraction.kp T.b_is_fraction .nil pass0 (pa_cons (pv 0) pa_nil)) (pe_one (pe_chain op_le op_le pe_int (pe_ix ix_tup (pv 0) pe_int (fun _ _ => rfl)) (pe_ix ix_tup (pv 0) pe_int (fun _ _ => rfl))))))), ?_⟩
    refine ⟨v, rfl, p, v, rfl, hv, _, rfl, ?_⟩
    rcases fc_sh (H := H) (v := v) with ⟨e1, e2⟩ | ⟨a, t, b, rfl, ha, e1, hb, e2⟩
    · rw [e1]
      refine iteF ?_
      rw [e2] at q
      exact q
    · rw [e1]
      refine iteT ?_
      rw [e2] at q
      refine ⟨.ref a, rfl, a, _, 0, _, rfl, rfl, SqT.mk ha, atI_nat (j := 0) rfl, _, _, rfl, rfl, _, rfl, ?_⟩
      by_cases h1 : (0 : Int) ≤ t
      · rw [decide_eq_true h1]
        refine iteT ?_
        refine ⟨.ref a, rfl, a, _, 1, _, rfl, rfl, SqT.mk ha, atI_nat (j := 1) rfl, _, _, rfl, rfl, ?_⟩
        rw [show decide (0 ≤ t ∧ t ≤ b) = decide (t ≤ b) from decide_eq_decide.mpr ⟨fun z => z.2, fun z => ⟨h1, z⟩⟩] at q
        exact q
      · rw [decide_eq_false h1]
        refine iteF ?_
        rw [show decide (0 ≤ t ∧ t ≤ b) = false from decide_eq_false fun z => h1 z.1] at q
        exact q
/-! the law's own look -/
def sp__law_due (K : PySem.W.Frag) : Sp := fun vs H Q _ => ∃ (p : Addr) (v : V), vs = [v] ∧ Thing p H v ∧ Q (.bl (shB H v)) H
theorem no_tup {H : Hp} {v : V} (e0 : isTup H v = false) : shB H v = false := by
  cases v with
  | ref a =>
    cases hH : H a with
    | none => simp only [shB, hH]
    | some o => cases o with
      | tup xs =>
        simp only [isTup, hH] at e0
        cases e0
      | _ => simp only [shB, hH]
  | _ => rfl
theorem is_tup {H : Hp} {v : V} (e0 : isTup H v = true) : ∃ a xs, v = .ref a ∧ H a = some (.tup xs) := by
  cases v with
  | ref a =>
    simp only [isTup] at e0
    split at e0
    · rename_i xs h
      exact ⟨a, xs, rfl, h⟩
    · cases e0
  | _ => cases e0
theorem is_int {x : V} (ex : isInt x = true) : ∃ t, x = .int t := by
  cases x <;> first | exact ⟨_, rfl⟩ | cases ex
theorem ok__law_due (T : Defs K mg) : FnOk P w K mg base CX0 2 T.f__law_due T.fd__law_due ["_law_thing"] (sp__law_due K) := by
  have G__law_divisor : FnOk P w K mg base CX0 1 T.f__law_divisor T.fd__law_divisor ["_law_one", "_law_other"] (sp__law_divisor K) := ok__law_divisor T
  refine T.F__law_due.ok sc__law_due (fun vs H Q E h => ?_) (fun cdv A outer s H vs Q E hr h => ?_)
  · obtain ⟨p, v, rfl, hv, q⟩ := h
    rfl
  · obtain ⟨p, v, rfl, hv, q⟩ := h
    refine ⟨_, PSs.nox (pss_cons (ps_if (PW.pt (pw_or (pt_not (pt_val (pe_callB call_isi (by rfl) T.m_isinstance bt_isinstance (pa_cons (pv 0) (pa_cons (pe_bltn (v := .ty "tuple") (by rfl) T.m_tuple bt_tuple rfl) pa_nil))))) (pw_or1 (pt_cmpR op_ne (pe_callB call_len_seq (by rfl) T.m_len bt_len (pa_cons (pv 0) pa_nil)) pe_int (nomark _))))) (pss_one (ps_ret pe_bl)) pss_nil)
    (pss_cons (ps_for PassesOwn.never rfl (pi_tup (pv 0)) (pg_name (i := 1) sc__law_due.nd rfl (.inl rfl)) (pss_one (ps_if (PW.pt (pw_or (pt_not (pt_val (pe_callB call_isi (by rfl) T.m_isinstance bt_isinstance (pa_cons (pv 1) (pa_cons (pe_bltn (v := .ty "int") (by rfl) T.m_int bt_int rfl) pa_nil))))) (pw_or1 (pt_val (pe_callB call_isi (by rfl) T.m_isinstance bt_isinstance (pa_cons (pv 1) (pa_cons (pe_bltn (v := .ty "bool") (by rfl) T.m_bool bt_bool rfl) pa_nil))))))) (pss_one (ps_ret pe_bl)) pss_nil)))
    (pss_one (ps_ret (pe_and (pe_cmpR op_gt (pe_ix ix_tup (pv 0) pe_int (fun _ _ => rfl)) pe_int (nomark _)) (pe_and (pe_chain op_le op_le pe_int (pe_ix ix_tup (pv 0) pe_int (fun _ _ => rfl)) (pe_ix ix_tup (pv 0) pe_int (fun _ _ => rfl))) (pe_one (pe_cmpR op_eq (pe_call G__law_divisor (hr.mono (by decide)) (by rfl) T.g__law_divisor T.F__law_divisor.kp T.b__law_divisor .nil pass0 (pa_cons (pe_ix ix_tup (pv 0) pe_int (fun _ _ => rfl)) (pa_cons (pe_ix ix_tup (pv 0) pe_int (fun _ _ => rfl)) pa_nil))) pe_int (nomark _))))))))), ?_⟩
    obtain ⟨t, ty, _, _, kt⟩ := hv.kn.ty (K := K)
    refine ⟨v, rfl, _, _, _, _, _, rfl, .ty "tuple", ty, kt, _, rfl, ?_⟩
    cases e0 : isTup H v with
    | false =>
      refine iteT ?_
      rw [no_tup e0] at q
      exact iteT q
    | true =>
      refine iteF ?_
      obtain ⟨a, xs, rfl, ha⟩ := is_tup e0
      have hi := hv.items a xs rfl ha
      refine ⟨.ref a, rfl, a, _, rfl, .inr (SqT.mk ha), rfl, _, rfl, ?_⟩
      refine ite2 (fun e2 => ?_) (fun e2 => ?_)
      · have l2 : xs.length ≠ 2 := fun z => by
          rw [z] at e2
          cases e2
        rw [not_tup_len l2 ha] at q
        exact q
      · have l2 : xs.length = 2 := by
          by_cases z : (V.int (xs.length : Nat)) = V.int 2
          · have := V.int.inj z
            omega
          · rw [decide_eq_false z] at e2
            exact absurd rfl e2
        obtain ⟨x, y, rfl⟩ : ∃ x y, xs = [x, y] := by
          match xs, l2 with
          | [x, y], _ => exact ⟨x, y, rfl⟩
        have sh : shB H (.ref a) = shI x y := by simp only [shB, ha]
        rw [sh] at q
        have SP : SqT K H a [x, y] := SqT.mk ha
        refine ⟨.ref a, rfl, a, rfl, ⟨_, SP⟩, for_tup (xs := [x, y]) (fun i σ H1 => H1 = H ∧ ∃ y1, σ = [some (.ref a), y1] ∧ (1 ≤ i → isInt x = true) ∧ (2 ≤ i → isInt y = true)) ⟨rfl, none, rfl, fun z => by omega, fun z => by omega⟩ ?_ ?_ ?_⟩
        · rintro i σ H1 _ ⟨rfl, _⟩
          exact SP
        · rintro i z σ H1 hz ⟨rfl, y1, rfl, c1, c2⟩
          have kz := hi z (List.mem_of_getElem? hz)
          obtain ⟨t, ty, ki, kb, _⟩ := kz.ty (K := K)
          have hb : isInt z = false → shI x y = false := fun ez => by
            match i, hz with
            | 0, hz =>
              cases hz
              exact shI_l ez
            | 1, hz =>
              cases hz
              exact shI_r ez
          have hg : isInt z = true → (1 ≤ i + 1 → isInt x = true) ∧ (2 ≤ i + 1 → isInt y = true) := fun ez => by
            match i, hz with
            | 0, hz =>
              cases hz
              exact ⟨fun _ => ez, fun z => by omega⟩
            | 1, hz =>
              cases hz
              exact ⟨fun _ => c1 (by omega), fun _ => ez⟩
          refine ⟨z, rfl, _, _, _, _, _, rfl, .ty "int", ty, ki, _, rfl, ?_⟩
          refine ite2 (fun e => ?_) (fun e => ?_)
          · have ez : isInt z = false := by
              cases z <;> first | rfl | cases e
            rw [hb ez] at q
            exact iteT q
          · refine ⟨z, rfl, _, _, _, _, _, rfl, .ty "bool", ty, kb, _, rfl, ?_⟩
            refine ite2 (fun e2 => ?_) (fun e2 => ?_)
            · have ez : isInt z = false := by
                cases z <;> first | rfl | cases e2
              rw [hb ez] at q
              exact q
            · have ez : isInt z = true := by
                cases z <;> first | rfl | exact absurd rfl e | exact absurd rfl e2
              exact ⟨rfl, _, rfl, hg ez⟩
        · rintro σ H1 ⟨rfl, y1, rfl, c1, c2⟩
          obtain ⟨t, rfl⟩ := is_int (c1 (show 1 ≤ 2 by decide))
          obtain ⟨b, rfl⟩ := is_int (c2 (show 2 ≤ 2 by decide))
          refine ⟨.ref a, rfl, a, _, 1, _, rfl, rfl, SP, atI_nat (j := 1) rfl, _, _, rfl, rfl, _, rfl, ?_⟩
          by_cases h3 : (0 : Int) < b
          · rw [show decide (0 < b) = true from decide_eq_true h3]
            refine iteT ?_
            refine ⟨.ref a, rfl, a, _, 0, _, rfl, rfl, SP, atI_nat (j := 0) rfl, _, _, rfl, rfl, _, rfl, ?_⟩
            by_cases h1 : (0 : Int) ≤ t
            · rw [decide_eq_true h1]
              refine iteT ?_
              refine ⟨.ref a, rfl, a, _, 1, _, rfl, rfl, SP, atI_nat (j := 1) rfl, _, _, rfl, rfl, _, rfl, ?_⟩
              by_cases h2 : t ≤ b
              · rw [decide_eq_true h2]
                refine iteT ?_
                refine ⟨.ref a, rfl, a, _, 0, _, rfl, rfl, SP, atI_nat (j := 0) rfl, .ref a, rfl, a, _, 1, _, rfl, rfl, SP, atI_nat (j := 1) rfl, t, b, rfl, rfl, ?_⟩
                rw [gcd2]
                have e5 : shI (.int t) (.int b) = decide (Int.gcd t b = 1) := decide_eq_decide.mpr ⟨fun z => z.2.2.2, fun z => ⟨h1, h2, h3, z⟩⟩
                rw [e5] at q
                exact q
              · rw [decide_eq_false h2]
                refine iteF ?_
                rw [show shI (.int t) (.int b) = false from decide_eq_false fun z => h2 z.2.1] at q
                exact q
            · rw [decide_eq_false h1]
              refine iteF ?_
              rw [show shI (.int t) (.int b) = false from decide_eq_false fun z => h1 z.1] at q
              exact ⟨_, rfl, iteF q⟩
          · rw [show decide (0 < b) = false from decide_eq_false h3]
            refine iteF ?_
            rw [show shI (.int t) (.int b) = false from decide_eq_false fun z => h3 z.2.2.1] at q
            exact q
theorem at_vals {Pr : V → Prop} {xs : List V} {r : Int} (h0 : 0 ≤ r) (h1 : r < xs.length) (hx : ∀ x, x ∈ xs → Pr x) : ∃ v, atI xs r = some v ∧ Pr v := by
  obtain ⟨j, rfl⟩ := Int.eq_ofNat_of_zero_le h0
  have hj : j < xs.length := by omega
  exact ⟨xs[j], atI_nat (List.getElem?_eq_getElem hj), hx _ (List.getElem_mem hj)⟩
theorem ne_new {H : Hp} {p q : Addr} {n : Nat} (B : Bx H p n) (nq : H q = none) : q ≠ p := fun e => by
  obtain ⟨_, _, _, hp, _⟩ := B
  rw [e, hp] at nq
  cases nq
theorem all_cons {Pr : V → Prop} {x : V} {xs : List V} (h : Pr x) (t : ∀ y, y ∈ xs → Pr y) : ∀ y, y ∈ x :: xs → Pr y := fun y hy => by
  rcases List.mem_cons.mp hy with rfl | hy
  · exact h
  · exact t y hy
theorem all_nil {Pr : V → Prop} : ∀ y, y ∈ ([] : List V) → Pr y := fun y hy => by cases hy
/-- odd things -/
def sp__law_odd (_ : PySem.W.Frag) : Sp := fun vs H Q _ => ∃ (p : Addr) (n : Nat), vs = [.ref p] ∧ Bx H p n ∧ n < 100000000000 ∧
  ∀ H' v, But p H H' → Bx H' p (n + 1) → Thing p H' v → Q v H'
theorem ok__law_odd (T : Defs K mg) : FnOk P w K mg base CX0 2 T.f__law_odd T.fd__law_odd ["_law_box_here"] (sp__law_odd K) := by
  have G__law_take : FnOk P w K mg base CX0 1 T.f__law_take T.fd__law_take ["_law_box_here", "_law_many"] (sp__law_take K) := ok__law_take T
  refine T.F__law_odd.ok sc__law_odd (fun vs H Q E h => ?_) (fun cdv A outer s H vs Q E hr h => ?_)
  · obtain ⟨p, n, rfl, hB, hn, q⟩ := h
    rfl
  · obtain ⟨p, n, rfl, hB, hn, q⟩ := h
    refine ⟨_, PSs.nox (pss_cons (ps_set (i := 1) sc__law_odd.nd rfl (.inl rfl) (pe_lst (pa_cons pe_non (pa_cons pe_bl (pa_cons pe_bl (pa_cons pe_int (pa_cons pe_int (pa_cons (pe_un un_neg pe_int) (pa_cons pe_int (pa_cons (pe_op op_pow pe_int pe_int) (pa_cons pe_str (pa_cons pe_str (pa_cons (pe_tup pa_nil) (pa_cons (pe_lst pa_nil) (pa_cons (pe_tup (pa_cons pe_int pa_nil)) (pa_cons (pe_tup (pa_cons pe_int pa_nil)) (pa_cons (pe_lst (pa_cons pe_int (pa_cons pe_int pa_nil))) pa_nil)))))))))))))))))
    (pss_one (ps_ret (pe_ix ix_list (pv 1) (pe_call G__law_take (hr.mono (by decide)) (by rfl) T.g__law_take T.F__law_take.kp T.b__law_take .nil pass0 (pa_cons (pv 0) (pa_cons (pe_callB call_len_seq (by rfl) T.m_len bt_len (pa_cons (pv 1) pa_nil)) pa_nil))) (fun _ _ => rfl))))), ?_⟩
    refine ⟨1, rfl, _, _, rfl, rfl, ⟨by decide, by decide, by decide⟩, (show 0 ≤ sizeLine by decide), fun e1 n1 => ?_⟩
    refine ⟨(show 0 ≤ sizeLine by decide), fun e2 n2 => ?_⟩
    refine ⟨(show 1 ≤ sizeLine by decide), fun e3 n3 => ?_⟩
    refine ⟨(show 1 ≤ sizeLine by decide), fun e4 n4 => ?_⟩
    refine ⟨(show 2 ≤ sizeLine by decide), fun e5 n5 => ?_⟩
    refine ⟨(show 15 ≤ sizeLine by decide), fun e6 n6 => ?_⟩
    have B1 := hB.new (o := .tup []) n1
    have B2 := B1.new (o := .lst []) n2
    have B3 := B2.new (o := .tup [.int 1]) n3
    have B4 := B3.new (o := .tup [.int 0]) n4
    have B5 := B4.new (o := .lst [.int 1, .int 2]) n5
    have u1 : Thing p (upd H e1 (.tup [])) (.ref e1) := .mkTup (ne_new hB n1) upd_same all_nil
    have u2 : Thing p (upd (upd H e1 (.tup [])) e2 (.lst [])) (.ref e2) := .mkLst (ne_new B1 n2) upd_same
    have u3 : Thing p (upd (upd (upd H e1 (.tup [])) e2 (.lst [])) e3 (.tup [.int 1])) (.ref e3) := .mkTup (ne_new B2 n3) upd_same (all_cons (.int 1) all_nil)
    have u4 : Thing p (upd (upd (upd (upd H e1 (.tup [])) e2 (.lst [])) e3 (.tup [.int 1])) e4 (.tup [.int 0])) (.ref e4) := .mkTup (ne_new B3 n4) upd_same (all_cons (.int 0) all_nil)
    have u5 : Thing p (upd (upd (upd (upd (upd H e1 (.tup [])) e2 (.lst [])) e3 (.tup [.int 1])) e4 (.tup [.int 0])) e5 (.lst [.int 1, .int 2])) (.ref e5) := .mkLst (ne_new B4 n5) upd_same
    have c2 := (But.refl p (upd H e1 (.tup []))).new (o := .lst []) n2
    have c3 := (But.refl p _).new (o := .tup [.int 1]) n3
    have c4 := (But.refl p _).new (o := .tup [.int 0]) n4
    have c5 := (But.refl p _).new (o := .lst [.int 1, .int 2]) n5
    have c1 := (But.refl p H).new (o := .tup []) n1
    have v1 := (((u1.but c2).but c3).but c4).but c5
    have v2 := ((u2.but c3).but c4).but c5
    have v3 := (u3.but c4).but c5
    have v4 := u4.but c5
    have c15 := (((c1.trans c2).trans c3).trans c4).trans c5
    generalize upd (upd (upd (upd (upd H e1 (.tup [])) e2 (.lst [])) e3 (.tup [.int 1])) e4 (.tup [.int 0])) e5 (.lst [.int 1, .int 2]) = H5 at *
    have c6 := (But.refl p H5).new (o := .lst [.non, .bl true, .bl false, .int 0, .int 1, .int (-1), .int 2, .int (10 ^ (20 : Int).toNat), .str "", .str "1/2", .ref e1, .ref e2, .ref e3, .ref e4, .ref e5]) n6
    have B6 := B5.new (o := .lst [.non, .bl true, .bl false, .int 0, .int 1, .int (-1), .int 2, .int (10 ^ (20 : Int).toNat), .str "", .str "1/2", .ref e1, .ref e2, .ref e3, .ref e4, .ref e5]) n6
    refine ⟨.ref e6, rfl, .ref p, rfl, .ref e6, rfl, e6, _, rfl, .inl (SqL.mk upd_same), ?_⟩
    refine ⟨p, 15, n, rfl, B6, by decide, by decide, by omega, fun H7 r b7 B7 l7 r7 => ?_⟩
    obtain ⟨v, ev, tv⟩ := at_vals (Pr := Thing p H7) (xs := [.non, .bl true, .bl false, .int 0, .int 1, .int (-1), .int 2, .int (10 ^ (20 : Int).toNat), .str "", .str "1/2", .ref e1, .ref e2, .ref e3, .ref e4, .ref e5]) l7 r7
      (all_cons .nnon (all_cons (.nbl _) (all_cons (.nbl _) (all_cons (.nint _) (all_cons (.nint _) (all_cons (.nint _) (all_cons (.nint _) (all_cons (.nint _) (all_cons (.nstr _) (all_cons (.nstr _) (all_cons ((v1.but c6).but b7) (all_cons ((v2.but c6).but b7) (all_cons ((v3.but c6).but b7) (all_cons ((v4.but c6).but b7) (all_cons ((u5.but c6).but b7) all_nil)))))))))))))))
    exact ⟨e6, _, _, _, rfl, rfl, SqL.mk (b7 _ _ (ne_new B5 n6) upd_same), ev, q _ _ ((c15.trans c6).trans b7) B7 tv⟩
/-- one step otherwise -/
def sp__law_otherwise (_ : PySem.W.Frag) : Sp := fun vs H Q _ => ∃ (p a : Addr) (n : Nat) (t b : Int), vs = [.ref p, .ref a] ∧ H a = some (.tup [.int t, .int b]) ∧ Bx H p n ∧ n < 10000000000 ∧
  ∀ H' v, But p H H' → Bx H' p (n + 4) → Thing p H' v → Q v H'
theorem Thing.tup2 {p : Addr} {H : Hp} {a : Addr} {n : Nat} {xs : List V} (B : Bx H p n) (na : H a = none) (hx : ∀ x, x ∈ xs → Kn p H x) : Thing p (upd H a (.tup xs)) (.ref a) :=
  .mkTup (ne_new B na) upd_same fun x h => (hx x h).but ((But.refl p H).new na)
theorem ok__law_otherwise (T : Defs K mg) : FnOk P w K mg base CX0 3 T.f__law_otherwise T.fd__law_otherwise ["_law_box_here", "_law_share"] (sp__law_otherwise K) := by
  have G__law_take : FnOk P w K mg base CX0 1 T.f__law_take T.fd__law_take ["_law_box_here", "_law_many"] (sp__law_take K) := ok__law_take T
  have G__law_odd : FnOk P w K mg base CX0 2 T.f__law_odd T.fd__law_odd ["_law_box_here"] (sp__law_odd K) := ok__law_odd T
  refine T.F__law_otherwise.ok sc__law_otherwise (fun vs H Q E h => ?_) (fun cdv A outer s H vs Q E hr h => ?_)
  · obtain ⟨p, a, n, t, b, rfl, ha, hB, hn, q⟩ := h
    rfl
  · obtain ⟨p, a, n, t, b, rfl, ha, hB, hn, q⟩ := h
    refine ⟨_, PSs.nox (pss_cons (ps_par3 (i := 2) (j := 3) (l := 4) (by rfl) sc__law_otherwise.nd rfl rfl rfl (by decide) (by decide) (by decide) rfl rfl rfl (pa_cons (pe_call G__law_take (hr.mono (by decide)) (by rfl) T.g__law_take T.F__law_take.kp T.b__law_take .nil pass0 (pa_cons (pv 0) (pa_cons pe_int pa_nil))) (pa_cons (pe_op op_add pe_int (pe_call G__law_take (hr.mono (by decide)) (by rfl) T.g__law_take T.F__law_take.kp T.b__law_take .nil pass0 (pa_cons (pv 0) (pa_cons pe_int pa_nil)))) (pa_cons (pe_call G__law_odd (hr.mono (by decide)) (by rfl) T.g__law_odd T.F__law_odd.kp T.b__law_odd .nil pass0 (pa_cons (pv 0) pa_nil)) pa_nil))) (by rfl))
    (pss_cons (ps_asg (pv 1) (pg_tup rfl (pgs_cons (pg_name (i := 5) sc__law_otherwise.nd rfl (.inl rfl)) (pgs_cons (pg_name (i := 6) sc__law_otherwise.nd rfl (.inl rfl)) pgs_nil))))
    (pss_cons (ps_set (i := 7) sc__law_otherwise.nd rfl (.inl rfl) (pe_lst (pa_cons (pe_tup (pa_cons (pe_op op_add (pv 5) pe_int) (pa_cons (pv 6) pa_nil))) (pa_cons (pe_tup (pa_cons (pe_op op_sub (pv 5) pe_int) (pa_cons (pv 6) pa_nil))) (pa_cons (pe_tup (pa_cons (pv 5) (pa_cons (pe_op op_add (pv 6) pe_int) pa_nil))) (pa_cons (pe_tup (pa_cons (pv 5) (pa_cons (pe_op op_sub (pv 6) pe_int) pa_nil))) (pa_cons (pe_tup (pa_cons (pv 6) (pa_cons (pv 5) pa_nil))) pa_nil)))))))
    (pss_cons (ps_set (i := 7) sc__law_otherwise.nd rfl (.inl rfl) (pe_op op_cat (pv 7) (pe_lst (pa_cons (pe_tup (pa_cons (pe_op op_mul (pv 5) (pv 3)) (pa_cons (pe_op op_mul (pv 6) (pv 3)) pa_nil))) (pa_cons (pe_tup (pa_cons (pe_un un_neg (pv 5)) (pa_cons (pe_un un_neg (pv 6)) pa_nil))) (pa_cons (pe_tup (pa_cons (pe_un un_neg (pv 5)) (pa_cons (pv 6) pa_nil))) (pa_cons (pe_tup (pa_cons (pe_cmpR op_eq (pv 5) pe_int (nomark _)) (pa_cons (pv 6) pa_nil))) (pa_cons (pe_tup (pa_cons (pv 5) (pa_cons (pe_cmpR op_eq (pv 6) pe_int (nomark _)) pa_nil))) pa_nil))))))))
    (pss_cons (ps_set (i := 7) sc__law_otherwise.nd rfl (.inl rfl) (pe_op op_cat (pv 7) (pe_lst (pa_cons (pe_lst (pa_cons (pv 5) (pa_cons (pv 6) pa_nil))) (pa_cons (pe_ix ix_list (pe_lst (pa_cons (pe_tup (pa_cons (pv 4) (pa_cons (pv 6) pa_nil))) (pa_cons (pe_tup (pa_cons (pv 5) (pa_cons (pv 4) pa_nil))) (pa_cons (pe_tup (pa_cons (pv 5) (pa_cons (pv 6) (pa_cons (pv 4) pa_nil)))) (pa_cons (pe_tup (pa_cons (pv 5) pa_nil)) pa_nil))))) (pe_call G__law_take (hr.mono (by decide)) (by rfl) T.g__law_take T.F__law_take.kp T.b__law_take .nil pass0 (pa_cons (pv 0) (pa_cons pe_int pa_nil))) (fun _ _ => rfl)) pa_nil)))))
    (pss_one (ps_ret (pe_ix ix_list (pv 7) (pv 2) (fun _ _ => rfl))))))))), ?_⟩
    refine ⟨.ref p, rfl, p, 12, n, rfl, hB, by decide, by decide, by omega, fun H1 way b1 B1 l1 u1 => ?_⟩
    refine ⟨.ref p, rfl, p, 5, n + 1, rfl, B1, by decide, by decide, by omega, fun H2 r2 b2 B2 l2 u2 => ⟨_, _, rfl, rfl, ?_⟩⟩
    refine ⟨.ref p, rfl, p, n + 2, rfl, B2, by omega, fun H3 od b3 B3 tod => ⟨_, _, _, rfl, ?_⟩⟩
    have nap := hB.ne_tup ha
    have ha3 := b3 a _ nap (b2 a _ nap (b1 a _ nap ha))
    have b13 := (b1.trans b2).trans b3
    refine ⟨.ref a, rfl, a, _, rfl, SqT.mk ha3, rfl, _, _, rfl, _, _, rfl, rfl, ?_⟩
    -- five
    refine ⟨.int t, rfl, _, _, rfl, rfl, .int b, rfl, (show 2 ≤ sizeLine by decide), fun c1 n1 => ?_⟩
    refine ⟨.int t, rfl, _, _, rfl, rfl, .int b, rfl, (show 2 ≤ sizeLine by decide), fun c2 n2 => ?_⟩
    refine ⟨.int t, rfl, .int b, rfl, _, _, rfl, rfl, (show 2 ≤ sizeLine by decide), fun c3 n3 => ?_⟩
    refine ⟨.int t, rfl, .int b, rfl, _, _, rfl, rfl, (show 2 ≤ sizeLine by decide), fun c4 n4 => ?_⟩
    refine ⟨.int b, rfl, .int t, rfl, (show 2 ≤ sizeLine by decide), fun c5 n5 => ?_⟩
    refine ⟨(show 5 ≤ sizeLine by decide), fun c6 n6 => ?_⟩
    have T1 := Thing.tup2 (xs := [.int (t + 1), .int b]) B3 n1 (all_cons (.int _) (all_cons (.int _) all_nil))
    have B4 := B3.new (o := .tup [.int (t + 1), .int b]) n1
    have d1 := (But.refl p H3).new (o := .tup [.int (t + 1), .int b]) n1
    generalize upd H3 c1 (.tup [.int (t + 1), .int b]) = G1 at *
    have T2 := Thing.tup2 (xs := [.int (t - 1), .int b]) B4 n2 (all_cons (.int _) (all_cons (.int _) all_nil))
    have B5 := B4.new (o := .tup [.int (t - 1), .int b]) n2
    have d2 := (But.refl p G1).new (o := .tup [.int (t - 1), .int b]) n2
    generalize upd G1 c2 (.tup [.int (t - 1), .int b]) = G2 at *
    have T3 := Thing.tup2 (xs := [.int t, .int (b + 1)]) B5 n3 (all_cons (.int _) (all_cons (.int _) all_nil))
    have B6 := B5.new (o := .tup [.int t, .int (b + 1)]) n3
    have d3 := (But.refl p G2).new (o := .tup [.int t, .int (b + 1)]) n3
    generalize upd G2 c3 (.tup [.int t, .int (b + 1)]) = G3 at *
    have T4 := Thing.tup2 (xs := [.int t, .int (b - 1)]) B6 n4 (all_cons (.int _) (all_cons (.int _) all_nil))
    have B7 := B6.new (o := .tup [.int t, .int (b - 1)]) n4
    have d4 := (But.refl p G3).new (o := .tup [.int t, .int (b - 1)]) n4
    generalize upd G3 c4 (.tup [.int t, .int (b - 1)]) = G4 at *
    have T5 := Thing.tup2 (xs := [.int b, .int t]) B7 n5 (all_cons (.int _) (all_cons (.int _) all_nil))
    have B8 := B7.new (o := .tup [.int b, .int t]) n5
    have d5 := (But.refl p G4).new (o := .tup [.int b, .int t]) n5
    generalize upd G4 c5 (.tup [.int b, .int t]) = G5 at *
    have d15 := (((d1.trans d2).trans d3).trans d4).trans d5
    have A5 : ∀ x, x ∈ [V.ref c1, .ref c2, .ref c3, .ref c4, .ref c5] → Thing p G5 x := all_cons ((((T1.but d2).but d3).but d4).but d5) (all_cons (((T2.but d3).but d4).but d5) (all_cons ((T3.but d4).but d5) (all_cons (T4.but d5) (all_cons T5 all_nil))))
    have B9 := B8.new (o := .lst [V.ref c1, .ref c2, .ref c3, .ref c4, .ref c5]) n6
    have d6 := (But.refl p G5).new (o := .lst [V.ref c1, .ref c2, .ref c3, .ref c4, .ref c5]) n6
    have h6 : (upd G5 c6 (.lst [V.ref c1, .ref c2, .ref c3, .ref c4, .ref c5])) c6 = _ := upd_same
    have A6 := fun x hx => (A5 x hx).but d6
    have m6 := ne_new B8 n6
    have e36 := d15.trans d6
    clear A5 T1 T2 T3 T4 T5 d1 d2 d3 d4 d5 d15 n1 n2 n3 n4 n5 B4 B5 B6 B7
    generalize upd G5 c6 (.lst [V.ref c1, .ref c2, .ref c3, .ref c4, .ref c5]) = G6 at *
    clear n6 B8 d6
    -- five more
    have sby : -(2 ^ 64) < 2 + r2 ∧ 2 + r2 < 2 ^ 64 := ⟨by omega, by omega⟩
    refine ⟨.ref c6, rfl, .int t, rfl, _, rfl, _, _, rfl, rfl, .inr sby, .int b, rfl, _, rfl, _, _, rfl, rfl, .inr sby, (show 2 ≤ sizeLine by decide), fun c7 n7 => ?_⟩
    refine ⟨.int t, rfl, t, rfl, .int b, rfl, b, rfl, (show 2 ≤ sizeLine by decide), fun c8 n8 => ?_⟩
    refine ⟨.int t, rfl, t, rfl, .int b, rfl, (show 2 ≤ sizeLine by decide), fun c9 n9 => ?_⟩
    refine ⟨.int t, rfl, rfl, .int b, rfl, (show 2 ≤ sizeLine by decide), fun c10 n10 => ?_⟩
    refine ⟨.int t, rfl, .int b, rfl, rfl, (show 2 ≤ sizeLine by decide), fun c11 n11 => ?_⟩
    refine ⟨(show 5 ≤ sizeLine by decide), fun c12 n12 => ?_⟩
    have T1 := Thing.tup2 (xs := [.int (t * (2 + r2)), .int (b * (2 + r2))]) B9 n7 (all_cons (.int _) (all_cons (.int _) all_nil))
    have B4 := B9.new (o := .tup [.int (t * (2 + r2)), .int (b * (2 + r2))]) n7
    have d1 := (But.refl p G6).new (o := .tup [.int (t * (2 + r2)), .int (b * (2 + r2))]) n7
    generalize upd G6 c7 (.tup [.int (t * (2 + r2)), .int (b * (2 + r2))]) = G1 at *
    have T2 := Thing.tup2 (xs := [.int (-t), .int (-b)]) B4 n8 (all_cons (.int _) (all_cons (.int _) all_nil))
    have B5 := B4.new (o := .tup [.int (-t), .int (-b)]) n8
    have d2 := (But.refl p G1).new (o := .tup [.int (-t), .int (-b)]) n8
    generalize upd G1 c8 (.tup [.int (-t), .int (-b)]) = G2 at *
    have T3 := Thing.tup2 (xs := [.int (-t), .int b]) B5 n9 (all_cons (.int _) (all_cons (.int _) all_nil))
    have B6 := B5.new (o := .tup [.int (-t), .int b]) n9
    have d3 := (But.refl p G2).new (o := .tup [.int (-t), .int b]) n9
    generalize upd G2 c9 (.tup [.int (-t), .int b]) = G3 at *
    have T4 := Thing.tup2 (xs := [.bl (decide (V.int t = V.int 1)), .int b]) B6 n10 (all_cons (.bl _) (all_cons (.int _) all_nil))
    have B7 := B6.new (o := .tup [.bl (decide (V.int t = V.int 1)), .int b]) n10
    have d4 := (But.refl p G3).new (o := .tup [.bl (decide (V.int t = V.int 1)), .int b]) n10
    generalize upd G3 c10 (.tup [.bl (decide (V.int t = V.int 1)), .int b]) = G4 at *
    have T5 := Thing.tup2 (xs := [.int t, .bl (decide (V.int b = V.int 1))]) B7 n11 (all_cons (.int _) (all_cons (.bl _) all_nil))
    have B8 := B7.new (o := .tup [.int t, .bl (decide (V.int b = V.int 1))]) n11
    have d5 := (But.refl p G4).new (o := .tup [.int t, .bl (decide (V.int b = V.int 1))]) n11
    generalize upd G4 c11 (.tup [.int t, .bl (decide (V.int b = V.int 1))]) = G5 at *
    have d15 := (((d1.trans d2).trans d3).trans d4).trans d5
    have A5 : ∀ x, x ∈ [V.ref c7, .ref c8, .ref c9, .ref c10, .ref c11] → Thing p G5 x := all_cons ((((T1.but d2).but d3).but d4).but d5) (all_cons (((T2.but d3).but d4).but d5) (all_cons ((T3.but d4).but d5) (all_cons (T4.but d5) (all_cons T5 all_nil))))
    have B10 := B8.new (o := .lst [V.ref c7, .ref c8, .ref c9, .ref c10, .ref c11]) n12
    have d6 := (But.refl p G5).new (o := .lst [V.ref c7, .ref c8, .ref c9, .ref c10, .ref c11]) n12
    have h12 : (upd G5 c12 (.lst [V.ref c7, .ref c8, .ref c9, .ref c10, .ref c11])) c12 = _ := upd_same
    have h6b := (d15.trans d6) _ _ m6 h6
    refine ⟨c6, c12, _, _, rfl, rfl, h6b, h12, (show 5 + 5 ≤ sizeLine by decide), fun c13 n13 => ?_⟩
    have A12 : ∀ x, x ∈ [V.ref c1, .ref c2, .ref c3, .ref c4, .ref c5] ++ [V.ref c7, .ref c8, .ref c9, .ref c10, .ref c11] → Thing p (upd G5 c12 (.lst [V.ref c7, .ref c8, .ref c9, .ref c10, .ref c11])) x := fun x hx => by
      rcases List.mem_append.mp hx with hx | hx
      · exact (A6 x hx).but (d15.trans d6)
      · exact (A5 x hx).but d6
    have e312 := e36.trans (d15.trans d6)
    clear A5 A6 T1 T2 T3 T4 T5 d1 d2 d3 d4 d5 d15 n7 n8 n9 n10 n11 B4 B5 B6 B7 h6 h6b h12 e36
    generalize upd G5 c12 (.lst [V.ref c7, .ref c8, .ref c9, .ref c10, .ref c11]) = G7 at *
    clear d6 n12 B8 B9
    generalize hL : [V.ref c1, .ref c2, .ref c3, .ref c4, .ref c5] ++ [V.ref c7, .ref c8, .ref c9, .ref c10, .ref c11] = L10 at *
    have lL : L10.length = 10 := by rw [← hL]; rfl
    have B11 := B10.new (o := .lst L10) n13
    have d7 := (But.refl p G7).new (o := .lst L10) n13
    have h13 : (upd G7 c13 (.lst L10)) c13 = _ := upd_same
    have A13 := fun x hx => (A12 x hx).but d7
    have m13 := ne_new B10 n13
    have e313 := e312.trans d7
    clear A12 e312 hL
    generalize upd G7 c13 (.lst L10) = G8 at *
    clear d7 n13 B10
    -- two more
    have k3 : Kn p G8 od := tod.kn.but e313
    refine ⟨.ref c13, rfl, .int t, rfl, .int b, rfl, (show 2 ≤ sizeLine by decide), fun f1 n1 => ?_⟩
    have T1 : Thing p (upd G8 f1 (.lst [.int t, .int b])) (.ref f1) := .mkLst (ne_new B11 n1) upd_same
    have B4 := B11.new (o := .lst [.int t, .int b]) n1
    have d1 := (But.refl p G8).new (o := .lst [.int t, .int b]) n1
    generalize upd G8 f1 (.lst [.int t, .int b]) = G1 at *
    refine ⟨_, rfl, .int b, rfl, (show 2 ≤ sizeLine by decide), fun f2 n2 => ?_⟩
    have T2 := Thing.tup2 (xs := [od, .int b]) B4 n2 (all_cons (k3.but d1) (all_cons (.int _) all_nil))
    have B5 := B4.new (o := .tup [od, .int b]) n2
    have d2 := (But.refl p G1).new (o := .tup [od, .int b]) n2
    generalize upd G1 f2 (.tup [od, .int b]) = G2 at *
    refine ⟨.int t, rfl, _, rfl, (show 2 ≤ sizeLine by decide), fun f3 n3 => ?_⟩
    have T3 := Thing.tup2 (xs := [.int t, od]) B5 n3 (all_cons (.int _) (all_cons (k3.but (d1.trans d2)) all_nil))
    have B6 := B5.new (o := .tup [.int t, od]) n3
    have d3 := (But.refl p G2).new (o := .tup [.int t, od]) n3
    generalize upd G2 f3 (.tup [.int t, od]) = G3 at *
    refine ⟨.int t, rfl, .int b, rfl, _, rfl, (show 3 ≤ sizeLine by decide), fun f4 n4 => ?_⟩
    have T4 := Thing.tup2 (xs := [.int t, .int b, od]) B6 n4 (all_cons (.int _) (all_cons (.int _) (all_cons (k3.but ((d1.trans d2).trans d3)) all_nil)))
    have B7 := B6.new (o := .tup [.int t, .int b, od]) n4
    have d4 := (But.refl p G3).new (o := .tup [.int t, .int b, od]) n4
    generalize upd G3 f4 (.tup [.int t, .int b, od]) = G4 at *
    refine ⟨.int t, rfl, (show 1 ≤ sizeLine by decide), fun f5 n5 => ?_⟩
    have T5 := Thing.tup2 (xs := [.int t]) B7 n5 (all_cons (.int _) all_nil)
    have B8 := B7.new (o := .tup [.int t]) n5
    have d5 := (But.refl p G4).new (o := .tup [.int t]) n5
    generalize upd G4 f5 (.tup [.int t]) = G5 at *
    refine ⟨(show 4 ≤ sizeLine by decide), fun f6 n6 => ?_⟩
    have B9 := B8.new (o := .lst [.ref f2, .ref f3, .ref f4, .ref f5]) n6
    have d6 := (But.refl p G5).new (o := .lst [.ref f2, .ref f3, .ref f4, .ref f5]) n6
    have h6 : (upd G5 f6 (.lst [.ref f2, .ref f3, .ref f4, .ref f5])) f6 = _ := upd_same
    generalize upd G5 f6 (.lst [.ref f2, .ref f3, .ref f4, .ref f5]) = G6 at *
    refine ⟨.ref p, rfl, p, 4, n + 3, rfl, B9, by decide, by decide, by omega, fun G9 r9 b9 B12 l9 u9 => ?_⟩
    have A4 : ∀ x, x ∈ [V.ref f2, .ref f3, .ref f4, .ref f5] → Thing p G9 x := all_cons (((((T2.but d3).but d4).but d5).but d6).but b9) (all_cons ((((T3.but d4).but d5).but d6).but b9) (all_cons (((T4.but d5).but d6).but b9) (all_cons ((T5.but d6).but b9) all_nil)))
    obtain ⟨w1, ew, tw⟩ := at_vals (Pr := Thing p G9) (xs := [V.ref f2, .ref f3, .ref f4, .ref f5]) l9 u9 A4
    refine ⟨f6, _, _, _, rfl, rfl, SqL.mk (b9 _ _ (ne_new B8 n6) h6), ew, (show 2 ≤ sizeLine by decide), fun g1 m1 => ?_⟩
    have d16 := ((((d1.trans d2).trans d3).trans d4).trans d5).trans (d6.trans b9)
    have d10 := (But.refl p G9).new (o := .lst [.ref f1, w1]) m1
    have B13 := B12.new (o := .lst [.ref f1, w1]) m1
    refine ⟨c13, g1, _, _, rfl, rfl, (d16.trans d10) _ _ m13 h13, upd_same, (show L10.length + 2 ≤ sizeLine by rw [lL]; decide), fun g2 m2 => ?_⟩
    have d11 := (But.refl p _).new (o := .lst (L10 ++ [.ref f1, w1])) m2
    refine ⟨.ref g2, rfl, _, rfl, ?_⟩
    obtain ⟨v, ev, tv⟩ := at_vals (Pr := Thing p (upd (upd G9 g1 (.lst [.ref f1, w1])) g2 (.lst (L10 ++ [.ref f1, w1])))) (xs := L10 ++ [.ref f1, w1]) l1 (by rw [List.length_append, lL]; exact u1) (fun x hx => by
      rcases List.mem_append.mp hx with hx | hx
      · exact (A13 x hx).but ((d16.trans d10).trans d11)
      · exact all_cons ((T1.but (((((d2.trans d3).trans d4).trans d5).trans (d6.trans b9)))).but (d10.trans d11)) (all_cons (tw.but (d10.trans d11)) all_nil) x hx)
    refine ⟨g2, _, _, _, rfl, rfl, SqL.mk upd_same, ev, ?_⟩
    exact q _ _ ((b13.trans e313).trans ((d16.trans d10).trans d11)) (B13.new m2) tv
theorem fr_share {t b : Int} (hb : 0 < b) (h0 : 0 ≤ t) (h1 : t ≤ b) : 0 ≤ frT t b ∧ frT t b ≤ frB t b := by
  have hg : 0 < Int.gcd t b := Int.gcd_pos_of_ne_zero_right t (by omega)
  have e := fr_ge t hb
  rw [Int.fdiv_eq_ediv_of_nonneg _ (by omega), Int.fdiv_eq_ediv_of_nonneg _ (by omega)] at e
  rw [← e.1, ← e.2]
  exact ⟨Int.ediv_nonneg h0 (by omega), Int.ediv_le_ediv (by omega) h1⟩
theorem s40 {x : Int} (h0 : 0 ≤ x) (h1 : x < 1099511627776) : S 40 x := by
  show x.natAbs < 1099511627776
  omega
theorem kBB : PySem.W.kitOne K (.type "bool") (.type "bool") = some true := kit_ty (by decide +kernel)
def sp_law (K : PySem.W.Frag) : Sp := fun vs H Q _ => ∃ (a : Addr) (ns : List Int), vs = [.ref a] ∧ SqL K H a (ns.map V.int) ∧ ns.length ≤ 63 ∧ ∀ H', Q (.bl true) H'
theorem ok_law (T : Defs K mg) : FnOk P w K mg base CX0 4 T.f_law T.fd_law ["_law_script"] (sp_law K) := by
  have G__law_folded : FnOk P w K mg base CX0 1 T.f__law_folded T.fd__law_folded ["_law_script", "_law_many"] (sp__law_folded K) := ok__law_folded T
  have G__law_box : FnOk P w K mg base CX0 1 T.f__law_box T.fd__law_box ["_law_script", "_law_k"] (sp__law_box K) := ok__law_box T
  have G_fraction : FnOk P w K mg base CX0 2 T.f_fraction T.fd_fraction ["top", "bottom"] (sp_fraction K) := ok_fraction T
  have G__law_take : FnOk P w K mg base CX0 1 T.f__law_take T.fd__law_take ["_law_box_here", "_law_many"] (sp__law_take K) := ok__law_take T
  have G__law_otherwise : FnOk P w K mg base CX0 3 T.f__law_otherwise T.fd__law_otherwise ["_law_box_here", "_law_share"] (sp__law_otherwise K) := ok__law_otherwise T
  have G_is_share : FnOk P w K mg base CX0 3 T.f_is_share T.fd_is_share ["thing"] (sp_is_share K) := ok_is_share T
  have G__law_due : FnOk P w K mg base CX0 2 T.f__law_due T.fd__law_due ["_law_thing"] (sp__law_due K) := ok__law_due T
  have G__law_odd : FnOk P w K mg base CX0 2 T.f__law_odd T.fd__law_odd ["_law_box_here"] (sp__law_odd K) := ok__law_odd T
  refine T.F_law.ok sc_law (fun vs H Q E h => ?_) (fun cdv A outer s H vs Q E hr h => ?_)
  · obtain ⟨a, ns, rfl, hS, hlen, q⟩ := h
    rfl
  · obtain ⟨a, ns, rfl, hS, hlen, q⟩ := h
    refine ⟨_, PSs.nox (pss_cons (ps_set (i := 1) sc_law.nd rfl (.inl rfl) (pe_call G__law_folded (hr.mono (by decide)) (by rfl) T.g__law_folded T.F__law_folded.kp T.b__law_folded .nil pass0 (pa_cons (pv 0) (pa_cons pe_int pa_nil))))
    (pss_cons (ps_for PassesOwn.never rfl (pi_range1 (by rfl) T.m_range (pa_cons (pe_callB (call_max2 rfl) (by rfl) T.m_max bt_max (pa_cons pe_int (pa_cons (pe_callB call_len_seq (by rfl) T.m_len bt_len (pa_cons (pv 1) pa_nil)) pa_nil))) pa_nil)) (pg_name (i := 2) sc_law.nd rfl (.inl rfl)) (pss_cons (ps_set (i := 3) sc_law.nd rfl (.inl rfl) (pe_call G__law_box (hr.mono (by decide)) (by rfl) T.g__law_box T.F__law_box.kp T.b__law_box .nil pass0 (pa_cons (pv 1) (pa_cons (pv 2) pa_nil))))
    (pss_cons (ps_set (i := 4) sc_law.nd rfl (.inl rfl) (pe_op op_add pe_int (pe_call G__law_take (hr.mono (by decide)) (by rfl) T.g__law_take T.F__law_take.kp T.b__law_take .nil pass0 (pa_cons (pv 3) (pa_cons (pe_ix ix_list (pe_lst (pa_cons pe_int (pa_cons pe_int (pa_cons pe_int (pa_cons (pe_op op_pow pe_int pe_int) pa_nil))))) (pe_call G__law_take (hr.mono (by decide)) (by rfl) T.g__law_take T.F__law_take.kp T.b__law_take .nil pass0 (pa_cons (pv 3) (pa_cons pe_int pa_nil))) (fun _ _ => rfl)) pa_nil)))))
    (pss_cons (ps_set (i := 5) sc_law.nd rfl (.inl rfl) (pe_call G_fraction (hr.mono (by decide)) (by rfl) T.g_fraction T.F_fraction.kp T.b_fraction .nil pass0 (pa_cons (pe_ix ix_list (pe_lst (pa_cons pe_int (pa_cons (pv 4) (pa_cons (pe_call G__law_take (hr.mono (by decide)) (by rfl) T.g__law_take T.F__law_take.kp T.b__law_take .nil pass0 (pa_cons (pv 3) (pa_cons (pe_op op_add (pv 4) pe_int) pa_nil))) pa_nil)))) (pe_call G__law_take (hr.mono (by decide)) (by rfl) T.g__law_take T.F__law_take.kp T.b__law_take .nil pass0 (pa_cons (pv 3) (pa_cons pe_int pa_nil))) (fun _ _ => rfl)) (pa_cons (pv 4) pa_nil))))
    (pss_cons (ps_if (PW.pt (pw_or (pt_cmpR op_notBl (pe_call G_is_share (hr.mono (by decide)) (by rfl) T.g_is_share T.F_is_share.kp T.b_is_share .nil pass0 (pa_cons (pv 5) pa_nil)) pe_bl (nomark _)) (pw_or1 (pt_not (pt_val (pe_call G__law_due (hr.mono (by decide)) (by rfl) T.g__law_due T.F__law_due.kp T.b__law_due .nil pass0 (pa_cons (pv 5) pa_nil))))))) (pss_one (ps_ret pe_bl)) pss_nil)
    (pss_one (ps_for PassesOwn.never rfl (pi_range1 (by rfl) T.m_range (pa_cons pe_int pa_nil)) (pg_name (i := 6) sc_law.nd rfl (.inl rfl)) (pss_cons (ps_set (i := 7) sc_law.nd rfl (.inl rfl) (pe_call G__law_otherwise (hr.mono (by decide)) (by rfl) T.g__law_otherwise T.F__law_otherwise.kp T.b__law_otherwise .nil pass0 (pa_cons (pv 3) (pa_cons (pv 5) pa_nil))))
    (pss_one (ps_for PassesOwn.never rfl (pi_tup (pe_tup (pa_cons (pv 7) (pa_cons (pe_tup (pa_cons (pv 7) pa_nil)) (pa_cons (pe_call G__law_odd (hr.mono (by decide)) (by rfl) T.g__law_odd T.F__law_odd.kp T.b__law_odd .nil pass0 (pa_cons (pv 3) pa_nil)) pa_nil))))) (pg_name (i := 8) sc_law.nd rfl (.inl rfl)) (pss_cons (ps_set (i := 9) sc_law.nd rfl (.inl rfl) (pe_call G_is_share (hr.mono (by decide)) (by rfl) T.g_is_share T.F_is_share.kp T.b_is_share .nil pass0 (pa_cons (pv 8) pa_nil)))
    (pss_one (ps_if (PW.pt (pw_or (pt_not (pt_val (pe_callB call_isi (by rfl) T.m_isinstance bt_isinstance (pa_cons (pv 9) (pa_cons (pe_bltn (v := .ty "bool") (by rfl) T.m_bool bt_bool rfl) pa_nil))))) (pw_or1 (pt_cmpR op_ne (pv 9) (pe_call G__law_due (hr.mono (by decide)) (by rfl) T.g__law_due T.F__law_due.kp T.b__law_due .nil pass0 (pa_cons (pv 8) pa_nil)) (nomark _))))) (pss_one (ps_ret pe_bl)) pss_nil)))))))))))))
    (pss_one (ps_ret pe_bl)))), ?_⟩
    refine ⟨.ref a, rfl, a, ns, 4, rfl, hS, hlen, by decide, by decide, fun H1 c cs s1 nc hc lc => ?_⟩
    have hn : (if (((cs.map V.int).length : Nat) : Int) > 2 then (((cs.map V.int).length : Nat) : Int) else 2) ≤ 4 ∧ 0 ≤ (if (((cs.map V.int).length : Nat) : Int) > 2 then (((cs.map V.int).length : Nat) : Int) else 2) := by
      rw [List.length_map]
      split <;> omega
    refine ⟨.ref c, rfl, c, _, rfl, .inl (SqL.mk hc), _, _, rfl, _, rfl, by omega, by omega, for_range (fun i σ H2 => ∃ y2 y3 y4 y5 y6 y7 y8 y9, σ = [some (.ref a), some (.ref c), y2, y3, y4, y5, y6, y7, y8, y9] ∧ Same H1 H2) ⟨none, none, none, none, none, none, none, none, rfl, Same.refl H1⟩ ?_ ?_⟩
    · rintro i σ H2 hi ⟨y2, y3, y4, y5, y6, y7, y8, y9, rfl, s2⟩
      have hi2 : i < 1000 := by omega
      refine ⟨.ref c, rfl, .int (0 + (i : Int)), rfl, c, cs, i, by rw [Int.zero_add]; rfl, SqL.mk (s2 _ _ hc), hi2, fun H3 b s3 nb hB => ?_⟩
      have nb1 : H1 b = none := s2.free nb
      have s13 := s2.trans s3
      -- the bottom
      refine ⟨.ref b, rfl, _, _, rfl, rfl, ⟨by decide, by decide, by decide⟩, (show 4 ≤ sizeLine by decide), fun l nl => ?_⟩
      refine ⟨.ref b, rfl, b, 4, 0, rfl, hB.new nl, by decide, by decide, by omega, fun H4 r4 b4 B4 l4 u4 => ?_⟩
      obtain ⟨m, em, hm⟩ := at_menu (Pr := fun m => 0 < m ∧ m ≤ 1000000000) (xs := [8, 64, 4096, 10 ^ (9 : Int).toNat]) l4 u4 (fun x hx => by
        rcases List.mem_cons.mp hx with rfl | hx
        · exact ⟨by decide, by decide⟩
        rcases List.mem_cons.mp hx with rfl | hx
        · exact ⟨by decide, by decide⟩
        rcases List.mem_cons.mp hx with rfl | hx
        · exact ⟨by decide, by decide⟩
        rcases List.mem_cons.mp hx with rfl | hx
        · exact ⟨by decide, by decide⟩
        · cases hx)
      refine ⟨l, _, _, _, rfl, rfl, SqL.mk (b4 l _ (ne_new hB nl) upd_same), em, b, m, 1, rfl, B4, hm.1, by omega, by omega, fun H5 r5 b5 B5 l5 u5 => ⟨_, _, rfl, rfl, ?_⟩⟩
      have b35 : But b H3 H5 := (((But.refl b H3).new nl).trans b4).trans b5
      -- the share
      refine ⟨_, rfl, .ref b, rfl, _, rfl, _, _, rfl, rfl, b, _, 2, rfl, B5, by omega, by omega, by omega, fun H6 r6 b6 B6 l6 u6 => ?_⟩
      refine ⟨(show 3 ≤ sizeLine by decide), fun l2 nl2 => ?_⟩
      refine ⟨.ref b, rfl, b, 3, 3, rfl, B6.new nl2, by decide, by decide, by omega, fun H7 r7 b7 B7 l7 u7 => ?_⟩
      obtain ⟨t, et, ht⟩ := at_menu (Pr := fun t => 0 ≤ t ∧ t ≤ 1 + r5) (xs := [0, 1 + r5, r6]) l7 u7 (fun x hx => by
        rcases List.mem_cons.mp hx with rfl | hx
        · exact ⟨by omega, by omega⟩
        rcases List.mem_cons.mp hx with rfl | hx
        · exact ⟨by omega, by omega⟩
        rcases List.mem_cons.mp hx with rfl | hx
        · exact ⟨by omega, by omega⟩
        · cases hx)
      have hbp : 0 < 1 + r5 := by omega
      refine ⟨l2, _, _, _, rfl, rfl, SqL.mk (b7 l2 _ (ne_new B6 nl2) upd_same), et, _, rfl, t, _, rfl, by omega, (s40 (by omega) (by omega)).mono (by decide), fun H8 sh s8 n8 h8 => ?_⟩
      have B8 := B7.same s8
      have b38 : But b H3 H8 := ((((b35.trans b6).trans ((But.refl b H6).new nl2)).trans b7).trans (same_but s8))
      have s18 : Same H1 H8 := But.same nb1 s13 b38
      have shp := B8.ne_tup h8
      have tsh : Thing b H8 (.ref sh) := .mkTup shp h8 (all_cons (.int _) (all_cons (.int _) all_nil))
      have shb : shB H8 (.ref sh) = true := by
        simp only [shB, h8]
        exact decide_eq_true ⟨(fr_share hbp ht.1 ht.2).1, (fr_share hbp ht.1 ht.2).2, fr_pos t (by omega), fr_gcd t (by omega)⟩
      refine ⟨.ref sh, rfl, b, .ref sh, rfl, tsh, _, _, rfl, rfl, _, rfl, ?_⟩
      rw [shb]
      refine iteF ?_
      refine ⟨.ref sh, rfl, b, .ref sh, rfl, tsh, _, rfl, ?_⟩
      rw [shb]
      refine iteF ?_
      refine ⟨10, rfl, by decide, by decide, for_range (n := 10) (fun j σ G => ∃ y6 y7 y8 y9, σ = [some (.ref a), some (.ref c), some (.int (0 + (i : Int))), some (.ref b), some (.int (1 + r5)), some (.ref sh), y6, y7, y8, y9] ∧ But b H8 G ∧ Bx G b (4 + 5 * j)) ⟨y6, y7, y8, y9, rfl, But.refl b H8, B8⟩ ?_ ?_⟩
      · rintro j σ G hj ⟨y6, y7, y8, y9, rfl, bG, BG⟩
        have hsh := bG _ _ shp h8
        refine ⟨.ref b, rfl, .ref sh, rfl, b, sh, 4 + 5 * j, _, _, rfl, hsh, BG, by omega, fun G1 v c1 B1 tv => ?_⟩
        refine ⟨_, rfl, _, rfl, (show 1 ≤ sizeLine by decide), fun e1 m1 => ?_⟩
        have tv1 := Thing.tup2 (xs := [v]) B1 m1 (all_cons tv.kn all_nil)
        have d1 := (But.refl b G1).new (o := .tup [v]) m1
        refine ⟨.ref b, rfl, b, 4 + 5 * j + 4, rfl, B1.new m1, by omega, fun G2 od c2 B2 tod => ?_⟩
        refine ⟨(show 3 ≤ sizeLine by decide), fun e2 m2 => ?_⟩
        have d2 := (But.refl b G2).new (o := .tup [v, .ref e1, od]) m2
        have all3 : ∀ x, x ∈ [v, .ref e1, od] → Thing b (upd G2 e2 (.tup [v, .ref e1, od])) x := all_cons (((tv.but d1).but c2).but d2) (all_cons ((tv1.but c2).but d2) (all_cons (tod.but d2) all_nil))
        have bG3 := (((bG.trans c1).trans d1).trans c2).trans d2
        have B3 := B2.new (o := .tup [v, .ref e1, od]) m2
        have h3 : (upd G2 e2 (.tup [v, .ref e1, od])) e2 = _ := upd_same
        generalize upd G2 e2 (.tup [v, .ref e1, od]) = G3 at *
        refine ⟨e2, rfl, ⟨_, SqT.mk h3⟩, for_tup (xs := [v, .ref e1, od]) (fun k σ G4 => G4 = G3 ∧ ∃ y8 y9, σ = [some (.ref a), some (.ref c), some (.int (0 + (i : Int))), some (.ref b), some (.int (1 + r5)), some (.ref sh), some (.int (0 + (j : Int))), some v, y8, y9]) ⟨rfl, y8, y9, rfl⟩ ?_ ?_ ?_⟩
        · rintro k σ G4 _ ⟨rfl, _⟩
          exact SqT.mk h3
        · rintro k x σ G4 hx ⟨rfl, y8, y9, rfl⟩
          have tx := all3 x (List.mem_of_getElem? hx)
          refine ⟨x, rfl, b, x, rfl, tx, ?_⟩
          refine ⟨_, rfl, _, _, _, _, _, rfl, .ty "bool", .base (.bl _), kBB, _, rfl, ?_⟩
          refine iteF ?_
          refine ⟨_, rfl, x, rfl, b, x, rfl, tx, rfl, _, rfl, ?_⟩
          rw [decide_eq_true rfl]
          refine iteF ?_
          exact ⟨rfl, _, _, rfl⟩
        · rintro σ G4 ⟨rfl, y8, y9, rfl⟩
          exact ⟨_, _, _, _, rfl, bG3, B3.mono (by omega)⟩
      · rintro σ G ⟨y6, y7, y8, y9, rfl, bG, BG⟩
        exact ⟨_, _, _, _, _, _, _, _, rfl, But.same nb1 s18 bG⟩
    · rintro σ H2 ⟨y2, y3, y4, y5, y6, y7, y8, y9, rfl, s2⟩
      exact q _
end
def d_is_number : He.DefD := ⟨("is_number", none), "is_number", "is_number", defArgs s_is_number, defBody s_is_number, defScope s_is_number, [], []⟩
def d_common_divisor : He.DefD := ⟨("common_divisor", none), "common_divisor", "common_divisor", defArgs s_common_divisor, defBody s_common_divisor, defScope s_common_divisor, [], []⟩
def d_fraction : He.DefD := ⟨("fraction", none), "fraction", "fraction", defArgs s_fraction, defBody s_fraction, defScope s_fraction, [], []⟩
def d_is_fraction : He.DefD := ⟨("is_fraction", none), "is_fraction", "is_fraction", defArgs s_is_fraction, defBody s_is_fraction, defScope s_is_fraction, [], []⟩
def d_is_share : He.DefD := ⟨("is_share", none), "is_share", "is_share", defArgs s_is_share, defBody s_is_share, defScope s_is_share, [], []⟩
def d__law_box : He.DefD := ⟨("_law_box", none), "_law_box", "_law_box", defArgs s__law_box, defBody s__law_box, defScope s__law_box, [], []⟩
def d__law_take : He.DefD := ⟨("_law_take", none), "_law_take", "_law_take", defArgs s__law_take, defBody s__law_take, defScope s__law_take, [], []⟩
def d__law_folded : He.DefD := ⟨("_law_folded", none), "_law_folded", "_law_folded", defArgs s__law_folded, defBody s__law_folded, defScope s__law_folded, [], []⟩
def d__law_divisor : He.DefD := ⟨("_law_divisor", none), "_law_divisor", "_law_divisor", defArgs s__law_divisor, defBody s__law_divisor, defScope s__law_divisor, [], []⟩
def d__law_odd : He.DefD := ⟨("_law_odd", none), "_law_odd", "_law_odd", defArgs s__law_odd, defBody s__law_odd, defScope s__law_odd, [], []⟩
def d__law_otherwise : He.DefD := ⟨("_law_otherwise", none), "_law_otherwise", "_law_otherwise", defArgs s__law_otherwise, defBody s__law_otherwise, defScope s__law_otherwise, [], []⟩
def d__law_due : He.DefD := ⟨("_law_due", none), "_law_due", "_law_due", defArgs s__law_due, defBody s__law_due, defScope s__law_due, [], []⟩
def d_law : He.DefD := ⟨("law", none), "law", "law", defArgs s_law, defBody s_law, defScope s_law, [], []⟩
def hfn : List He.DefD := [d_is_number, d_common_divisor, d_fraction, d_is_fraction, d_is_share, d__law_box, d__law_take, d__law_folded, d__law_divisor, d__law_odd, d__law_otherwise, d__law_due, d_law]
def hfa : List He.Fa := [.glo "is_number", .glo "common_divisor", .glo "fraction", .glo "is_fraction", .glo "is_share", .glo "_law_box", .glo "_law_take", .glo "_law_folded", .glo "_law_divisor", .glo "_law_odd", .glo "_law_otherwise", .glo "_law_due", .glo "law", .free "abs", .free "bool", .free "divmod", .free "enumerate", .free "int", .free "isinstance", .free "len", .free "list", .free "max", .free "range", .free "tuple"]
abbrev R : PySem.W.OpenRow := PySem.W.OpenLaw.row PySem.Challenge.rw_shareones_k02_what_is_a_share
abbrev hk : PySem.W.Hook := He.hookD 4 hfa hfn
def ob (s : PySem.W.SharedT) : He.AlD := He.obsDG 4 hfa hfn (HandSHeadRun.getT s)
theorem ob_eq (s : PySem.W.SharedT) : ob s = hk.obs s.abs := He.obsDG_eq (HandSHeadRun.getT_eq s)
def loose : List Str := ["is_number", "common_divisor", "fraction", "is_fraction", "is_share", "_law_box", "_law_take", "_law_folded", "_law_divisor", "_law_odd", "_law_otherwise", "_law_due"]
theorem run (w : World) : HandSHeadRun.RunEq R (PySem.W.view R.prog [14]) hk ob 6000 loose w := by
  intro os
  kernel_rfl
theorem facts {P : Program} {w : World} {K : PySem.W.Frag} {h : Heap} {mg : Str → Option Value} {f : Addr} (X : K.In h) (G : h.Ns mainGlobals mg) (hfa_ : mg ("law" : Str) = some (.ref f)) (c : He.SaysD hfa hfn K) :
    ∃ fd : FuncData, (∀ (s : Shared) (v : Value), BindsTo s fd ⟨[v], []⟩ [("_law_script", v)]) ∧ ∀ base : Heap, K.In base → base.Ns mainGlobals mg → FnOk P w K mg base CX0 4 f fd ["_law_script"] (sp_law K) := by
  obtain ⟨fd_is_number, F_is_number⟩ := c.def_ 0 (d := d_is_number) rfl
  obtain ⟨fd_common_divisor, F_common_divisor⟩ := c.def_ 1 (d := d_common_divisor) rfl
  obtain ⟨fd_fraction, F_fraction⟩ := c.def_ 2 (d := d_fraction) rfl
  obtain ⟨fd_is_fraction, F_is_fraction⟩ := c.def_ 3 (d := d_is_fraction) rfl
  obtain ⟨fd_is_share, F_is_share⟩ := c.def_ 4 (d := d_is_share) rfl
  obtain ⟨fd__law_box, F__law_box⟩ := c.def_ 5 (d := d__law_box) rfl
  obtain ⟨fd__law_take, F__law_take⟩ := c.def_ 6 (d := d__law_take) rfl
  obtain ⟨fd__law_folded, F__law_folded⟩ := c.def_ 7 (d := d__law_folded) rfl
  obtain ⟨fd__law_divisor, F__law_divisor⟩ := c.def_ 8 (d := d__law_divisor) rfl
  obtain ⟨fd__law_odd, F__law_odd⟩ := c.def_ 9 (d := d__law_odd) rfl
  obtain ⟨fd__law_otherwise, F__law_otherwise⟩ := c.def_ 10 (d := d__law_otherwise) rfl
  obtain ⟨fd__law_due, F__law_due⟩ := c.def_ 11 (d := d__law_due) rfl
  obtain ⟨fd_law, F_law⟩ := c.def_ 12 (d := d_law) rfl
  have e := hfa_.symm.trans (He.glo_ok X G (c.fact 12 (f := .glo "law") rfl))
  cases e
  have b := FunD.bindsA (ps := ["_law_script"]) F_law fun _ _ _ _ _ _ us hl => match us, hl with | [_], _ => rfl
  refine ⟨fd_law, fun s v => b s [v] rfl, fun base _ _ => ok_law (T := ⟨_, fd_is_number, F_is_number, (He.glo_ok X G (c.fact 0 (f := .glo "is_number") rfl)), (FunD.bindsN F_is_number fun _ _ _ _ _ _ us hl => match us, hl with | [_], _ => rfl), _, fd_common_divisor, F_common_divisor, (He.glo_ok X G (c.fact 1 (f := .glo "common_divisor") rfl)), (FunD.bindsN F_common_divisor fun _ _ _ _ _ _ us hl => match us, hl with | [_, _], _ => rfl), _, fd_fraction, F_fraction, (He.glo_ok X G (c.fact 2 (f := .glo "fraction") rfl)), (FunD.bindsN F_fraction fun _ _ _ _ _ _ us hl => match us, hl with | [_, _], _ => rfl), _, fd_is_fraction, F_is_fraction, (He.glo_ok X G (c.fact 3 (f := .glo "is_fraction") rfl)), (FunD.bindsN F_is_fraction fun _ _ _ _ _ _ us hl => match us, hl with | [_], _ => rfl), _, fd_is_share, F_is_share, (He.glo_ok X G (c.fact 4 (f := .glo "is_share") rfl)), (FunD.bindsN F_is_share fun _ _ _ _ _ _ us hl => match us, hl with | [_], _ => rfl), _, fd__law_box, F__law_box, (He.glo_ok X G (c.fact 5 (f := .glo "_law_box") rfl)), (FunD.bindsN F__law_box fun _ _ _ _ _ _ us hl => match us, hl with | [_, _], _ => rfl), _, fd__law_take, F__law_take, (He.glo_ok X G (c.fact 6 (f := .glo "_law_take") rfl)), (FunD.bindsN F__law_take fun _ _ _ _ _ _ us hl => match us, hl with | [_, _], _ => rfl), _, fd__law_folded, F__law_folded, (He.glo_ok X G (c.fact 7 (f := .glo "_law_folded") rfl)), (FunD.bindsN F__law_folded fun _ _ _ _ _ _ us hl => match us, hl with | [_, _], _ => rfl), _, fd__law_divisor, F__law_divisor, (He.glo_ok X G (c.fact 8 (f := .glo "_law_divisor") rfl)), (FunD.bindsN F__law_divisor fun _ _ _ _ _ _ us hl => match us, hl with | [_, _], _ => rfl), _, fd__law_odd, F__law_odd, (He.glo_ok X G (c.fact 9 (f := .glo "_law_odd") rfl)), (FunD.bindsN F__law_odd fun _ _ _ _ _ _ us hl => match us, hl with | [_], _ => rfl), _, fd__law_otherwise, F__law_otherwise, (He.glo_ok X G (c.fact 10 (f := .glo "_law_otherwise") rfl)), (FunD.bindsN F__law_otherwise fun _ _ _ _ _ _ us hl => match us, hl with | [_, _], _ => rfl), _, fd__law_due, F__law_due, (He.glo_ok X G (c.fact 11 (f := .glo "_law_due") rfl)), (FunD.bindsN F__law_due fun _ _ _ _ _ _ us hl => match us, hl with | [_], _ => rfl), _, fd_law, F_law, (He.glo_ok X G (c.fact 12 (f := .glo "law") rfl)), (FunD.bindsN F_law fun _ _ _ _ _ _ us hl => match us, hl with | [_], _ => rfl), (He.free_ok X G (c.fact 13 (f := .free "abs") rfl)), (He.free_ok X G (c.fact 14 (f := .free "bool") rfl)), (He.free_ok X G (c.fact 15 (f := .free "divmod") rfl)), (He.free_ok X G (c.fact 16 (f := .free "enumerate") rfl)), (He.free_ok X G (c.fact 17 (f := .free "int") rfl)), (He.free_ok X G (c.fact 18 (f := .free "isinstance") rfl)), (He.free_ok X G (c.fact 19 (f := .free "len") rfl)), (He.free_ok X G (c.fact 20 (f := .free "list") rfl)), (He.free_ok X G (c.fact 21 (f := .free "max") rfl)), (He.free_ok X G (c.fact 22 (f := .free "range") rfl)), (He.free_ok X G (c.fact 23 (f := .free "tuple") rfl))⟩)⟩
end Fq
open PySem PySem.W PySem.Calls PyProof.Rows
set_option maxHeartbeats 0 in
theorem PySem.Challenge.cw_shareones_k02_what_is_a_share_holds : PySem.Challenge.rw_shareones_k02_what_is_a_share.Holds := by
  w_on; o_law
  refine HandSHeadRun.head_any (r := OpenLaw.row PySem.Challenge.rw_shareones_k02_what_is_a_share) (q := view (OpenLaw.row PySem.Challenge.rw_shareones_k02_what_is_a_share).prog [14]) (H := Fq.hk) (ob := Fq.ob) (M := 6000) (loose := Fq.loose) (d := HandSHeadRun.topDef (OpenLaw.row PySem.Challenge.rw_shareones_k02_what_is_a_share).prog 14) (kwd := []) Fq.ob_eq
    (by kernel_rfl) (fun s => by kernel_rfl) Fq.run (by kernel_rfl) (by kernel_rfl) (by kernel_rfl) (by rfl) (by first | assumption | decide +kernel) (by decide +kernel) ⟨rfl, rfl, rfl, rfl, rfl, by decide +kernel⟩ ?hw ?hc
  case hw => w_witness2
  case hc =>
    refine L2.walk_ofE (l := PySem.Challenge.rw_shareones_k02_what_is_a_share) (n := 63) (k := 4) (x := "_law_script") (CX := L2.CX0) rfl (by decide) (by kernel_rfl) ⟨rfl, by decide, by decide⟩ ?F (fun _ _ _ _ z => z)
    intro w mg fa h Y G hmg0
    obtain ⟨K, KX, c⟩ := Y
    have hmg : mg ("law" : PySem.Str) = some (.ref fa) := by
      have e : (HandSHeadRun.topDef (OpenLaw.row PySem.Challenge.rw_shareones_k02_what_is_a_share).prog 14).name = ("law" : PySem.Str) := by kernel_rfl
      rw [← e]
      exact hmg0
    obtain ⟨fd, hb, hF⟩ := Fq.facts (P := (PySem.Challenge.rw_shareones_k02_what_is_a_share).prog) (w := w) KX G hmg c
    exact ⟨K, fd, Fq.sp_law K, KX, hb, fun H a ns hl _ hS => ⟨a, ns, rfl, hS, hl, fun _ => rfl⟩, hF⟩
