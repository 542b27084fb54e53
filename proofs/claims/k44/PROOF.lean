import PyProof.Rows.All
import Wide.All
import OpenK.AllK
import Wide.FinOn
import KE.KStateDown
import Lean
import HandS.ForMost
import HandS.Wide
import HandS.WideBits
import HandS.IsInst
import HandS.Walk
import HandS.Evl
import HandS.Style
import HandS.NoneIn
import HandS.Defaults
import HandS.Head0
import HandS.Head1
import HandS.Head2
import HandS.HeadEnd
import HandS.HeadHook1
import HandS.HeadHook2
import HandS.AnyAll
import HandS.TupAny
import HandS.TupMul
import HandS.Zip
import HandS.ForDict
import PySem.Challenge.RW_shareones_k44_keepers
set_option Elab.async false
set_option pp.maxSteps 250
set_option linter.all false
set_option maxRecDepth 100000
set_option maxHeartbeats 4000000
namespace Fq
open PySem PySem.Spec PyProof.Rows L2
section
variable {P : Program} {w : World} {K : PySem.W.Frag} {mg : Str → Option Value} {base : Heap}
def topS (i : Nat) : Stmt := PySem.Challenge.pw_shareones_k44_keepers.main.body.getD i (.Pass ⟨0, 0, 0, 0⟩)
abbrev FnP (K : PySem.W.Frag) (x : Str) (st : Stmt) (f : Addr) (fd : FuncData) : Prop := FunD K x x (defArgs st) (defBody st) (defScope st) [] [] f fd
abbrev s_moved : Stmt := topS 1
abbrev N_moved : List Str := ["most", "at", "up", "down"]
theorem sc_moved : FnScope N_moved ["most", "at", "up", "down"] (defScope s_moved) := ⟨rfl, rfl, rfl, by decide +kernel, rfl, by decide +kernel, by decide +kernel⟩
abbrev s_Keeper___init__ : Stmt := inClass (topS 2) 0
abbrev N_Keeper___init__ : List Str := ["self", "most", "at"]
theorem sc_Keeper___init__ : FnScope N_Keeper___init__ ["self", "most", "at"] (defScope s_Keeper___init__) := ⟨rfl, rfl, rfl, by decide +kernel, rfl, by decide +kernel, by decide +kernel⟩
abbrev s_Keeper_beat : Stmt := inClass (topS 2) 1
abbrev N_Keeper_beat : List Str := ["self", "up", "down", "held"]
theorem sc_Keeper_beat : FnScope N_Keeper_beat ["self", "up", "down"] (defScope s_Keeper_beat) := ⟨rfl, rfl, rfl, by decide +kernel, rfl, by decide +kernel, by decide +kernel⟩
abbrev s_Keeper_at_now : Stmt := inClass (topS 2) 2
abbrev N_Keeper_at_now : List Str := ["self"]
theorem sc_Keeper_at_now : FnScope N_Keeper_at_now ["self"] (defScope s_Keeper_at_now) := ⟨rfl, rfl, rfl, by decide +kernel, rfl, by decide +kernel, by decide +kernel⟩
abbrev s_Keeper_lost_now : Stmt := inClass (topS 2) 3
abbrev N_Keeper_lost_now : List Str := ["self"]
theorem sc_Keeper_lost_now : FnScope N_Keeper_lost_now ["self"] (defScope s_Keeper_lost_now) := ⟨rfl, rfl, rfl, by decide +kernel, rfl, by decide +kernel, by decide +kernel⟩
abbrev s_Keeper_beats_now : Stmt := inClass (topS 2) 4
abbrev N_Keeper_beats_now : List Str := ["self"]
theorem sc_Keeper_beats_now : FnScope N_Keeper_beats_now ["self"] (defScope s_Keeper_beats_now) := ⟨rfl, rfl, rfl, by decide +kernel, rfl, by decide +kernel, by decide +kernel⟩
abbrev s__law_box : Stmt := topS 4
abbrev N__law_box : List Str := ["_law_script", "_law_k", "_law_cell"]
theorem sc__law_box : FnScope N__law_box ["_law_script", "_law_k"] (defScope s__law_box) := ⟨rfl, rfl, rfl, by decide +kernel, rfl, by decide +kernel, by decide +kernel⟩
abbrev s__law_take : Stmt := topS 5
abbrev N__law_take : List Str := ["_law_box_here", "_law_many", "_law_found", "_law_once"]
theorem sc__law_take : FnScope N__law_take ["_law_box_here", "_law_many"] (defScope s__law_take) := ⟨rfl, rfl, rfl, by decide +kernel, rfl, by decide +kernel, by decide +kernel⟩
abbrev s__law_folded : Stmt := topS 6
abbrev N__law_folded : List Str := ["_law_script", "_law_many", "_law_cells", "_law_k", "_law_cell"]
theorem sc__law_folded : FnScope N__law_folded ["_law_script", "_law_many"] (defScope s__law_folded) := ⟨rfl, rfl, rfl, by decide +kernel, rfl, by decide +kernel, by decide +kernel⟩
abbrev s__law_same : Stmt := topS 7
abbrev N__law_same : List Str := ["_law_found", "_law_due"]
theorem sc__law_same : FnScope N__law_same ["_law_found", "_law_due"] (defScope s__law_same) := ⟨rfl, rfl, rfl, by decide +kernel, rfl, by decide +kernel, by decide +kernel⟩
abbrev s__law_beat : Stmt := topS 8
abbrev N__law_beat : List Str := ["_law_state", "_law_up", "_law_down"]
theorem sc__law_beat : FnScope N__law_beat ["_law_state", "_law_up", "_law_down"] (defScope s__law_beat) := ⟨rfl, rfl, rfl, by decide +kernel, rfl, by decide +kernel, by decide +kernel⟩
abbrev s__law_right : Stmt := topS 9
abbrev N__law_right : List Str := ["_law_keeper", "_law_state"]
theorem sc__law_right : FnScope N__law_right ["_law_keeper", "_law_state"] (defScope s__law_right) := ⟨rfl, rfl, rfl, by decide +kernel, rfl, by decide +kernel, by decide +kernel⟩
abbrev s_law : Stmt := topS 10
abbrev N_law : List Str := ["_law_script", "_law_cells", "_law_k", "_law_box_here", "_law_keepers", "_law_states", "_law_turn", "_law_most", "_law_at", "_law_tilt", "_law_one", "_law_way", "_law_up", "_law_down", "_law_keeper", "_law_state"]
theorem sc_law : FnScope N_law ["_law_script"] (defScope s_law) := ⟨rfl, rfl, rfl, by decide +kernel, rfl, by decide +kernel, by decide +kernel⟩
structure Defs (K : PySem.W.Frag) (mg : Str → Option Value) where
  f_moved : Addr
  fd_moved : FuncData
  F_moved : FnP K "moved" s_moved f_moved fd_moved
  g_moved : mg "moved" = some (.ref f_moved)
  b_moved : Binds K fd_moved ["most", "at", "up", "down"] []
  f_Keeper___init__ : Addr
  fd_Keeper___init__ : FuncData
  F_Keeper___init__ : FunD K "__init__" "Keeper.__init__" (defArgs s_Keeper___init__) (defBody s_Keeper___init__) (defScope s_Keeper___init__) [] [] f_Keeper___init__ fd_Keeper___init__
  b_Keeper___init__ : Binds K fd_Keeper___init__ ["self", "most", "at"] []
  f_Keeper_beat : Addr
  fd_Keeper_beat : FuncData
  F_Keeper_beat : FunD K "beat" "Keeper.beat" (defArgs s_Keeper_beat) (defBody s_Keeper_beat) (defScope s_Keeper_beat) [] [] f_Keeper_beat fd_Keeper_beat
  b_Keeper_beat : Binds K fd_Keeper_beat ["self", "up", "down"] []
  f_Keeper_at_now : Addr
  fd_Keeper_at_now : FuncData
  F_Keeper_at_now : FunD K "at_now" "Keeper.at_now" (defArgs s_Keeper_at_now) (defBody s_Keeper_at_now) (defScope s_Keeper_at_now) [] [] f_Keeper_at_now fd_Keeper_at_now
  b_Keeper_at_now : Binds K fd_Keeper_at_now ["self"] []
  f_Keeper_lost_now : Addr
  fd_Keeper_lost_now : FuncData
  F_Keeper_lost_now : FunD K "lost_now" "Keeper.lost_now" (defArgs s_Keeper_lost_now) (defBody s_Keeper_lost_now) (defScope s_Keeper_lost_now) [] [] f_Keeper_lost_now fd_Keeper_lost_now
  b_Keeper_lost_now : Binds K fd_Keeper_lost_now ["self"] []
  f_Keeper_beats_now : Addr
  fd_Keeper_beats_now : FuncData
  F_Keeper_beats_now : FunD K "beats_now" "Keeper.beats_now" (defArgs s_Keeper_beats_now) (defBody s_Keeper_beats_now) (defScope s_Keeper_beats_now) [] [] f_Keeper_beats_now fd_Keeper_beats_now
  b_Keeper_beats_now : Binds K fd_Keeper_beats_now ["self"] []
  f__law_box : Addr
  fd__law_box : FuncData
  F__law_box : FnP K "_law_box" s__law_box f__law_box fd__law_box
  g__law_box : mg "_law_box" = some (.ref f__law_box)
  b__law_box : Binds K fd__law_box ["_law_script", "_law_k"] []
  f__law_take : Addr
  fd__law_take : FuncData
  F__law_take : FnP K "_law_take" s__law_take f__law_take fd__law_take
  g__law_take : mg "_law_take" = some (.ref f__law_take)
  b__law_take : Binds K fd__law_take ["_law_box_here", "_law_many"] []
  f__law_folded : Addr
  fd__law_folded : FuncData
  F__law_folded : FnP K "_law_folded" s__law_folded f__law_folded fd__law_folded
  g__law_folded : mg "_law_folded" = some (.ref f__law_folded)
  b__law_folded : Binds K fd__law_folded ["_law_script", "_law_many"] []
  f__law_same : Addr
  fd__law_same : FuncData
  F__law_same : FnP K "_law_same" s__law_same f__law_same fd__law_same
  g__law_same : mg "_law_same" = some (.ref f__law_same)
  b__law_same : Binds K fd__law_same ["_law_found", "_law_due"] []
  f__law_beat : Addr
  fd__law_beat : FuncData
  F__law_beat : FnP K "_law_beat" s__law_beat f__law_beat fd__law_beat
  g__law_beat : mg "_law_beat" = some (.ref f__law_beat)
  b__law_beat : Binds K fd__law_beat ["_law_state", "_law_up", "_law_down"] []
  f__law_right : Addr
  fd__law_right : FuncData
  F__law_right : FnP K "_law_right" s__law_right f__law_right fd__law_right
  g__law_right : mg "_law_right" = some (.ref f__law_right)
  b__law_right : Binds K fd__law_right ["_law_keeper", "_law_state"] []
  f_law : Addr
  fd_law : FuncData
  F_law : FnP K "law" s_law f_law fd_law
  g_law : mg "law" = some (.ref f_law)
  b_law : Binds K fd_law ["_law_script"] []
  C_Keeper : Addr
  g_Keeper : mg "Keeper" = some (.ref C_Keeper)
  cl_Keeper : Cls K C_Keeper
  mk_Keeper : L2.Mk K C_Keeper f_Keeper___init__
  na_Keeper_at : NoAttr K C_Keeper "at"
  na_Keeper_beats : NoAttr K C_Keeper "beats"
  na_Keeper_downs_lost : NoAttr K C_Keeper "downs_lost"
  na_Keeper_most : NoAttr K C_Keeper "most"
  na_Keeper_ups_lost : NoAttr K C_Keeper "ups_lost"
  mt_Keeper_beat : Meth K C_Keeper "beat" f_Keeper_beat
  mt_Keeper_at_now : Meth K C_Keeper "at_now" f_Keeper_at_now
  mt_Keeper_lost_now : Meth K C_Keeper "lost_now" f_Keeper_lost_now
  mt_Keeper_beats_now : Meth K C_Keeper "beats_now" f_Keeper_beats_now
  m_abs : mg "abs" = none
  m_all : mg "all" = none
  m_bool : mg "bool" = none
  m_divmod : mg "divmod" = none
  m_enumerate : mg "enumerate" = none
  m_int : mg "int" = none
  m_isinstance : mg "isinstance" = none
  m_len : mg "len" = none
  m_list : mg "list" = none
  m_max : mg "max" = none
  m_min : mg "min" = none
  m_range : mg "range" = none
  m_tuple : mg "tuple" = none
  m_zip : mg "zip" = none
theorem bt_abs : bootBuiltins "abs" = some (.builtin "abs") := by decide +kernel
theorem bt_all : bootBuiltins "all" = some (.builtin "all") := by decide +kernel
theorem bt_bool : bootBuiltins "bool" = some (.type "bool") := by decide +kernel
theorem bt_divmod : bootBuiltins "divmod" = some (.builtin "divmod") := by decide +kernel
theorem bt_enumerate : bootBuiltins "enumerate" = some (.type "enumerate") := by decide +kernel
theorem bt_int : bootBuiltins "int" = some (.type "int") := by decide +kernel
theorem bt_isinstance : bootBuiltins "isinstance" = some (.builtin "isinstance") := by decide +kernel
theorem bt_len : bootBuiltins "len" = some (.builtin "len") := by decide +kernel
theorem bt_list : bootBuiltins "list" = some (.type "list") := by decide +kernel
theorem bt_max : bootBuiltins "max" = some (.builtin "max") := by decide +kernel
theorem bt_min : bootBuiltins "min" = some (.builtin "min") := by decide +kernel
theorem bt_range : bootBuiltins "range" = some (.type "range") := by decide +kernel
theorem bt_tuple : bootBuiltins "tuple" = some (.type "tuple") := by decide +kernel
theorem bt_zip : bootBuiltins "zip" = some (.type "zip") := by decide +kernel
def frT (t b : Int) : Int := (b.sign * t) / (Int.gcd t b : Int)
def frB (t b : Int) : Int := (b.natAbs : Int) / (Int.gcd t b : Int)
theorem fr_ex (t : Int) {b : Int} (hb : b ≠ 0) : ∃ (g : Nat) (x y : Int), 0 < g ∧ Int.gcd t b = g ∧ t = (g : Int) * x ∧ b = (g : Int) * y ∧ y ≠ 0 ∧ Int.gcd x y = 1 := by
  have hg : 0 < Int.gcd t b := Int.gcd_pos_of_ne_zero_right t hb
  obtain ⟨x, hx⟩ := Int.gcd_dvd_left t b
  obtain ⟨y, hy⟩ := Int.gcd_dvd_right t b
  refine ⟨Int.gcd t b, x, y, hg, rfl, hx, hy, fun e => hb (by rw [hy, e, Int.mul_zero]), ?_⟩
  generalize eg : Int.gcd t b = g at hg hx hy
  have e : g = g * Int.gcd x y := by
    rw [← eg]
    conv => lhs; rw [hx, hy, Int.gcd_mul_left]
    rw [Int.natAbs_natCast, eg]
  exact Nat.eq_of_mul_eq_mul_left hg (by rw [← e, Nat.mul_one])
theorem sgn {b : Int} {g : Nat} {y : Int} (hg : 0 < g) (hb : b = (g : Int) * y) : b.sign = y.sign := by
  rw [hb, Int.sign_mul, Int.sign_eq_one_of_pos (by omega), Int.one_mul]
theorem fr_vals {t b : Int} {g : Nat} {x y : Int} (hg : 0 < g) (eg : Int.gcd t b = g) (ht : t = (g : Int) * x) (hb : b = (g : Int) * y) : frT t b = y.sign * x ∧ frB t b = (y.natAbs : Int) := by
  have g0 : (g : Int) ≠ 0 := by omega
  constructor
  · unfold frT
    rw [eg, sgn hg hb, ht, show y.sign * ((g : Int) * x) = (g : Int) * (y.sign * x) by rw [Int.mul_left_comm]]
    exact Int.mul_ediv_cancel_left _ g0
  · unfold frB
    rw [eg, hb, Int.natAbs_mul, Int.natAbs_natCast, Int.natCast_mul]
    exact Int.mul_ediv_cancel_left _ g0
theorem sgn_abs {y : Int} (hy : y ≠ 0) : y.sign.natAbs = 1 := Int.natAbs_sign_of_ne_zero hy
theorem fr_pos (t : Int) {b : Int} (hb : b ≠ 0) : 0 < frB t b := by
  obtain ⟨g, x, y, hg, eg, ht, hy, hy0, h1⟩ := fr_ex t hb
  rw [(fr_vals hg eg ht hy).2]
  omega
theorem fr_gcd (t : Int) {b : Int} (hb : b ≠ 0) : Int.gcd (frT t b) (frB t b) = 1 := by
  obtain ⟨g, x, y, hg, eg, ht, hy, hy0, h1⟩ := fr_ex t hb
  rw [(fr_vals hg eg ht hy).1, (fr_vals hg eg ht hy).2]
  show Nat.gcd (y.sign * x).natAbs ((y.natAbs : Int)).natAbs = 1
  rw [Int.natAbs_mul, sgn_abs hy0, Nat.one_mul, Int.natAbs_natCast]
  exact h1
theorem fr_eq (t : Int) {b : Int} (hb : b ≠ 0) : frT t b * b = t * frB t b := by
  obtain ⟨g, x, y, hg, eg, ht, hy, hy0, h1⟩ := fr_ex t hb
  rw [(fr_vals hg eg ht hy).1, (fr_vals hg eg ht hy).2]
  rw [ht, hy]
  have e : y * y.sign = (y.natAbs : Int) := Int.mul_sign_self y
  rw [← e]
  simp only [Int.mul_comm, Int.mul_left_comm, Int.mul_assoc]
theorem fr_absT (t : Int) {b : Int} (hb : b ≠ 0) : (frT t b).natAbs ≤ t.natAbs := by
  obtain ⟨g, x, y, hg, eg, ht, hy, hy0, h1⟩ := fr_ex t hb
  rw [(fr_vals hg eg ht hy).1, ht, Int.natAbs_mul, sgn_abs hy0, Nat.one_mul, Int.natAbs_mul, Int.natAbs_natCast]
  exact Nat.le_mul_of_pos_left _ hg
theorem fr_absB (t : Int) {b : Int} (hb : b ≠ 0) : (frB t b).natAbs ≤ b.natAbs := by
  obtain ⟨g, x, y, hg, eg, ht, hy, hy0, h1⟩ := fr_ex t hb
  rw [(fr_vals hg eg ht hy).2, hy, Int.natAbs_mul, Int.natAbs_natCast, Int.natAbs_natCast]
  exact Nat.le_mul_of_pos_left _ hg
theorem fr_negT (t b : Int) : frT (-t) (-b) = frT t b := by
  unfold frT
  rw [Int.sign_neg, Int.neg_mul_neg, Int.gcd_neg, Int.neg_gcd]
theorem fr_negB (t b : Int) : frB (-t) (-b) = frB t b := by
  unfold frB
  rw [Int.natAbs_neg, Int.gcd_neg, Int.neg_gcd]
/-- what the program's two ways reckon -/
theorem fd_pos {g : Nat} {x : Int} (hg : 0 < g) : ((g : Int) * x).fdiv (g : Int) = x := by
  rw [Int.fdiv_eq_ediv_of_nonneg _ (by omega)]
  exact Int.mul_ediv_cancel_left _ (by omega)
theorem fd_neg {g : Nat} {x : Int} (hg : 0 < g) : ((g : Int) * x).fdiv (-(g : Int)) = -x := by
  rw [show (g : Int) * x = -(g : Int) * (-x) by rw [Int.neg_mul_neg]]
  exact Int.mul_fdiv_cancel_left _ (by omega)
theorem fr_lt (t : Int) {b : Int} (hb : b < 0) : t.fdiv (-(Int.gcd t b : Int)) = frT t b ∧ b.fdiv (-(Int.gcd t b : Int)) = frB t b := by
  obtain ⟨g, x, y, hg, eg, ht, hy, hy0, h1⟩ := fr_ex t (show b ≠ 0 by omega)
  rw [(fr_vals hg eg ht hy).1, (fr_vals hg eg ht hy).2, eg]
  have yn : y < 0 := by
    rw [hy] at hb
    exact Int.neg_of_mul_neg_right hb (by omega)
  constructor
  · conv => lhs; rw [ht]
    rw [fd_neg hg, Int.sign_eq_neg_one_of_neg yn]
    omega
  · conv => lhs; rw [hy]
    rw [fd_neg hg]
    omega
theorem fr_ge (t : Int) {b : Int} (hb : 0 < b) : t.fdiv (Int.gcd t b : Int) = frT t b ∧ b.fdiv (Int.gcd t b : Int) = frB t b := by
  obtain ⟨g, x, y, hg, eg, ht, hy, hy0, h1⟩ := fr_ex t (show b ≠ 0 by omega)
  rw [(fr_vals hg eg ht hy).1, (fr_vals hg eg ht hy).2, eg]
  have yn : 0 < y := by
    rw [hy] at hb
    exact Int.pos_of_mul_pos_right hb (by omega)
  constructor
  · conv => lhs; rw [ht]
    rw [fd_pos hg, Int.sign_eq_one_of_pos yn]
    omega
  · conv => lhs; rw [hy]
    rw [fd_pos hg]
    omega
/-! sizes -/
def S (n : Nat) (x : Int) : Prop := x.natAbs < 2 ^ n
theorem S.mono {n m : Nat} {x : Int} (h : S n x) (l : n ≤ m) : S m x := Nat.lt_of_lt_of_le h (Nat.pow_le_pow_right (by decide) l)
theorem S.mul {n m : Nat} {x y : Int} (h : S n x) (k : S m y) : S (n + m) (x * y) := by
  unfold S at *
  rw [Int.natAbs_mul, Nat.pow_add]
  exact Nat.mul_lt_mul'' h k
theorem S.add {n : Nat} {x y : Int} (h : S n x) (k : S n y) : S (n + 1) (x + y) := by
  unfold S at *
  rw [Nat.pow_succ]
  omega
theorem S.sub {n : Nat} {x y : Int} (h : S n x) (k : S n y) : S (n + 1) (x - y) := by
  unfold S at *
  rw [Nat.pow_succ]
  omega
theorem S.frT {n : Nat} {t b : Int} (h : S n t) (hb : b ≠ 0) : S n (frT t b) := Nat.lt_of_le_of_lt (fr_absT t hb) h
theorem S.frB {n : Nat} {t b : Int} (h : S n b) (hb : b ≠ 0) : S n (frB t b) := Nat.lt_of_le_of_lt (fr_absB t hb) h
theorem abs_eq (i : Int) : (if i < 0 then -i else i) = (i.natAbs : Int) := by
  split <;> omega
/-! the same rules with the written part by its name: for the inside of comprehensions -/
theorem pg_tupK {X : Cx} {K : PySem.W.Frag} {es : List Expr} {k n : Nat} {pos : Pos} {t : TGs} (h : X.K = K) (hc : X.calm = true) (hg : PGs X es t) (hn : (assignEach es X.env).length = n := by rfl) (hst : (assignEach es X.env).findIdx? (·.1) = none := by rfl) : PG X (.Tuple es k pos) (gTup K n t) := by
  subst h
  exact pg_tup hc hg hn hst
theorem isiK {X : Cx} {K : PySem.W.Frag} (h : X.K = K) : CallR X (.builtin "isinstance") (rIsi K) := by
  subst h
  exact call_isi
theorem ixlK {X : Cx} {K : PySem.W.Frag} (h : X.K = K) : IxR X (rIxL K) := by
  subst h
  exact ix_list
theorem ixtK {X : Cx} {K : PySem.W.Frag} (h : X.K = K) : IxR X (rIxT K) := by
  subst h
  exact ix_tup
theorem lenK {X : Cx} {K : PySem.W.Frag} (h : X.K = K) : CallR X (.builtin "len") (fun xs H Q => ∃ p ys, xs = [.ref p] ∧ (SqL K H p ys ∨ SqT K H p ys) ∧ Q (.int ys.length) H) := by
  subst h
  exact call_len_seq
theorem sumK {X : Cx} {K : PySem.W.Frag} (h : X.K = K) (hc : X.calm = true) : CallR X (.builtin "sum") (rSum K) := by
  subst h
  exact cr_sum hc
theorem yes_ite {σ : L2.St} {H : Hp} {A B : Hp → Prop} (h : A H) : tYes σ H (fun b H3 => if b = true then A H3 else B H3) := by
  show if true = true then A H else B H
  rw [if_pos rfl]
  exact h
/-! heaps -/
theorem same_upd {H : Hp} {p : Addr} {o : HO} (h : H p = none) : Same H (upd H p o) := fun b x e => by
  rw [upd_ne (ne_of_none e h)]
  exact e
def But (p : Addr) (H H' : Hp) : Prop := ∀ b o, b ≠ p → H b = some o → H' b = some o
theorem But.trans {p : Addr} {H H1 H2 : Hp} (a : But p H H1) (b : But p H1 H2) : But p H H2 := fun c o n e => b c o n (a c o n e)
theorem But.refl (p : Addr) (H : Hp) : But p H H := fun _ _ _ e => e
theorem But.put {p : Addr} {H H' : Hp} {o : HO} (a : But p H H') : But p H (L2.upd H' p o) := fun c x n e => by
  rw [upd_ne n]
  exact a c x n e
theorem same_but {p : Addr} {H H' : Hp} (a : Same H H') : But p H H' := fun c x _ e => a c x e
theorem But.new {p q : Addr} {H H' : Hp} {o : HO} (a : But p H H') (n : H' q = none) : But p H (upd H' q o) := fun c x hn e => by
  have e2 := a c x hn e
  rw [upd_ne (ne_of_none e2 n)]
  exact e2
/-- objects made since H may change: what H has stays -/
theorem same_newer {H H' : Hp} {q : Addr} {o : HO} (a : Same H H') (n : H q = none) : Same H (upd H' q o) := fun c x e => by
  rw [upd_ne (ne_of_none e n)]
  exact a c x e
theorem But.same {p : Addr} {H H1 H2 : Hp} (n : H p = none) (a : Same H H1) (b : But p H1 H2) : Same H H2 := fun c x e =>
  b c x (ne_of_none e n) (a c x e)
/-- the box: a rest, a begin, how often -/
def Bx (H : Hp) (p : Addr) (n : Nat) : Prop := ∃ a b c : Int, H p = some (.lst [.int a, .int b, .int c]) ∧ 0 ≤ a ∧ 0 ≤ b ∧ b < 2147483647 ∧ 0 ≤ c ∧ c ≤ n
theorem Bx.same {H H' : Hp} {p : Addr} {n : Nat} (h : Bx H p n) (s : Same H H') : Bx H' p n := by
  obtain ⟨a, b, c, hp, r⟩ := h
  exact ⟨a, b, c, s _ _ hp, r⟩
theorem Bx.mono {H : Hp} {p : Addr} {n m : Nat} (h : Bx H p n) (l : n ≤ m) : Bx H p m := by
  obtain ⟨a, b, c, hp, h1, h2, h3, h4, h5⟩ := h
  exact ⟨a, b, c, hp, h1, h2, h3, h4, by omega⟩
theorem Bx.new {H : Hp} {p q : Addr} {n : Nat} {o : HO} (h : Bx H p n) (nq : H q = none) : Bx (L2.upd H q o) p n := h.same (same_upd nq)
theorem Bx.ne_tup {H : Hp} {p q : Addr} {n : Nat} {xs : List V} (h : Bx H p n) (e : H q = some (.tup xs)) : q ≠ p := by
  obtain ⟨a, b, c, hp, _⟩ := h
  exact ne_of e hp (fun z => by cases z)
/-- an item of a menu of numbers -/
theorem at_menu {Pr : Int → Prop} {xs : List Int} {r : Int} (h0 : 0 ≤ r) (h1 : r < xs.length) (hx : ∀ x, x ∈ xs → Pr x) : ∃ v, atI (xs.map V.int) r = some (V.int v) ∧ Pr v := by
  obtain ⟨j, rfl⟩ := Int.eq_ofNat_of_zero_le h0
  have hj : j < xs.length := by omega
  refine ⟨xs[j], atI_nat (by rw [List.getElem?_map, List.getElem?_eq_getElem hj]; rfl), hx _ (List.getElem_mem hj)⟩
theorem SqL.mk {K : PySem.W.Frag} {H : Hp} {a : Addr} {xs : List V} (h : H a = some (.lst xs)) : SqL K H a xs := .inl (.inl h)
theorem SqT.mk {K : PySem.W.Frag} {H : Hp} {a : Addr} {xs : List V} (h : H a = some (.tup xs)) : SqT K H a xs := .inl (.inl h)
theorem same_tup {K : PySem.W.Frag} {H H' : Hp} {a : Addr} {xs : List V} (e : Same H H') (h : SqT K H a xs) : SqT K H' a xs := by
  rcases h with (h | ⟨o, h⟩) | h
  · exact .inl (.inl (e _ _ h))
  · exact .inl (.inr ⟨o, e _ _ h⟩)
  · exact .inr h
theorem ixn {n j : Nat} (hj : j < n) : ixN n (j : Int) = some j := by
  unfold ixN
  rw [if_pos (by omega), if_pos (by omega)]
  simp
theorem cdivP {a m : Int} (h0 : 0 < m) (h1 : m < 2 ^ 60) : CDivP a m := ⟨h0, PyProof.noPylong_of_log2 (wide_div (i := a) (b := 60) h0 (by omega) (by decide) (by decide)).2⟩
theorem i01 {c : Prop} [Decidable c] : -(2 ^ 64) < (if c then (1 : Int) else 0) ∧ (if c then (1 : Int) else 0) < 2 ^ 64 := by
  split <;> decide
theorem i01n {c : Prop} [Decidable c] : 0 ≤ (if c then (1 : Int) else 0) := by
  split <;> decide
theorem absn (i : Int) : 0 ≤ (if i < 0 then -i else i) := by
  split <;> omega
/-! the box of a cell -/
def sp__law_box (K : PySem.W.Frag) : Sp := fun vs H Q _ => ∃ (a : Addr) (ns : List Int) (k : Nat), vs = [.ref a, .int (k : Nat)] ∧ SqL K H a (ns.map V.int) ∧ k < 1000 ∧
  ∀ H' p, Same H H' → H p = none → Bx H' p 0 → Q (.ref p) H'
theorem ok__law_box (T : Defs K mg) : FnOk P w K mg base CX0 1 T.f__law_box T.fd__law_box ["_law_script", "_law_k"] (sp__law_box K) := by
  refine T.F__law_box.ok sc__law_box (fun vs H Q E h => ?_) (fun cdv A outer s H vs Q E hr h => ?_)
  · obtain ⟨a, ns, k, rfl, hS, hk, q⟩ := h
    rfl
  · obtain ⟨a, ns, k, rfl, hS, hk, q⟩ := h
    refine ⟨_, PSs.nox (pss_cons (ps_set (i := 2) sc__law_box.nd rfl (.inl rfl) pe_int)
    (pss_cons (ps_if (pt_cmpR op_lt (pv 1) (pe_callB call_len_seq (by rfl) T.m_len bt_len (pa_cons (pv 0) pa_nil)) (nomark _)) (pss_one (ps_set (i := 2) sc__law_box.nd rfl (.inl rfl) (pe_ix ix_list (pv 0) (pv 1) (fun _ _ => rfl)))) pss_nil)
    (pss_one (ps_ret (pe_lst (pa_cons (pe_op op_mul (pe_callB call_abs (by rfl) T.m_abs bt_abs (pa_cons (pv 2) pa_nil)) (pe_callTy call_int1 (by rfl) T.m_int bt_int (pa_cons (pe_cmpR op_ge (pe_callB call_abs (by rfl) T.m_abs bt_abs (pa_cons (pv 2) pa_nil)) (pe_op op_pow pe_int pe_int) (nomark _)) pa_nil))) (pa_cons (pe_op op_mod (pe_op op_add (pv 2) (pe_op op_mul (pe_op op_mul pe_int (pv 1)) (pv 1))) pe_int) (pa_cons pe_int pa_nil)))))))), ?_⟩
    refine ⟨.int k, rfl, .ref a, rfl, a, _, rfl, .inl hS, _, _, rfl, rfl, _, rfl, ite2 (fun e => ?_) (fun e => ?_)⟩
    · have hl : (k : Int) < ((ns.map V.int).length : Nat) := of_decide_eq_true e
      rw [List.length_map] at hl
      have hj : k < ns.length := by omega
      refine ⟨.ref a, rfl, .int k, rfl, a, _, _, .int ns[k], rfl, rfl, hS, atI_nat (by rw [List.getElem?_map, List.getElem?_eq_getElem hj]; rfl), ?_⟩
      refine ⟨_, rfl, _, rfl, _, rfl, _, rfl, _, _, rfl, rfl, ⟨by decide, by decide, by decide⟩, _, _, rfl, rfl, .inr ⟨_, rfl, _, _, rfl, rfl, .inr i01, _, rfl, .int k, rfl, _, _, rfl, rfl, .inl ⟨by decide, by decide⟩, .int k, rfl, _, _, rfl, rfl, .inr ⟨by omega, by omega⟩, _, _, rfl, rfl, _, _, rfl, rfl, (show (0 : Int) < 2147483647 by decide), (show 3 ≤ sizeLine by decide), fun p np => ?_⟩⟩
      refine q _ p (same_upd np) np ⟨_, _, _, upd_same, ?_, Int.emod_nonneg _ (by decide), Int.emod_lt_of_pos _ (by decide), Int.le_refl 0, Int.le_refl 0⟩
      exact Int.mul_nonneg (absn _) i01n
    · refine ⟨_, rfl, _, rfl, _, rfl, _, rfl, _, _, rfl, rfl, ⟨by decide, by decide, by decide⟩, _, _, rfl, rfl, .inr ⟨_, rfl, _, _, rfl, rfl, .inr i01, _, rfl, .int k, rfl, _, _, rfl, rfl, .inl ⟨by decide, by decide⟩, .int k, rfl, _, _, rfl, rfl, .inr ⟨by omega, by omega⟩, _, _, rfl, rfl, _, _, rfl, rfl, (show (0 : Int) < 2147483647 by decide), (show 3 ≤ sizeLine by decide), fun p np => ?_⟩⟩
      refine q _ p (same_upd np) np ⟨_, _, _, upd_same, ?_, Int.emod_nonneg _ (by decide), Int.emod_lt_of_pos _ (by decide), Int.le_refl 0, Int.le_refl 0⟩
      exact Int.mul_nonneg (absn _) i01n
/-! one number taken -/
def sp__law_take (K : PySem.W.Frag) : Sp := fun vs H Q _ => ∃ (p : Addr) (m : Int) (n : Nat), vs = [.ref p, .int m] ∧ Bx H p n ∧ 0 < m ∧ m < 2 ^ 60 ∧ n < 1000000000000 ∧
  ∀ H' r, But p H H' → Bx H' p (n + 1) → 0 ≤ r → r < m → Q (.int r) H'
theorem ok__law_take (T : Defs K mg) : FnOk P w K mg base CX0 1 T.f__law_take T.fd__law_take ["_law_box_here", "_law_many"] (sp__law_take K) := by
  refine T.F__law_take.ok sc__law_take (fun vs H Q E h => ?_) (fun cdv A outer s H vs Q E hr h => ?_)
  · obtain ⟨p, m, n, rfl, ⟨a, b, c, hp, ha, hb, hb2, hc, hc2⟩, h0, h1, hn, q⟩ := h
    rfl
  · obtain ⟨p, m, n, rfl, ⟨a, b, c, hp, ha, hb, hb2, hc, hc2⟩, h0, h1, hn, q⟩ := h
    refine ⟨_, PSs.nox (pss_cons (ps_if (pt_cmpR op_gt (pe_ix ix_list (pv 0) pe_int (fun _ _ => rfl)) pe_int (nomark _)) (pss_cons (ps_asg (pe_callB call_divmodW (by rfl) T.m_divmod bt_divmod (pa_cons (pe_ix ix_list (pv 0) pe_int (fun _ _ => rfl)) (pa_cons (pv 1) pa_nil))) (pg_tup rfl (pgs_cons (pg_sub (pv 0) pe_int set_list) (pgs_cons (pg_name (i := 2) sc__law_take.nd rfl (.inl rfl)) pgs_nil))))
    (pss_one (ps_ret (pv 2)))) pss_nil)
    (pss_cons (ps_asg (pe_op op_add (pe_ix ix_list (pv 0) pe_int (fun _ _ => rfl)) pe_int) (pg_sub (pv 0) pe_int set_list))
    (pss_cons (ps_set (i := 3) sc__law_take.nd rfl (.inl rfl) (pe_op op_mod (pe_op op_pow (pe_op op_add (pe_ix ix_list (pv 0) pe_int (fun _ _ => rfl)) (pe_op op_mul pe_int (pe_ix ix_list (pv 0) pe_int (fun _ _ => rfl)))) pe_int) pe_int))
    (pss_one (ps_ret (pe_op op_mod (pe_op op_fdiv (pe_op op_mod (pe_op op_add (pe_op op_mul (pv 3) pe_int) (pe_op op_mul (pe_op op_mul (pe_ix ix_list (pv 0) pe_int (fun _ _ => rfl)) (pe_ix ix_list (pv 0) pe_int (fun _ _ => rfl))) pe_int)) pe_int) pe_int) (pv 1))))))), ?_⟩
    have SQ : SqL K H p [.int a, .int b, .int c] := SqL.mk hp
    refine ⟨.ref p, rfl, p, _, 0, _, rfl, rfl, SQ, atI_nat (j := 0) rfl, _, _, rfl, rfl, _, rfl, ite2 (fun e => ?_) (fun e => ?_)⟩
    · refine ⟨.ref p, rfl, p, _, 0, _, rfl, rfl, SQ, atI_nat (j := 0) rfl, .int m, rfl, a, m, rfl, cdivP h0 h1, fun t nt => ?_⟩
      have hp1 : (upd H t (.tup [.int (a / m), .int (a % m)])) p = some (.lst [.int a, .int b, .int c]) := by
        rw [upd_ne (ne_of_none hp nt)]
        exact hp
      refine ⟨t, _, rfl, SqT.mk upd_same, rfl, _, _, rfl, .ref p, rfl, p, _, 0, 0, rfl, rfl, hp1, rfl, _, _, rfl, rfl, _, rfl, ?_⟩
      refine q _ _ ((But.refl p H).new nt).put ⟨_, _, _, upd_same, Int.ediv_nonneg ha (by omega), hb, hb2, hc, by omega⟩ (Int.emod_nonneg _ (by omega)) (Int.emod_lt_of_pos _ h0)
    · refine ⟨.ref p, rfl, p, _, 2, _, rfl, rfl, SQ, atI_nat (j := 2) rfl, _, _, rfl, rfl, .ref p, rfl, p, _, 2, 2, rfl, rfl, hp, rfl, ?_⟩
      have SQ1 : SqL K (upd H p (.lst [.int a, .int b, .int (c + 1)])) p [.int a, .int b, .int (c + 1)] := SqL.mk upd_same
      refine ⟨.ref p, rfl, p, _, 1, _, rfl, rfl, SQ1, atI_nat (j := 1) rfl, .ref p, rfl, p, _, 2, _, rfl, rfl, SQ1, atI_nat (j := 2) rfl, _, _, rfl, rfl, .inl ⟨by decide, by decide⟩, _, _, rfl, rfl, _, _, rfl, rfl, ⟨by decide, by decide, by omega⟩, _, _, rfl, rfl, (show (0 : Int) < 2147483647 by decide), ?_⟩
      refine ⟨_, rfl, _, _, rfl, rfl, .inr ⟨by decide, by decide⟩, .ref p, rfl, p, _, 2, _, rfl, rfl, SQ1, atI_nat (j := 2) rfl, .ref p, rfl, p, _, 2, _, rfl, rfl, SQ1, atI_nat (j := 2) rfl, _, _, rfl, rfl, .inl ⟨by omega, by omega⟩, _, _, rfl, rfl, .inr ⟨by decide, by decide⟩, _, _, rfl, rfl, _, _, rfl, rfl, (show (0 : Int) < 2147483629 by decide), _, _, rfl, rfl, ⟨by decide, by decide⟩, .int m, rfl, _, _, rfl, rfl, h0, ?_⟩
      refine q _ _ (But.refl p H).put ⟨_, _, _, upd_same, ha, hb, hb2, by omega, by omega⟩ (Int.emod_nonneg _ (by omega)) (Int.emod_lt_of_pos _ h0)
/-! the folded cells -/
theorem cut_take (ns : List Int) (m : Nat) : cutV (ns.map V.int) none (some (m : Int)) = (ns.take m).map V.int := by
  unfold cutV
  rw [HT.sIx_none, HT.sIx_nat, List.drop_zero, List.length_map, Nat.sub_zero, ← List.map_take]
  congr 1
  by_cases h : m ≤ ns.length
  · rw [Nat.min_eq_left h]
  · rw [Nat.min_eq_right (by omega), List.take_length, List.take_of_length_le (by omega)]
theorem cut_rest (ns : List Int) (m k : Nat) : ∃ ms : List Int, cutV (ns.map V.int) (some (m : Int)) (some (k : Int)) = ms.map V.int ∧ (0 < ms.length → m < ns.length) ∧ ms.length ≤ ns.length := by
  unfold cutV
  rw [HT.sIx_nat, HT.sIx_nat, List.length_map]
  refine ⟨(ns.drop (min m ns.length)).take (min k ns.length - min m ns.length), ?_, fun h => ?_, ?_⟩
  · rw [List.map_take, List.map_drop]
  · rw [List.length_take, List.length_drop] at h
    omega
  · rw [List.length_take, List.length_drop]
    omega
def sp__law_folded (K : PySem.W.Frag) : Sp := fun vs H Q _ => ∃ (a : Addr) (ns : List Int) (m : Nat), vs = [.ref a, .int (m : Nat)] ∧ SqL K H a (ns.map V.int) ∧ ns.length ≤ 63 ∧ 0 < m ∧ m < 64 ∧
  ∀ H' p (cs : List Int), Same H H' → H p = none → H' p = some (.lst (cs.map V.int)) → cs.length ≤ m → Q (.ref p) H'
theorem ok__law_folded (T : Defs K mg) : FnOk P w K mg base CX0 1 T.f__law_folded T.fd__law_folded ["_law_script", "_law_many"] (sp__law_folded K) := by
  refine T.F__law_folded.ok sc__law_folded (fun vs H Q E h => ?_) (fun cdv A outer s H vs Q E hr h => ?_)
  · obtain ⟨a, ns, m, rfl, hS, hlen, hm, hm2, q⟩ := h
    rfl
  · obtain ⟨a, ns, m, rfl, hS, hlen, hm, hm2, q⟩ := h
    refine ⟨_, PSs.nox (pss_cons (ps_set (i := 2) sc__law_folded.nd rfl (.inl rfl) (pe_callTy call_list_of (by rfl) T.m_list bt_list (pa_cons (pe_slice sl_list (pv 0) po_none (po_some (pv 1))) pa_nil)))
    (pss_cons (ps_for PassesOwn.never rfl (pi_enum (by rfl) T.m_enumerate (pa_cons (pe_slice sl_list (pv 0) (po_some (pv 1)) (po_some pe_int)) pa_nil)) (pg_tup rfl (pgs_cons (pg_name (i := 3) sc__law_folded.nd rfl (.inl rfl)) (pgs_cons (pg_name (i := 4) sc__law_folded.nd rfl (.inl rfl)) pgs_nil))) (pss_one (ps_asg (pe_op op_add (pe_ix ix_list (pv 2) (pe_op op_mod (pv 3) (pv 1)) (fun _ _ => rfl)) (pe_op op_mul (pv 4) (pe_op op_add (pv 3) pe_int))) (pg_sub (pv 2) (pe_op op_mod (pv 3) (pv 1)) set_list))))
    (pss_one (ps_ret (pv 2))))), ?_⟩
    refine ⟨.ref a, rfl, .int m, rfl, m, rfl, a, _, rfl, hS, fun c nc => ?_⟩
    rw [cut_take]
    have s1 : Same H (upd H c (.lst ((ns.take m).map V.int))) := same_upd nc
    refine ⟨c, _, rfl, .inl (SqL.mk upd_same), fun l nl => ?_⟩
    have s2 := s1.trans (same_upd nl (o := .lst ((ns.take m).map V.int)))
    refine ⟨.ref a, rfl, .int m, rfl, m, rfl, 63, rfl, a, _, rfl, s2.seq hS, fun d nd => ?_⟩
    obtain ⟨ms, em, hms, hms2⟩ := cut_rest ns m 63
    rw [show (63 : Int) = ((63 : Nat) : Int) from rfl, em]
    have nl0 : H l = none := s1.free nl
    have nd0 : H d = none := s2.free nd
    have ndl : l ≠ d := fun e => by
      rw [← e, upd_same] at nd
      cases nd
    refine ⟨d, _, rfl, SqL.mk upd_same, for_it (walk_enum (xs := ms.map V.int)) (fun i σ H3 => ∃ y3 y4, ∃ cs : List Int, σ = [some (.ref a), some (.int m), some (.ref l), y3, y4] ∧ Same H H3 ∧ H3 l = some (.lst (cs.map V.int)) ∧ cs.length = (ns.take m).length ∧ H3 d = some (.lst (ms.map V.int))) ⟨none, none, ns.take m, rfl, s2.trans (same_upd nd), ?_, rfl, upd_same⟩ ?_ ?_ ?_⟩
    · rw [upd_ne ndl, upd_same]
    · rintro i σ H3 hi ⟨y3, y4, cs, rfl, s3, hl, hc, hd⟩
      exact SqL.mk hd
    · rintro i x σ H3 H4 hi ⟨y3, y4, cs, rfl, s3, hl, hc, hd⟩ ⟨t, x1, x2, rfl, nt, rfl, e1, e2⟩
      rw [List.length_map] at hi
      have lm : m < ns.length := hms (by omega)
      have lc : cs.length = m := by
        rw [hc, List.length_take]
        omega
      have ex1 : x1 = .int (i : Nat) := (Option.some.inj e1).symm
      have ex2 : x2 = .int ms[i] := by
        have e2 : (ms.map V.int)[i]? = some x2 := e2
        rw [List.getElem?_map, List.getElem?_eq_getElem hi] at e2
        exact (Option.some.inj e2).symm
      subst ex1 ex2
      have hl1 : (upd H3 t (.tup [.int (i : Nat), .int ms[i]])) l = some (.lst (cs.map V.int)) := by
        rw [upd_ne (ne_of_none hl nt)]
        exact hl
      have him : i % m < cs.length := by
        rw [lc]
        exact Nat.mod_lt _ hm
      have eim : ((i : Int) % (m : Int)) = ((i % m : Nat) : Int) := by omega
      refine ⟨t, _, rfl, SqT.mk upd_same, rfl, _, _, rfl, _, _, rfl, rfl, ?_⟩
      refine ⟨.ref l, rfl, .int (i : Nat), rfl, .int m, rfl, _, _, rfl, rfl, (show (0 : Int) < (m : Int) by omega), l, _, _, .int cs[i % m], rfl, rfl, SqL.mk hl1, ?_, .int ms[i], rfl, .int (i : Nat), rfl, _, _, rfl, rfl, _, _, rfl, rfl, .inr ⟨by omega, by omega⟩, _, _, rfl, rfl, .ref l, rfl, .int (i : Nat), rfl, .int m, rfl, _, _, rfl, rfl, (show (0 : Int) < (m : Int) by omega), l, _, _, i % m, rfl, rfl, hl1, ?_, ?_⟩
      · rw [eim]
        exact atI_nat (by rw [List.getElem?_map, List.getElem?_eq_getElem him]; rfl)
      · rw [eim]
        exact ixn (by rw [List.length_map]; exact him)
      · refine ⟨_, _, cs.set (i % m) (cs[i % m] + ms[i] * ((i : Int) + 2)), rfl, same_newer (s3.trans (same_upd nt)) nl0, ?_, by rw [List.length_set, hc], ?_⟩
        · rw [upd_same, List.map_set]
        · rw [upd_ne ndl.symm, upd_ne (ne_of_none hd nt)]
          exact hd
    · rintro σ H3 ⟨y3, y4, cs, rfl, s3, hl, hc, hd⟩
      exact ⟨.ref l, rfl, q H3 l cs s3 nl0 hl (by rw [hc, List.length_take]; omega)⟩
/-! heaps with tables -/
theorem trip0 : TriplesOk (#[] : Array Value).toList := trivial
structure Sam (H H' : Hp) : Prop where
  obj : ∀ b o, (∀ ps, o ≠ .tbl ps) → H b = some o → H' b = some o
  tab : ∀ b ps, H b = some (.tbl ps) → ∃ ps', H' b = some (.tbl ps') ∧ (TriplesOk ps.toList → TriplesOk ps'.toList)
theorem Sam.of {H H' : Hp} (s : Same H H') : Sam H H' := ⟨fun b o _ e => s b o e, fun b ps e => ⟨ps, s b _ e, fun z => z⟩⟩
theorem Sam.refl (H : Hp) : Sam H H := .of (Same.refl H)
theorem Sam.trans {H H1 H2 : Hp} (a : Sam H H1) (b : Sam H1 H2) : Sam H H2 := ⟨fun c o n e => b.obj c o n (a.obj c o n e), fun c ps e => by
  obtain ⟨p1, e1, t1⟩ := a.tab c ps e
  obtain ⟨p2, e2, t2⟩ := b.tab c p1 e1
  exact ⟨p2, e2, fun z => t2 (t1 z)⟩⟩
theorem Sam.tabG {H H' : Hp} {P : Addr} (a : Sam H H') (t : GxR.TabG H P) : GxR.TabG H' P := by
  obtain ⟨ps, e, z⟩ := t
  obtain ⟨p1, e1, t1⟩ := a.tab P ps e
  exact ⟨p1, e1, t1 z⟩
theorem Sam.tup {H H' : Hp} {a : Addr} {xs : List V} (s : Sam H H') (h : H a = some (.tup xs)) : H' a = some (.tup xs) := s.obj _ _ (fun _ z => by cases z) h
theorem Sam.lst {H H' : Hp} {a : Addr} {xs : List V} (s : Sam H H') (h : H a = some (.lst xs)) : H' a = some (.lst xs) := s.obj _ _ (fun _ z => by cases z) h
theorem Sam.free {H H' : Hp} (s : Sam H H') {l : Addr} (h : H' l = none) : H l = none := by
  cases q : H l with
  | none => rfl
  | some o =>
    cases o with
    | tbl ps =>
      obtain ⟨p1, e1, _⟩ := s.tab l ps q
      rw [e1] at h
      cases h
    | _ =>
      rw [s.obj l _ (fun _ z => by cases z) q] at h
      cases h
theorem Sam.tabbed {P : Addr} {H H' : Hp} (g : GxR.TabG H P) (t : GxR.Tabbed P H H') : Sam H H' := by
  obtain ⟨⟨p1, e1, z1⟩, k⟩ := t
  obtain ⟨p0, e0, _⟩ := g
  refine ⟨fun b o n e => ?_, fun b ps e => ?_⟩
  · by_cases hb : b = P
    · rw [hb, e0] at e
      exact absurd (Option.some.inj e).symm (n p0)
    · rw [k b hb]
      exact e
  · by_cases hb : b = P
    · rw [hb]
      exact ⟨p1, e1, fun _ => z1⟩
    · exact ⟨ps, by rw [k b hb]; exact e, fun z => z⟩
theorem sam_newer {H H' : Hp} {q : Addr} {o : HO} (a : Sam H H') (n : H q = none) : Sam H (upd H' q o) := ⟨fun c x hx e => by
    rw [upd_ne (ne_of_none e n)]
    exact a.obj c x hx e, fun c ps e => by
    obtain ⟨p1, e1, t1⟩ := a.tab c ps e
    exact ⟨p1, by rw [upd_ne (ne_of_none e n)]; exact e1, t1⟩⟩
/-- all but the box stays, tables grow -/
structure Bus (p : Addr) (H H' : Hp) : Prop where
  obj : ∀ b o, b ≠ p → (∀ ps, o ≠ .tbl ps) → H b = some o → H' b = some o
  tab : ∀ b ps, b ≠ p → H b = some (.tbl ps) → ∃ ps', H' b = some (.tbl ps') ∧ (TriplesOk ps.toList → TriplesOk ps'.toList)
theorem Bus.of {p : Addr} {H H' : Hp} (s : But p H H') : Bus p H H' := ⟨fun b o n _ e => s b o n e, fun b ps n e => ⟨ps, s b _ n e, fun z => z⟩⟩
theorem Bus.sam {p : Addr} {H H' : Hp} (s : Sam H H') : Bus p H H' := ⟨fun b o _ n e => s.obj b o n e, fun b ps _ e => s.tab b ps e⟩
theorem Bus.refl (p : Addr) (H : Hp) : Bus p H H := .of (But.refl p H)
theorem Bus.trans {p : Addr} {H H1 H2 : Hp} (a : Bus p H H1) (b : Bus p H1 H2) : Bus p H H2 := ⟨fun c o h n e => b.obj c o h n (a.obj c o h n e), fun c ps h e => by
  obtain ⟨p1, e1, t1⟩ := a.tab c ps h e
  obtain ⟨p2, e2, t2⟩ := b.tab c p1 h e1
  exact ⟨p2, e2, fun z => t2 (t1 z)⟩⟩
theorem Bus.tup {p : Addr} {H H' : Hp} {n : Nat} {a : Addr} {xs : List V} (s : Bus p H H') (B : Bx H p n) (h : H a = some (.tup xs)) : H' a = some (.tup xs) := s.obj _ _ (B.ne_tup h) (fun _ z => by cases z) h
theorem Bus.lst {p : Addr} {H H' : Hp} {a : Addr} {xs : List V} (s : Bus p H H') (ne : a ≠ p) (h : H a = some (.lst xs)) : H' a = some (.lst xs) := s.obj _ _ ne (fun _ z => by cases z) h
theorem Bus.tabG {p : Addr} {H H' : Hp} {n : Nat} {P : Addr} (s : Bus p H H') (B : Bx H p n) (t : GxR.TabG H P) : GxR.TabG H' P := by
  obtain ⟨ps, e, z⟩ := t
  obtain ⟨a, b, c, hp, _⟩ := B
  obtain ⟨p1, e1, t1⟩ := s.tab P ps (ne_of e hp (fun z => by cases z)) e
  exact ⟨p1, e1, t1 z⟩
theorem Bus.new {p q : Addr} {H H' : Hp} {o : HO} (a : Bus p H H') (n : H' q = none) : Bus p H (upd H' q o) := a.trans (.of ((But.refl p H').new n))
/-- a thing made since H may change -/
theorem bus_newer {p q : Addr} {H H' : Hp} {o : HO} (a : Bus p H H') (n : H q = none) : Bus p H (upd H' q o) := ⟨fun c x h hx e => by
    rw [upd_ne (ne_of_none e n)]
    exact a.obj c x h hx e, fun c ps h e => by
    obtain ⟨p1, e1, t1⟩ := a.tab c ps h e
    exact ⟨p1, by rw [upd_ne (ne_of_none e n)]; exact e1, t1⟩⟩
theorem Bus.free {p : Addr} {H H' : Hp} {n : Nat} (s : Bus p H H') (B : Bx H p n) (B' : ∃ m, Bx H' p m) {l : Addr} (h : H' l = none) : H l = none := by
  cases q : H l with
  | none => rfl
  | some o =>
    have nl : l ≠ p := fun z => by
      obtain ⟨m, _, _, _, hp, _⟩ := B'
      rw [z, hp] at h
      cases h
    cases o with
    | tbl ps =>
      obtain ⟨p1, e1, _⟩ := s.tab l ps nl q
      rw [e1] at h
      cases h
    | _ =>
      rw [s.obj l _ nl (fun _ z => by cases z) q] at h
      cases h
theorem Bx.sam {H H' : Hp} {p : Addr} {n : Nat} (h : Bx H p n) (s : Sam H H') : Bx H' p n := by
  obtain ⟨a, b, c, hp, r⟩ := h
  exact ⟨a, b, c, s.lst hp, r⟩
theorem bus_same {p : Addr} {H H1 H2 : Hp} (n : H p = none) (a : Sam H H1) (b : Bus p H1 H2) : Sam H H2 := ⟨fun c x h e => b.obj c x (ne_of_none e n) h (a.obj c x h e), fun c ps e => by
  obtain ⟨p1, e1, t1⟩ := a.tab c ps e
  obtain ⟨p2, e2, t2⟩ := b.tab c p1 (ne_of_none e n) e1
  exact ⟨p2, e2, fun z => t2 (t1 z)⟩⟩
theorem ne_new {H : Hp} {p q : Addr} {n : Nat} (B : Bx H p n) (nq : H q = none) : q ≠ p := fun e => by
  obtain ⟨_, _, _, hp, _⟩ := B
  rw [e, hp] at nq
  cases nq
theorem nx_via {t u : TS} {D : Ends} {r : VK} {k c : L2.St → Hp → Prop} {σ : L2.St} {H : Hp} (R : L2.St → Hp → Prop) (h1 : ∀ N : L2.St → Hp → Prop, (∀ σ H, R σ H → N σ H) → t { D with nx := N } σ H) (h2 : ∀ σ H, R σ H → u D σ H) : Ends.nx { nx := tSeq t u D, rt := r, bk := k, ct := c } σ H := h1 _ h2
theorem seq_via {t u : TS} {D : Ends} {σ : L2.St} {H : Hp} (R : L2.St → Hp → Prop) (h1 : ∀ N : L2.St → Hp → Prop, (∀ σ H, R σ H → N σ H) → t { D with nx := N } σ H) (h2 : ∀ σ H, R σ H → u D σ H) : tSeq t u D σ H := h1 _ h2
theorem nat_of {x : Int} (h : 0 ≤ x) : ∃ m : Nat, x = (m : Nat) := Int.eq_ofNat_of_zero_le h
/-! a keeper: what it holds -/
structure KS where
  most : Int
  at_ : Int
  ups : Int
  downs : Int
  beats : Int
def flds (k : KS) : List (Str × V) := [("most", .int k.most), ("at", .int k.at_), ("ups_lost", .int k.ups), ("downs_lost", .int k.downs), ("beats", .int k.beats)]
theorem fl_most (k : KS) : (flds k).lookup ("most" : Str) = some (.int k.most) := by kernel_rfl
theorem fl_at (k : KS) : (flds k).lookup ("at" : Str) = some (.int k.at_) := by kernel_rfl
theorem fl_ups (k : KS) : (flds k).lookup ("ups_lost" : Str) = some (.int k.ups) := by kernel_rfl
theorem fl_downs (k : KS) : (flds k).lookup ("downs_lost" : Str) = some (.int k.downs) := by kernel_rfl
theorem fl_beats (k : KS) : (flds k).lookup ("beats" : Str) = some (.int k.beats) := by kernel_rfl
theorem fl_nobeat (k : KS) : (flds k).lookup ("beat" : Str) = none := by kernel_rfl
theorem fl_noat (k : KS) : (flds k).lookup ("at_now" : Str) = none := by kernel_rfl
theorem fl_nolost (k : KS) : (flds k).lookup ("lost_now" : Str) = none := by kernel_rfl
theorem fl_nobeats (k : KS) : (flds k).lookup ("beats_now" : Str) = none := by kernel_rfl
theorem pf_at (k : KS) (x : Int) : putF "at" (.int x) (flds k) = flds { k with at_ := x } := by kernel_rfl
theorem pf_ups (k : KS) (x : Int) : putF "ups_lost" (.int x) (flds k) = flds { k with ups := x } := by kernel_rfl
theorem pf_downs (k : KS) (x : Int) : putF "downs_lost" (.int x) (flds k) = flds { k with downs := x } := by kernel_rfl
theorem pf_beats (k : KS) (x : Int) : putF "beats" (.int x) (flds k) = flds { k with beats := x } := by kernel_rfl
theorem pf_init (m a : Int) : putF "beats" (.int 0) (putF "downs_lost" (.int 0) (putF "ups_lost" (.int 0) (putF "at" (.int a) (putF "most" (.int m) [])))) = flds ⟨m, a, 0, 0, 0⟩ := by kernel_rfl
theorem fl_len (k : KS) : (flds k).length < 1000 := (by decide : 5 < 1000)
def KAt (C : Addr) (H : Hp) (x : Addr) (k : KS) : Prop := ∃ dx, H x = some (.ins C dx (flds k))
theorem KAt.but {C : Addr} {H H' : Hp} {x p : Addr} {k : KS} (h : KAt C H x k) (c : But p H H') (n : x ≠ p) : KAt C H' x k := let ⟨dx, e⟩ := h; ⟨dx, c _ _ n e⟩
theorem KAt.same {C : Addr} {H H' : Hp} {x : Addr} {k : KS} (h : KAt C H x k) (s : Same H H') : KAt C H' x k := let ⟨dx, e⟩ := h; ⟨dx, s _ _ e⟩
/-- what is held behind a beat -/
def mvd (m a u d : Int) : Int := if d < u then (if m ≤ a then a else a + 1) else if u < d then (if a ≤ 0 then a else a - 1) else a
def Bt (u : Int) : Prop := u = 0 ∨ u = 1
def KS.beat (k : KS) (u d : Int) : KS :=
  { most := k.most, at_ := mvd k.most k.at_ u d, ups := if d < u ∧ mvd k.most k.at_ u d = k.at_ then k.ups + 1 else k.ups, downs := if u < d ∧ mvd k.most k.at_ u d = k.at_ then k.downs + 1 else k.downs, beats := k.beats + 1 }
def sp_moved (_ : PySem.W.Frag) : Sp := fun vs H Q _ => ∃ m a u d : Int, vs = [.int m, .int a, .int u, .int d] ∧ Bt u ∧ Bt d ∧ Q (.int (mvd m a u d)) H
theorem ok_moved (T : Defs K mg) : FnOk P w K mg base CX0 1 T.f_moved T.fd_moved ["most", "at", "up", "down"] (sp_moved K) := by
  refine T.F_moved.ok sc_moved (fun vs H Q E h => ?_) (fun cdv A outer s H vs Q E hr h => ?_)
  · obtain ⟨m, a, u, d, rfl, hu, hd, q⟩ := h
    rfl
  · obtain ⟨m, a, u, d, rfl, hu, hd, q⟩ := h
    refine ⟨_, PSs.nox (pss_cons (ps_if (PW.pt (pw_or (PW.pt (pw_and (pt_cmpR op_gt (pv 2) (pv 3) (nomark _)) (pw_and1 (pt_cmpR op_ge (pv 1) (pv 0) (nomark _))))) (pw_or1 (PW.pt (pw_and (pt_cmpR op_lt (pv 2) (pv 3) (nomark _)) (pw_and1 (pt_cmpR op_le (pv 1) pe_int (nomark _)))))))) (pss_one (ps_ret (pv 1))) pss_nil)
    (pss_one (ps_ret (pe_op op_sub (pe_op op_add (pv 1) (pv 2)) (pv 3))))), ?_⟩
    unfold mvd at q
    have bu : -(2 ^ 64) < u ∧ u < 2 ^ 64 := by rcases hu with rfl | rfl <;> omega
    have fin : ∀ x : Int, (if d < u then (if m ≤ a then a else a + 1) else if u < d then (if a ≤ 0 then a else a - 1) else a) = x → Q (.int x) H := fun x e => by rw [← e]; exact q
    refine ⟨_, rfl, _, rfl, _, _, rfl, rfl, _, rfl, ite2 (fun e1 => ?_) (fun e1 => ?_)⟩
    · have l : d < u := of_decide_eq_true e1
      refine ⟨_, rfl, _, rfl, _, _, rfl, rfl, _, rfl, ite2 (fun e2 => ?_) (fun e2 => ?_)⟩
      · have l2 : m ≤ a := of_decide_eq_true e2
        exact ⟨_, rfl, fin _ (by rw [if_pos l, if_pos l2])⟩
      · have l2 : ¬ m ≤ a := fun z => e2 (decide_eq_true z)
        refine ⟨_, rfl, _, rfl, _, _, rfl, rfl, _, rfl, ite2 (fun e3 => ?_) (fun e3 => ?_)⟩
        · have : u < d := of_decide_eq_true e3
          omega
        · refine iteF ⟨_, rfl, _, rfl, _, _, rfl, rfl, _, rfl, _, _, rfl, rfl, fin _ ?_⟩
          rw [if_pos l, if_neg l2]
          rcases hu with rfl | rfl <;> rcases hd with rfl | rfl <;> omega
    · have l : ¬ d < u := fun z => e1 (decide_eq_true z)
      refine ⟨_, rfl, _, rfl, _, _, rfl, rfl, _, rfl, ite2 (fun e3 => ?_) (fun e3 => ?_)⟩
      · have l3 : u < d := of_decide_eq_true e3
        refine ⟨_, rfl, _, _, rfl, rfl, _, rfl, ite2 (fun e2 => ?_) (fun e2 => ?_)⟩
        · have l2 : a ≤ 0 := of_decide_eq_true e2
          exact ⟨_, rfl, fin _ (by rw [if_neg l, if_pos l3, if_pos l2])⟩
        · have l2 : ¬ a ≤ 0 := fun z => e2 (decide_eq_true z)
          refine ⟨_, rfl, _, rfl, _, _, rfl, rfl, _, rfl, _, _, rfl, rfl, fin _ ?_⟩
          rw [if_neg l, if_pos l3, if_neg l2]
          rcases hu with rfl | rfl <;> rcases hd with rfl | rfl <;> omega
      · have l3 : ¬ u < d := fun z => e3 (decide_eq_true z)
        refine iteF ⟨_, rfl, _, rfl, _, _, rfl, rfl, _, rfl, _, _, rfl, rfl, fin _ ?_⟩
        rw [if_neg l, if_neg l3]
        omega
def sp_Keeper___init__ {K : PySem.W.Frag} {mg : Str → Option Value} (T : Defs K mg) : Sp := fun vs H Q _ => ∃ (x dx : Addr) (m a : Int), vs = [.ref x, .int m, .int a] ∧ H x = some (.ins T.C_Keeper dx []) ∧ ∀ H', But x H H' → KAt T.C_Keeper H' x ⟨m, a, 0, 0, 0⟩ → Q .non H'
theorem ok_Keeper___init__ (T : Defs K mg) : FnOk P w K mg base CX0 1 T.f_Keeper___init__ T.fd_Keeper___init__ ["self", "most", "at"] (sp_Keeper___init__ T) := by
  refine T.F_Keeper___init__.ok sc_Keeper___init__ (fun vs H Q E h => ?_) (fun cdv A outer s H vs Q E hr h => ?_)
  · obtain ⟨x, dx, m, a, rfl, hx, q⟩ := h
    rfl
  · obtain ⟨x, dx, m, a, rfl, hx, q⟩ := h
    refine ⟨_, PSs.nox (pss_cons (ps_fld (pv 0) (pv 1) rfl)
    (pss_cons (ps_fld (pv 0) (pv 2) rfl)
    (pss_cons (ps_fld (pv 0) pe_int rfl)
    (pss_cons (ps_fld (pv 0) pe_int rfl)
    (pss_one (ps_fld (pv 0) pe_int rfl)))))), ?_⟩
    refine ⟨_, rfl, _, rfl, x, _, dx, [], rfl, hx, T.cl_Keeper, T.na_Keeper_most, (by decide : 0 < 1000), ?_⟩
    refine ⟨_, rfl, _, rfl, x, _, dx, _, rfl, upd_same, T.cl_Keeper, T.na_Keeper_at, (by decide : 1 < 1000), ?_⟩
    refine ⟨_, rfl, x, _, dx, _, rfl, upd_same, T.cl_Keeper, T.na_Keeper_ups_lost, (by decide : 2 < 1000), ?_⟩
    refine ⟨_, rfl, x, _, dx, _, rfl, upd_same, T.cl_Keeper, T.na_Keeper_downs_lost, (by decide : 3 < 1000), ?_⟩
    refine ⟨_, rfl, x, _, dx, _, rfl, upd_same, T.cl_Keeper, T.na_Keeper_beats, (by decide : 4 < 1000), ?_⟩
    refine q _ (fun c o hc e => ?_) ⟨dx, ?_⟩
    · rw [upd_ne hc, upd_ne hc, upd_ne hc, upd_ne hc, upd_ne hc]
      exact e
    · rw [upd_same, pf_init]
theorem fA {k : KS} {x : Int} {f : Str} {fs : List (Str × V)} (e : putF f (.int x) (flds k) = fs) {C dx : Addr} : some (HO.ins C dx (putF f (.int x) (flds k))) = some (HO.ins C dx fs) := by rw [e]
def sp_Keeper_beat {K : PySem.W.Frag} {mg : Str → Option Value} (T : Defs K mg) : Sp := fun vs H Q _ => ∃ (x : Addr) (k : KS) (u d : Int), vs = [.ref x, .int u, .int d] ∧ KAt T.C_Keeper H x k ∧ Bt u ∧ Bt d ∧ ∀ H', But x H H' → KAt T.C_Keeper H' x (k.beat u d) → Q (.int (k.beat u d).at_) H'
theorem but_upd {x : Addr} {H : Hp} {o : HO} : But x H (upd H x o) := fun c p hc e => by rw [upd_ne hc]; exact e
theorem ok_Keeper_beat (T : Defs K mg) : FnOk P w K mg base CX0 2 T.f_Keeper_beat T.fd_Keeper_beat ["self", "up", "down"] (sp_Keeper_beat T) := by
  have G_moved : FnOk P w K mg base CX0 1 T.f_moved T.fd_moved ["most", "at", "up", "down"] (sp_moved K) := ok_moved T
  refine T.F_Keeper_beat.ok sc_Keeper_beat (fun vs H Q E h => ?_) (fun cdv A outer s H vs Q E hr h => ?_)
  · obtain ⟨x, k, u, d, rfl, ⟨dx, hx⟩, hu, hd, q⟩ := h
    rfl
  · obtain ⟨x, k, u, d, rfl, ⟨dx, hx⟩, hu, hd, q⟩ := h
    refine ⟨_, PSs.nox (pss_cons (ps_set (i := 3) sc_Keeper_beat.nd rfl (.inl rfl) (pe_call G_moved (hr.mono (by decide)) (by rfl) T.g_moved T.F_moved.kp T.b_moved .nil pass0 (pa_cons (pe_fld (pv 0) rfl) (pa_cons (pe_fld (pv 0) rfl) (pa_cons (pv 1) (pa_cons (pv 2) pa_nil))))))
    (pss_cons (ps_if (PW.pt (pw_and (pt_cmpR op_gt (pv 1) (pv 2) (nomark _)) (pw_and1 (pt_cmpR op_eq (pv 3) (pe_fld (pv 0) rfl) (nomark _))))) (pss_one (ps_fldaug (pv 0) pe_int in_add)) pss_nil)
    (pss_cons (ps_if (PW.pt (pw_and (pt_cmpR op_lt (pv 1) (pv 2) (nomark _)) (pw_and1 (pt_cmpR op_eq (pv 3) (pe_fld (pv 0) rfl) (nomark _))))) (pss_one (ps_fldaug (pv 0) pe_int in_add)) pss_nil)
    (pss_cons (ps_fld (pv 0) (pv 3) rfl)
    (pss_cons (ps_fldaug (pv 0) pe_int in_add)
    (pss_one (ps_ret (pv 3)))))))), ?_⟩
    refine ⟨_, rfl, x, _, dx, _, _, rfl, hx, T.cl_Keeper, T.na_Keeper_most, fl_most k, _, rfl, x, _, dx, _, _, rfl, hx, T.cl_Keeper, T.na_Keeper_at, fl_at k, _, rfl, _, rfl, _, _, u, d, rfl, hu, hd, ?_⟩
    obtain ⟨hv, ehv⟩ : ∃ hv, mvd k.most k.at_ u d = hv := ⟨_, rfl⟩
    have eb : k.beat u d = { most := k.most, at_ := hv, ups := if d < u ∧ hv = k.at_ then k.ups + 1 else k.ups, downs := if u < d ∧ hv = k.at_ then k.downs + 1 else k.downs, beats := k.beats + 1 } := by
      unfold KS.beat
      rw [ehv]
    rw [eb] at q
    rw [ehv]
    refine nx_via (fun σ G => σ = [some (.ref x), some (.int u), some (.int d), some (.int hv)] ∧ But x H G ∧ G x = some (.ins T.C_Keeper dx (flds { k with ups := if d < u ∧ hv = k.at_ then k.ups + 1 else k.ups }))) (fun N key => ?_) ?_
    · refine ⟨_, rfl, _, rfl, _, _, rfl, rfl, _, rfl, ite2 (fun e1 => ?_) (fun e1 => iteF ?_)⟩
      · have l : d < u := of_decide_eq_true e1
        refine ⟨_, rfl, _, rfl, x, _, dx, _, _, rfl, hx, T.cl_Keeper, T.na_Keeper_at, fl_at k, rfl, _, rfl, ite2 (fun e2 => ?_) (fun e2 => ?_)⟩
        · have l2 : hv = k.at_ := V.int.inj (of_decide_eq_true e2)
          refine ⟨_, rfl, x, _, dx, _, _, rfl, hx, T.cl_Keeper, T.na_Keeper_ups_lost, fl_ups k, _, _, rfl, rfl, dx, _, hx, fl_len k, ?_⟩
          refine key _ _ ⟨rfl, but_upd, ?_⟩
          rw [upd_same, if_pos ⟨l, l2⟩]
          exact fA (pf_ups k _)
        · have l2 : ¬ hv = k.at_ := fun z => e2 (decide_eq_true (by rw [z]))
          refine key _ _ ⟨rfl, But.refl x H, ?_⟩
          rw [if_neg (fun z => l2 z.2)]
          exact hx
      · have l : ¬ d < u := fun z => e1 (decide_eq_true z)
        refine key _ _ ⟨rfl, But.refl x H, ?_⟩
        rw [if_neg (fun z => l z.1)]
        exact hx
    rintro σ G ⟨rfl, bG, hG⟩
    obtain ⟨k1, ek1⟩ : ∃ k1 : KS, { k with ups := if d < u ∧ hv = k.at_ then k.ups + 1 else k.ups } = k1 := ⟨_, rfl⟩
    have a1 : k1.at_ = k.at_ := by rw [← ek1]
    have d1 : k1.downs = k.downs := by rw [← ek1]
    rw [ek1] at hG
    refine seq_via (fun σ F => σ = [some (.ref x), some (.int u), some (.int d), some (.int hv)] ∧ But x H F ∧ F x = some (.ins T.C_Keeper dx (flds { k1 with downs := if u < d ∧ hv = k.at_ then k.downs + 1 else k.downs }))) (fun N key => ?_) ?_
    · refine ⟨_, rfl, _, rfl, _, _, rfl, rfl, _, rfl, ite2 (fun e1 => ?_) (fun e1 => iteF ?_)⟩
      · have l : u < d := of_decide_eq_true e1
        refine ⟨_, rfl, _, rfl, x, _, dx, _, _, rfl, hG, T.cl_Keeper, T.na_Keeper_at, fl_at k1, rfl, _, rfl, ite2 (fun e2 => ?_) (fun e2 => ?_)⟩
        · have l2 : hv = k.at_ := by
            have := V.int.inj (of_decide_eq_true e2)
            rw [a1] at this
            exact this
          refine ⟨_, rfl, x, _, dx, _, _, rfl, hG, T.cl_Keeper, T.na_Keeper_downs_lost, fl_downs k1, _, _, rfl, rfl, dx, _, hG, fl_len k1, ?_⟩
          refine key _ _ ⟨rfl, bG.trans but_upd, ?_⟩
          rw [upd_same, if_pos ⟨l, l2⟩, ← d1]
          exact fA (pf_downs k1 _)
        · have l2 : ¬ hv = k.at_ := fun z => e2 (decide_eq_true (by rw [z, a1]))
          refine key _ _ ⟨rfl, bG, ?_⟩
          rw [if_neg (fun z => l2 z.2), ← d1]
          exact hG
      · have l : ¬ u < d := fun z => e1 (decide_eq_true z)
        refine key _ _ ⟨rfl, bG, ?_⟩
        rw [if_neg (fun z => l z.1), ← d1]
        exact hG
    clear bG hG
    rintro σ G ⟨rfl, bG, hG⟩
    subst ek1
    refine ⟨_, rfl, _, rfl, x, _, dx, _, rfl, hG, T.cl_Keeper, T.na_Keeper_at, fl_len _, ?_⟩
    rw [pf_at]
    refine ⟨_, rfl, x, _, dx, _, _, rfl, upd_same, T.cl_Keeper, T.na_Keeper_beats, fl_beats _, _, _, rfl, rfl, dx, _, upd_same, fl_len _, ?_⟩
    rw [pf_beats]
    exact ⟨_, rfl, q _ (bG.trans (but_upd.trans but_upd)) ⟨dx, upd_same⟩⟩
def sp_Keeper_at_now {K : PySem.W.Frag} {mg : Str → Option Value} (T : Defs K mg) : Sp := fun vs H Q _ => ∃ (x : Addr) (k : KS), vs = [.ref x] ∧ KAt T.C_Keeper H x k ∧ Q (.int k.at_) H
theorem ok_Keeper_at_now (T : Defs K mg) : FnOk P w K mg base CX0 1 T.f_Keeper_at_now T.fd_Keeper_at_now ["self"] (sp_Keeper_at_now T) := by
  refine T.F_Keeper_at_now.ok sc_Keeper_at_now (fun vs H Q E h => ?_) (fun cdv A outer s H vs Q E hr h => ?_)
  · obtain ⟨x, k, rfl, ⟨dx, hx⟩, q⟩ := h
    rfl
  · obtain ⟨x, k, rfl, ⟨dx, hx⟩, q⟩ := h
    refine ⟨_, PSs.nox (pss_one (ps_ret (pe_fld (pv 0) rfl))), ?_⟩
    exact ⟨_, rfl, x, _, dx, _, _, rfl, hx, T.cl_Keeper, T.na_Keeper_at, fl_at k, q⟩
def sp_Keeper_lost_now {K : PySem.W.Frag} {mg : Str → Option Value} (T : Defs K mg) : Sp := fun vs H Q _ => ∃ (x : Addr) (k : KS), vs = [.ref x] ∧ KAt T.C_Keeper H x k ∧ ∀ H' t, Same H H' → H t = none → H' t = some (.tup [.int k.ups, .int k.downs]) → Q (.ref t) H'
theorem ok_Keeper_lost_now (T : Defs K mg) : FnOk P w K mg base CX0 1 T.f_Keeper_lost_now T.fd_Keeper_lost_now ["self"] (sp_Keeper_lost_now T) := by
  refine T.F_Keeper_lost_now.ok sc_Keeper_lost_now (fun vs H Q E h => ?_) (fun cdv A outer s H vs Q E hr h => ?_)
  · obtain ⟨x, k, rfl, ⟨dx, hx⟩, q⟩ := h
    rfl
  · obtain ⟨x, k, rfl, ⟨dx, hx⟩, q⟩ := h
    refine ⟨_, PSs.nox (pss_one (ps_ret (pe_tup (pa_cons (pe_fld (pv 0) rfl) (pa_cons (pe_fld (pv 0) rfl) pa_nil))))), ?_⟩
    exact ⟨_, rfl, x, _, dx, _, _, rfl, hx, T.cl_Keeper, T.na_Keeper_ups_lost, fl_ups k, _, rfl, x, _, dx, _, _, rfl, hx, T.cl_Keeper, T.na_Keeper_downs_lost, fl_downs k, (show 2 ≤ sizeLine by decide), fun t nt => q _ t (same_upd nt) nt upd_same⟩
def sp_Keeper_beats_now {K : PySem.W.Frag} {mg : Str → Option Value} (T : Defs K mg) : Sp := fun vs H Q _ => ∃ (x : Addr) (k : KS), vs = [.ref x] ∧ KAt T.C_Keeper H x k ∧ Q (.int k.beats) H
theorem ok_Keeper_beats_now (T : Defs K mg) : FnOk P w K mg base CX0 1 T.f_Keeper_beats_now T.fd_Keeper_beats_now ["self"] (sp_Keeper_beats_now T) := by
  refine T.F_Keeper_beats_now.ok sc_Keeper_beats_now (fun vs H Q E h => ?_) (fun cdv A outer s H vs Q E hr h => ?_)
  · obtain ⟨x, k, rfl, ⟨dx, hx⟩, q⟩ := h
    rfl
  · obtain ⟨x, k, rfl, ⟨dx, hx⟩, q⟩ := h
    refine ⟨_, PSs.nox (pss_one (ps_ret (pe_fld (pv 0) rfl))), ?_⟩
    exact ⟨_, rfl, x, _, dx, _, _, rfl, hx, T.cl_Keeper, T.na_Keeper_beats, fl_beats k, q⟩
theorem kIn {K : PySem.W.Frag} {a b : String} {r : Bool} (h : kitB a b = some r) : PySem.W.kitOne K (.type a) (.type b) = some r := kit_ty h
theorem k_ib : kitB "int" "bool" = some false := by decide +kernel
theorem k_ii : kitB "int" "int" = some true := by decide +kernel
theorem k_it : kitB "int" "tuple" = some false := by decide +kernel
theorem k_tt : kitB "tuple" "tuple" = some true := by decide +kernel
def sp_same0 (_ : PySem.W.Frag) : Sp := fun vs H Q _ => ∃ x : Int, vs = [.int x, .int x] ∧ Q (.bl true) H
theorem ok_same0 (T : Defs K mg) : FnOk P w K mg base CX0 1 T.f__law_same T.fd__law_same ["_law_found", "_law_due"] (sp_same0 K) := by
  have G__law_same : FnOk P w K mg base CX0 0 T.f__law_same T.fd__law_same ["_law_found", "_law_due"] (fun _ _ _ _ => False) := ⟨fun _ _ _ _ z => z.elim, fun _ _ _ _ _ _ _ _ _ _ _ _ _ z => z.elim⟩
  refine T.F__law_same.ok sc__law_same (fun vs H Q E h => ?_) (fun cdv A outer s H vs Q E hr h => ?_)
  · obtain ⟨x, rfl, q⟩ := h
    rfl
  · obtain ⟨x, rfl, q⟩ := h
    refine ⟨_, PSs.nox (pss_cons (ps_if (pt_val (pe_callB call_isi (by rfl) T.m_isinstance bt_isinstance (pa_cons (pv 1) (pa_cons (pe_bltn (v := .ty "tuple") (by rfl) T.m_tuple bt_tuple rfl) pa_nil)))) (pss_cons (ps_if (PW.pt (pw_or (pt_not (pt_val (pe_callB call_isi (by rfl) T.m_isinstance bt_isinstance (pa_cons (pv 0) (pa_cons (pe_bltn (v := .ty "tuple") (by rfl) T.m_tuple bt_tuple rfl) pa_nil))))) (pw_or1 (pt_cmpR op_ne (pe_callB call_len_seq (by rfl) T.m_len bt_len (pa_cons (pv 0) pa_nil)) pe_int (nomark _))))) (pss_one (ps_ret pe_bl)) pss_nil)
    (pss_one (ps_ret (pe_and (pe_call G__law_same (hr.mono (by decide)) (by rfl) T.g__law_same T.F__law_same.kp T.b__law_same .nil pass0 (pa_cons (pe_ix ix_tup (pv 0) pe_int (fun _ _ => rfl)) (pa_cons (pe_ix ix_tup (pv 1) pe_int (fun _ _ => rfl)) pa_nil))) (pe_one (pe_call G__law_same (hr.mono (by decide)) (by rfl) T.g__law_same T.F__law_same.kp T.b__law_same .nil pass0 (pa_cons (pe_ix ix_tup (pv 0) pe_int (fun _ _ => rfl)) (pa_cons (pe_ix ix_tup (pv 1) pe_int (fun _ _ => rfl)) pa_nil)))))))) pss_nil)
    (pss_one (ps_ret (pe_and (pe_callB call_isi (by rfl) T.m_isinstance bt_isinstance (pa_cons (pv 0) (pa_cons (pe_bltn (v := .ty "int") (by rfl) T.m_int bt_int rfl) pa_nil))) (pe_and (pe_not (pe_callB call_isi (by rfl) T.m_isinstance bt_isinstance (pa_cons (pv 0) (pa_cons (pe_bltn (v := .ty "bool") (by rfl) T.m_bool bt_bool rfl) pa_nil)))) (pe_one (pe_cmpR op_eq (pv 0) (pv 1) (nomark _)))))))), ?_⟩
    refine ⟨_, rfl, _, _, _, _, _, rfl, .ty "tuple", .base (.int x), kIn k_it, _, rfl, iteF ?_⟩
    refine ⟨_, rfl, _, _, _, _, _, rfl, .ty "int", .base (.int x), kIn k_ii, _, rfl, iteT ?_⟩
    refine ⟨_, rfl, _, _, _, _, _, rfl, .ty "bool", .base (.int x), kIn k_ib, _, rfl, _, rfl, iteT ?_⟩
    refine ⟨_, rfl, _, rfl, rfl, ?_⟩
    rw [decide_eq_true rfl]
    exact q
def sp__law_same (_ : PySem.W.Frag) : Sp := fun vs H Q _ => ∃ v u, vs = [v, u] ∧ ((∃ x : Int, v = .int x ∧ u = .int x ∧ Q (.bl true) H) ∨ ∃ (a b : Addr) (x y : Int), v = .ref a ∧ u = .ref b ∧ H a = some (.tup [.int x, .int y]) ∧ H b = some (.tup [.int x, .int y]) ∧ Q (.bl true) H)
theorem ok__law_same (T : Defs K mg) : FnOk P w K mg base CX0 2 T.f__law_same T.fd__law_same ["_law_found", "_law_due"] (sp__law_same K) := by
  have G__law_same : FnOk P w K mg base CX0 1 T.f__law_same T.fd__law_same ["_law_found", "_law_due"] (sp_same0 K) := ok_same0 T
  refine T.F__law_same.ok sc__law_same (fun vs H Q E h => ?_) (fun cdv A outer s H vs Q E hr h => ?_)
  · obtain ⟨v, u, rfl, h⟩ := h
    rfl
  · obtain ⟨v, u, rfl, h⟩ := h
    refine ⟨_, PSs.nox (pss_cons (ps_if (pt_val (pe_callB call_isi (by rfl) T.m_isinstance bt_isinstance (pa_cons (pv 1) (pa_cons (pe_bltn (v := .ty "tuple") (by rfl) T.m_tuple bt_tuple rfl) pa_nil)))) (pss_cons (ps_if (PW.pt (pw_or (pt_not (pt_val (pe_callB call_isi (by rfl) T.m_isinstance bt_isinstance (pa_cons (pv 0) (pa_cons (pe_bltn (v := .ty "tuple") (by rfl) T.m_tuple bt_tuple rfl) pa_nil))))) (pw_or1 (pt_cmpR op_ne (pe_callB call_len_seq (by rfl) T.m_len bt_len (pa_cons (pv 0) pa_nil)) pe_int (nomark _))))) (pss_one (ps_ret pe_bl)) pss_nil)
    (pss_one (ps_ret (pe_and (pe_call G__law_same (hr.mono (by decide)) (by rfl) T.g__law_same T.F__law_same.kp T.b__law_same .nil pass0 (pa_cons (pe_ix ix_tup (pv 0) pe_int (fun _ _ => rfl)) (pa_cons (pe_ix ix_tup (pv 1) pe_int (fun _ _ => rfl)) pa_nil))) (pe_one (pe_call G__law_same (hr.mono (by decide)) (by rfl) T.g__law_same T.F__law_same.kp T.b__law_same .nil pass0 (pa_cons (pe_ix ix_tup (pv 0) pe_int (fun _ _ => rfl)) (pa_cons (pe_ix ix_tup (pv 1) pe_int (fun _ _ => rfl)) pa_nil)))))))) pss_nil)
    (pss_one (ps_ret (pe_and (pe_callB call_isi (by rfl) T.m_isinstance bt_isinstance (pa_cons (pv 0) (pa_cons (pe_bltn (v := .ty "int") (by rfl) T.m_int bt_int rfl) pa_nil))) (pe_and (pe_not (pe_callB call_isi (by rfl) T.m_isinstance bt_isinstance (pa_cons (pv 0) (pa_cons (pe_bltn (v := .ty "bool") (by rfl) T.m_bool bt_bool rfl) pa_nil)))) (pe_one (pe_cmpR op_eq (pv 0) (pv 1) (nomark _)))))))), ?_⟩
    rcases h with ⟨x, rfl, rfl, q⟩ | ⟨a, b, x, y, rfl, rfl, ha, hb, q⟩
    · refine ⟨_, rfl, _, _, _, _, _, rfl, .ty "tuple", .base (.int x), kIn k_it, _, rfl, iteF ?_⟩
      refine ⟨_, rfl, _, _, _, _, _, rfl, .ty "int", .base (.int x), kIn k_ii, _, rfl, iteT ?_⟩
      refine ⟨_, rfl, _, _, _, _, _, rfl, .ty "bool", .base (.int x), kIn k_ib, _, rfl, _, rfl, iteT ?_⟩
      refine ⟨_, rfl, _, rfl, rfl, ?_⟩
      rw [decide_eq_true rfl]
      exact q
    · refine ⟨_, rfl, _, _, _, _, _, rfl, .ty "tuple", .base (.tup hb), kIn k_tt, _, rfl, iteT ?_⟩
      refine ⟨_, rfl, _, _, _, _, _, rfl, .ty "tuple", .base (.tup ha), kIn k_tt, _, rfl, iteF ?_⟩
      refine ⟨_, rfl, a, _, rfl, .inr (SqT.mk ha), rfl, _, rfl, iteF ?_⟩
      refine ⟨_, rfl, a, _, 0, _, rfl, rfl, SqT.mk ha, atI_nat (j := 0) rfl, _, rfl, b, _, 0, _, rfl, rfl, SqT.mk hb, atI_nat (j := 0) rfl, x, rfl, _, rfl, iteT ?_⟩
      exact ⟨_, rfl, a, _, 1, _, rfl, rfl, SqT.mk ha, atI_nat (j := 1) rfl, _, rfl, b, _, 1, _, rfl, rfl, SqT.mk hb, atI_nat (j := 1) rfl, y, rfl, q⟩
def kl (k : KS) : List V := [.int k.most, .int k.at_, .int k.ups, .int k.downs, .int k.beats]
def SAt (H : Hp) (q : Addr) (k : KS) : Prop := H q = some (.lst (kl k))
def KS.Ok (k : KS) : Prop := 0 ≤ k.at_ ∧ k.at_ ≤ k.most ∧ 1 ≤ k.most ∧ k.most ≤ 64
theorem KS.Ok.beat {k : KS} (h : k.Ok) {u d : Int} (hu : Bt u) (hd : Bt d) : (k.beat u d).Ok := by
  obtain ⟨h1, h2, h3, h4⟩ := h
  have e : (k.beat u d).at_ = mvd k.most k.at_ u d := rfl
  have e2 : (k.beat u d).most = k.most := rfl
  unfold KS.Ok
  rw [e, e2]
  unfold mvd
  repeat' split
  all_goals omega
def sp__law_beat (_ : PySem.W.Frag) : Sp := fun vs H Q _ => ∃ (p : Addr) (k : KS) (u d : Int), vs = [.ref p, .int u, .int d] ∧ SAt H p k ∧ k.Ok ∧ Bt u ∧ Bt d ∧ ∀ H', But p H H' → SAt H' p (k.beat u d) → Q (.int (k.beat u d).at_) H'
theorem ok__law_beat (T : Defs K mg) : FnOk P w K mg base CX0 1 T.f__law_beat T.fd__law_beat ["_law_state", "_law_up", "_law_down"] (sp__law_beat K) := by
  refine T.F__law_beat.ok sc__law_beat (fun vs H Q E h => ?_) (fun cdv A outer s H vs Q E hr h => ?_)
  · obtain ⟨p, k, u, d, rfl, hp, ok, hu, hd, q⟩ := h
    rfl
  · obtain ⟨p, k, u, d, rfl, hp, ok, hu, hd, q⟩ := h
    refine ⟨_, PSs.nox (pss_cons (ps_asg (pe_op op_add (pe_ix ix_list (pv 0) pe_int (fun _ _ => rfl)) pe_int) (pg_sub (pv 0) pe_int set_list))
    (pss_cons (ps_if (pt_cmpR op_gt (pv 1) (pv 2) (nomark _)) (pss_cons (ps_asg (pe_op op_add (pe_ix ix_list (pv 0) pe_int (fun _ _ => rfl)) (pe_callTy call_int1 (by rfl) T.m_int bt_int (pa_cons (pe_cmpR op_eq (pe_ix ix_list (pv 0) pe_int (fun _ _ => rfl)) (pe_ix ix_list (pv 0) pe_int (fun _ _ => rfl)) (nomark _)) pa_nil))) (pg_sub (pv 0) pe_int set_list))
    (pss_one (ps_asg (pe_callB (call_min2 rfl) (by rfl) T.m_min bt_min (pa_cons (pe_ix ix_list (pv 0) pe_int (fun _ _ => rfl)) (pa_cons (pe_op op_add (pe_ix ix_list (pv 0) pe_int (fun _ _ => rfl)) pe_int) pa_nil))) (pg_sub (pv 0) pe_int set_list)))) pss_nil)
    (pss_cons (ps_if (pt_cmpR op_gt (pv 2) (pv 1) (nomark _)) (pss_cons (ps_asg (pe_op op_add (pe_ix ix_list (pv 0) pe_int (fun _ _ => rfl)) (pe_callTy call_int1 (by rfl) T.m_int bt_int (pa_cons (pe_cmpR op_eq (pe_ix ix_list (pv 0) pe_int (fun _ _ => rfl)) pe_int (nomark _)) pa_nil))) (pg_sub (pv 0) pe_int set_list))
    (pss_one (ps_asg (pe_callB (call_max2 rfl) (by rfl) T.m_max bt_max (pa_cons pe_int (pa_cons (pe_op op_sub (pe_ix ix_list (pv 0) pe_int (fun _ _ => rfl)) pe_int) pa_nil))) (pg_sub (pv 0) pe_int set_list)))) pss_nil)
    (pss_one (ps_ret (pe_ix ix_list (pv 0) pe_int (fun _ _ => rfl))))))), ?_⟩
    obtain ⟨o1, o2, o3, o4⟩ := ok
    unfold SAt at hp q
    refine ⟨_, rfl, p, _, 4, _, rfl, rfl, SqL.mk hp, atI_nat (j := 4) rfl, _, _, rfl, rfl, _, rfl, p, _, 4, 4, rfl, rfl, hp, rfl, ?_⟩
    have b0 : But p H (upd H p (.lst [.int k.most, .int k.at_, .int k.ups, .int k.downs, .int (k.beats + 1)])) := but_upd
    have h0 : (upd H p (.lst [.int k.most, .int k.at_, .int k.ups, .int k.downs, .int (k.beats + 1)])) p = some (.lst [.int k.most, .int k.at_, .int k.ups, .int k.downs, .int (k.beats + 1)]) := upd_same
    generalize eA : upd H p (.lst [.int k.most, .int k.at_, .int k.ups, .int k.downs, .int (k.beats + 1)]) = A at b0 h0
    have eA2 : upd H p (.lst ((kl k).set 4 (.int (k.beats + 1)))) = A := eA
    rw [eA2]
    clear eA eA2 hp
    refine nx_via (fun σ G => σ = [some (.ref p), some (.int u), some (.int d)] ∧ But p H G ∧ G p = some (.lst [.int k.most, .int (if d < u then mvd k.most k.at_ u d else k.at_), .int (k.beat u d).ups, .int k.downs, .int (k.beats + 1)])) (fun N key => ?_) ?_
    · refine ⟨_, rfl, _, rfl, _, _, rfl, rfl, _, rfl, ite2 (fun e1 => ?_) (fun e1 => ?_)⟩
      · have l : d < u := of_decide_eq_true e1
        refine ⟨_, rfl, p, _, 2, _, rfl, rfl, SqL.mk h0, atI_nat (j := 2) rfl, _, rfl, p, _, 1, _, rfl, rfl, SqL.mk h0, atI_nat (j := 1) rfl, _, rfl, p, _, 0, _, rfl, rfl, SqL.mk h0, atI_nat (j := 0) rfl, rfl, .inr ⟨_, rfl, _, _, rfl, rfl, _, rfl, p, _, 2, 2, rfl, rfl, h0, rfl, ?_⟩⟩
        refine ⟨_, rfl, p, _, 0, _, rfl, rfl, SqL.mk upd_same, atI_nat (j := 0) rfl, _, rfl, p, _, 1, _, rfl, rfl, SqL.mk upd_same, atI_nat (j := 1) rfl, _, _, rfl, rfl, _, _, rfl, _, rfl, p, _, 1, 1, rfl, rfl, upd_same, rfl, key _ _ ⟨rfl, b0.trans (but_upd.trans but_upd), ?_⟩⟩
        have em : (if k.at_ + 1 < k.most then k.at_ + 1 else k.most) = mvd k.most k.at_ u d := by
          unfold mvd
          rw [if_pos l]
          split <;> split <;> omega
        have eu : k.ups + (if decide (V.int k.at_ = V.int k.most) = true then 1 else 0) = (k.beat u d).ups := by
          show _ = if d < u ∧ mvd k.most k.at_ u d = k.at_ then k.ups + 1 else k.ups
          rw [← em]
          by_cases z : k.at_ = k.most
          · rw [if_pos (decide_eq_true (by rw [z])), if_pos ⟨l, by rw [if_neg (by omega)]; exact z.symm⟩]
          · rw [if_neg (fun y => z (V.int.inj (of_decide_eq_true y))), if_neg (fun y => by
              have := y.2
              rw [if_pos (by omega)] at this
              omega)]
            omega
        rw [upd_same, if_pos l, ← em, ← eu]
        rfl
      · have l : ¬ d < u := fun z => e1 (decide_eq_true z)
        refine key _ _ ⟨rfl, b0, ?_⟩
        rw [if_neg l, h0]
        show _ = some (HO.lst [_, _, .int (if d < u ∧ mvd k.most k.at_ u d = k.at_ then k.ups + 1 else k.ups), _, _])
        rw [if_neg (fun y => l y.1)]
    clear b0 h0 A
    rintro σ G ⟨rfl, bG, hG⟩
    refine seq_via (fun σ F => σ = [some (.ref p), some (.int u), some (.int d)] ∧ But p H F ∧ F p = some (.lst (kl (k.beat u d)))) (fun N key => ?_) ?_
    · refine ⟨_, rfl, _, rfl, _, _, rfl, rfl, _, rfl, ite2 (fun e1 => ?_) (fun e1 => ?_)⟩
      · have l : u < d := of_decide_eq_true e1
        have l2 : ¬ d < u := by omega
        rw [if_neg l2] at hG
        refine ⟨_, rfl, p, _, 3, _, rfl, rfl, SqL.mk hG, atI_nat (j := 3) rfl, _, rfl, p, _, 1, _, rfl, rfl, SqL.mk hG, atI_nat (j := 1) rfl, rfl, .inr ⟨_, rfl, _, _, rfl, rfl, _, rfl, p, _, 3, 3, rfl, rfl, hG, rfl, ?_⟩⟩
        refine ⟨_, rfl, p, _, 1, _, rfl, rfl, SqL.mk upd_same, atI_nat (j := 1) rfl, _, _, rfl, rfl, _, _, rfl, _, rfl, p, _, 1, 1, rfl, rfl, upd_same, rfl, key _ _ ⟨rfl, bG.trans (but_upd.trans but_upd), ?_⟩⟩
        have em : (if k.at_ - 1 > 0 then k.at_ - 1 else 0) = mvd k.most k.at_ u d := by
          unfold mvd
          rw [if_neg l2, if_pos l]
          split <;> split <;> omega
        have eu : k.downs + (if decide (V.int k.at_ = V.int 0) = true then 1 else 0) = (k.beat u d).downs := by
          show _ = if u < d ∧ mvd k.most k.at_ u d = k.at_ then k.downs + 1 else k.downs
          rw [← em]
          by_cases z : k.at_ = 0
          · rw [if_pos (decide_eq_true (by rw [z])), if_pos ⟨l, by rw [if_neg (by omega)]; exact z.symm⟩]
          · rw [if_neg (fun y => z (V.int.inj (of_decide_eq_true y))), if_neg (fun y => by
              have := y.2
              by_cases w : k.at_ - 1 > 0
              · rw [if_pos w] at this
                omega
              · rw [if_neg w] at this
                omega)]
            omega
        rw [upd_same]
        show _ = some (HO.lst [.int k.most, .int (mvd k.most k.at_ u d), .int (k.beat u d).ups, .int (k.beat u d).downs, .int (k.beats + 1)])
        rw [← em, ← eu]
        rfl
      · have l : ¬ u < d := fun z => e1 (decide_eq_true z)
        refine key _ _ ⟨rfl, bG, ?_⟩
        rw [hG]
        show _ = some (HO.lst [.int k.most, .int (mvd k.most k.at_ u d), .int (k.beat u d).ups, .int (if u < d ∧ mvd k.most k.at_ u d = k.at_ then k.downs + 1 else k.downs), .int (k.beats + 1)])
        have : (if d < u then mvd k.most k.at_ u d else k.at_) = mvd k.most k.at_ u d := by
          by_cases z : d < u
          · rw [if_pos z]
          · rw [if_neg z]
            unfold mvd
            rw [if_neg z, if_neg l]
        rw [this, if_neg (fun y => l y.1)]
    clear bG hG
    rintro σ G ⟨rfl, bG, hG⟩
    exact ⟨_, rfl, p, _, 1, _, rfl, rfl, SqL.mk hG, atI_nat (j := 1) rfl, q _ bG hG⟩
def sp__law_right {K : PySem.W.Frag} {mg : Str → Option Value} (T : Defs K mg) : Sp := fun vs H Q _ => ∃ (x p : Addr) (k : KS), vs = [.ref x, .ref p] ∧ KAt T.C_Keeper H x k ∧ SAt H p k ∧ ∀ H', Same H H' → Q (.bl true) H'
theorem ok__law_right (T : Defs K mg) : FnOk P w K mg base CX0 3 T.f__law_right T.fd__law_right ["_law_keeper", "_law_state"] (sp__law_right T) := by
  have G__law_same : FnOk P w K mg base CX0 2 T.f__law_same T.fd__law_same ["_law_found", "_law_due"] (sp__law_same K) := ok__law_same T
  have G_Keeper_beats_now : FnOk P w K mg base CX0 1 T.f_Keeper_beats_now T.fd_Keeper_beats_now ["self"] (sp_Keeper_beats_now T) := ok_Keeper_beats_now T
  have G_Keeper_at_now : FnOk P w K mg base CX0 1 T.f_Keeper_at_now T.fd_Keeper_at_now ["self"] (sp_Keeper_at_now T) := ok_Keeper_at_now T
  have G_Keeper_lost_now : FnOk P w K mg base CX0 1 T.f_Keeper_lost_now T.fd_Keeper_lost_now ["self"] (sp_Keeper_lost_now T) := ok_Keeper_lost_now T
  refine T.F__law_right.ok sc__law_right (fun vs H Q E h => ?_) (fun cdv A outer s H vs Q E hr h => ?_)
  · obtain ⟨x, p, k, rfl, hx, hp, q⟩ := h
    rfl
  · obtain ⟨x, p, k, rfl, hx, hp, q⟩ := h
    refine ⟨_, PSs.nox (pss_cons (ps_if (PW.pt (pw_or (pt_not (pt_val (pe_call G__law_same (hr.mono (by decide)) (by rfl) T.g__law_same T.F__law_same.kp T.b__law_same .nil pass0 (pa_cons (pe_meth0 (pv 0) T.cl_Keeper T.mt_Keeper_at_now G_Keeper_at_now (hr.mono (by decide)) T.b_Keeper_at_now .nil pass0) (pa_cons (pe_ix ix_list (pv 1) pe_int (fun _ _ => rfl)) pa_nil))))) (pw_or1 (pt_not (pt_val (pe_call G__law_same (hr.mono (by decide)) (by rfl) T.g__law_same T.F__law_same.kp T.b__law_same .nil pass0 (pa_cons (pe_meth0 (pv 0) T.cl_Keeper T.mt_Keeper_lost_now G_Keeper_lost_now (hr.mono (by decide)) T.b_Keeper_lost_now .nil pass0) (pa_cons (pe_tup (pa_cons (pe_ix ix_list (pv 1) pe_int (fun _ _ => rfl)) (pa_cons (pe_ix ix_list (pv 1) pe_int (fun _ _ => rfl)) pa_nil))) pa_nil)))))))) (pss_one (ps_ret pe_bl)) pss_nil)
    (pss_one (ps_ret (pe_call G__law_same (hr.mono (by decide)) (by rfl) T.g__law_same T.F__law_same.kp T.b__law_same .nil pass0 (pa_cons (pe_meth0 (pv 0) T.cl_Keeper T.mt_Keeper_beats_now G_Keeper_beats_now (hr.mono (by decide)) T.b_Keeper_beats_now .nil pass0) (pa_cons (pe_ix ix_list (pv 1) pe_int (fun _ _ => rfl)) pa_nil)))))), ?_⟩
    obtain ⟨dx, ex⟩ := id hx
    unfold SAt at hp
    refine ⟨_, rfl, x, dx, _, rfl, ex, fl_noat k, x, k, rfl, hx, _, rfl, p, _, 1, _, rfl, rfl, SqL.mk hp, atI_nat (j := 1) rfl, _, _, rfl, .inl ⟨_, rfl, rfl, _, rfl, iteF ?_⟩⟩
    refine ⟨_, rfl, x, dx, _, rfl, ex, fl_nolost k, x, k, rfl, hx, fun H1 t1 s1 _ ht1 => ?_⟩
    have hp1 := s1 _ _ hp
    refine ⟨_, rfl, p, _, 2, _, rfl, rfl, SqL.mk hp1, atI_nat (j := 2) rfl, _, rfl, p, _, 3, _, rfl, rfl, SqL.mk hp1, atI_nat (j := 3) rfl, (show 2 ≤ sizeLine by decide), fun t2 n2 => ?_⟩
    have s2 := same_upd n2 (o := .tup [.int k.ups, .int k.downs])
    refine ⟨_, _, rfl, .inr ⟨t1, t2, _, _, rfl, rfl, s2 _ _ ht1, upd_same, _, rfl, iteF ?_⟩⟩
    have s12 := s1.trans s2
    refine ⟨_, rfl, x, dx, _, rfl, s12 _ _ ex, fl_nobeats k, x, k, rfl, hx.same s12, _, rfl, p, _, 4, _, rfl, rfl, SqL.mk (s12 _ _ hp), atI_nat (j := 4) rfl, _, _, rfl, .inl ⟨_, rfl, rfl, q _ s12⟩⟩
/-! the law: keepers and their states, side by side -/
theorem Bx.other {H : Hp} {p q : Addr} {n : Nat} {o : HO} (h : Bx H p n) (nq : q ≠ p) : Bx (L2.upd H q o) p n := by
  obtain ⟨a, b, c, hp, r⟩ := h
  exact ⟨a, b, c, by rw [upd_ne (Ne.symm nq)]; exact hp, r⟩
structure Good (C : Addr) (H2 G : Hp) (b l1 l2 : Addr) (i : Nat) (xs qs : Nat → Addr) (ks : Nat → KS) : Prop where
  h1 : G l1 = some (.lst ((List.range i).map fun j => V.ref (xs j)))
  h2 : G l2 = some (.lst ((List.range i).map fun j => V.ref (qs j)))
  kx : ∀ j, j < i → KAt C G (xs j) (ks j)
  kq : ∀ j, j < i → SAt G (qs j) (ks j)
  ok : ∀ j, j < i → (ks j).Ok
  nx : ∀ j, j < i → H2 (xs j) = none
  nq : ∀ j, j < i → H2 (qs j) = none ∧ qs j ≠ b ∧ qs j ≠ l1 ∧ qs j ≠ l2
  dx : ∀ j t, j < i → t < i → j ≠ t → xs j ≠ xs t
  dq : ∀ j t, j < i → t < i → j ≠ t → qs j ≠ qs t
theorem KAt.ne {C : Addr} {H : Hp} {x p : Addr} {k : KS} {zs : List V} (h : KAt C H x k) (e : H p = some (.lst zs)) : x ≠ p := by
  obtain ⟨dx, hx⟩ := h
  exact ne_of hx e (by intro z; cases z)
theorem Good.same {C : Addr} {H2 G G' : Hp} {b l1 l2 : Addr} {i : Nat} {xs qs : Nat → Addr} {ks : Nat → KS} (g : Good C H2 G b l1 l2 i xs qs ks) (s : Same G G') : Good C H2 G' b l1 l2 i xs qs ks :=
  ⟨s _ _ g.h1, s _ _ g.h2, fun j h => (g.kx j h).same s, fun j h => s _ _ (g.kq j h), g.ok, g.nx, g.nq, g.dx, g.dq⟩
theorem Bx.lst {H : Hp} {p : Addr} {n : Nat} (h : Bx H p n) : ∃ zs, H p = some (.lst zs) := by
  obtain ⟨a, b, c, hp, _⟩ := h
  exact ⟨_, hp⟩
theorem Good.box {C : Addr} {H2 G G' : Hp} {b l1 l2 : Addr} {i n : Nat} {xs qs : Nat → Addr} {ks : Nat → KS} (g : Good C H2 G b l1 l2 i xs qs ks) (B : Bx G b n) (n1 : l1 ≠ b) (n2 : l2 ≠ b) (c : But b G G') : Good C H2 G' b l1 l2 i xs qs ks := by
  obtain ⟨zs, hz⟩ := B.lst
  exact ⟨c _ _ n1 g.h1, c _ _ n2 g.h2, fun j h => (g.kx j h).but c ((g.kx j h).ne hz), fun j h => c _ _ (g.nq j h).2.1 (g.kq j h), g.ok, g.nx, g.nq, g.dx, g.dq⟩
theorem Good.beat {C : Addr} {H2 G F E : Hp} {b l1 l2 : Addr} {i j : Nat} {xs qs : Nat → Addr} {ks : Nat → KS} {k : KS} (g : Good C H2 G b l1 l2 i xs qs ks) (hj : j < i) (bF : But (xs j) G F) (kF : KAt C F (xs j) k) (bE : But (qs j) F E) (sE : SAt E (qs j) k) (ok : k.Ok) : Good C H2 E b l1 l2 i xs qs (fun t => if t = j then k else ks t) := by
  have xl : ∀ {p : Addr} {zs : List V}, G p = some (.lst zs) → p ≠ xs j := fun e => ((g.kx j hj).ne e).symm
  have hF : ∀ {p : Addr} {zs : List V}, G p = some (.lst zs) → F p = some (.lst zs) := fun e => bF _ _ (xl e) e
  have q1 := hF (g.kq j hj)
  refine ⟨bE _ _ (g.nq j hj).2.2.1.symm (hF g.h1), bE _ _ (g.nq j hj).2.2.2.symm (hF g.h2), fun t ht => ?_, fun t ht => ?_, fun t ht => ?_, g.nx, g.nq, g.dx, g.dq⟩
  · by_cases z : t = j
    · subst z
      rw [if_pos rfl]
      exact kF.but bE (kF.ne q1)
    · rw [if_neg z]
      have k1 := (g.kx t ht).but bF (g.dx t j ht hj z)
      exact k1.but bE (k1.ne q1)
  · by_cases z : t = j
    · subst z
      rw [if_pos rfl]
      exact sE
    · rw [if_neg z]
      exact bE _ _ (g.dq t j ht hj z) (hF (g.kq t ht))
  · by_cases z : t = j
    · subst z
      rw [if_pos rfl]
      exact ok
    · rw [if_neg z]
      exact g.ok t ht
theorem rng_if {α : Type} (f : Nat → α) (x : α) (g : α → V) (i : Nat) : ((List.range i).map fun j => g (if j = i then x else f j)) = (List.range i).map fun j => g (f j) := by
  refine List.map_congr_left fun j hj => ?_
  rw [if_neg (by have := List.mem_range.mp hj; omega)]
theorem Good.push {C : Addr} {H2 G E : Hp} {b l1 l2 x q : Addr} {i n : Nat} {xs qs : Nat → Addr} {ks : Nat → KS} {k : KS} (g : Good C H2 G b l1 l2 i xs qs ks) (s2 : Same H2 G) (B : Bx G b n) (n12 : l1 ≠ l2) (s : Same G E) (nx : G x = none) (kx : KAt C E x k) (ok : k.Ok)
    (nq : (upd E l1 (.lst ((List.range i).map (fun j => V.ref (xs j)) ++ [.ref x]))) q = none) :
    Good C H2 (upd (upd (upd E l1 (.lst ((List.range i).map (fun j => V.ref (xs j)) ++ [.ref x]))) q (.lst (kl k))) l2 (.lst ((List.range i).map (fun j => V.ref (qs j)) ++ [.ref q]))) b l1 l2 (i + 1) (fun t => if t = i then x else xs t) (fun t => if t = i then q else qs t) (fun t => if t = i then k else ks t) := by
  have ql1 : q ≠ l1 := fun z => by
    rw [z, upd_same] at nq
    cases nq
  have nqE : E q = none := by
    rw [upd_ne ql1] at nq
    exact nq
  have nqG : G q = none := s.free nqE
  have ql2 : q ≠ l2 := fun z => by
    rw [z, g.h2] at nqG
    cases nqG
  have qb : q ≠ b := fun z => by
    obtain ⟨zs, hz⟩ := B.lst
    rw [z, hz] at nqG
    cases nqG
  have xq : x ≠ q := fun z => by
    obtain ⟨dx, e⟩ := kx
    rw [z, nqE] at e
    cases e
  have xl1 : x ≠ l1 := fun z => by
    rw [z, g.h1] at nx
    cases nx
  have xl2 : x ≠ l2 := fun z => by
    rw [z, g.h2] at nx
    cases nx
  have KK : ∀ {y : Addr} {k' : KS}, KAt C E y k' → y ≠ l1 → y ≠ q → y ≠ l2 → KAt C (upd (upd (upd E l1 (.lst ((List.range i).map (fun j => V.ref (xs j)) ++ [.ref x]))) q (.lst (kl k))) l2 (.lst ((List.range i).map (fun j => V.ref (qs j)) ++ [.ref q]))) y k' := fun h a b c => by
    obtain ⟨dx, e⟩ := h
    exact ⟨dx, by rw [upd_ne c, upd_ne b, upd_ne a]; exact e⟩
  refine ⟨?_, ?_, fun t ht => ?_, fun t ht => ?_, fun t ht => ?_, fun t ht => ?_, fun t ht => ?_, fun t r ht hr z => ?_, fun t r ht hr z => ?_⟩
  · rw [upd_ne n12, upd_ne ql1.symm, upd_same, List.range_succ, List.map_append, rng_if xs x V.ref]
    show _ = some (HO.lst (_ ++ [V.ref (if i = i then x else xs i)]))
    rw [if_pos rfl]
  · rw [upd_same, List.range_succ, List.map_append, rng_if qs q V.ref]
    show _ = some (HO.lst (_ ++ [V.ref (if i = i then q else qs i)]))
    rw [if_pos rfl]
  · by_cases z : t = i
    · subst z
      rw [if_pos rfl, if_pos rfl]
      exact KK kx xl1 xq xl2
    · rw [if_neg z, if_neg z]
      have k1 := g.kx t (by omega)
      refine KK (k1.same s) (k1.ne g.h1) (fun y => ?_) (k1.ne g.h2)
      obtain ⟨dx, e⟩ := k1
      rw [y, nqG] at e
      cases e
  · unfold SAt
    by_cases z : t = i
    · subst z
      rw [if_pos rfl, if_pos rfl, upd_ne ql2, upd_same]
    · rw [if_neg z, if_neg z]
      have k1 := g.kq t (by omega)
      have n1 := g.nq t (by omega)
      rw [upd_ne n1.2.2.2, upd_ne (fun y => by
        unfold SAt at k1
        rw [y, nqG] at k1
        cases k1), upd_ne n1.2.2.1]
      exact s _ _ k1
  · by_cases z : t = i
    · rw [if_pos z]
      exact ok
    · rw [if_neg z]
      exact g.ok t (by omega)
  · by_cases z : t = i
    · rw [if_pos z]
      exact s2.free nx
    · rw [if_neg z]
      exact g.nx t (by omega)
  · by_cases z : t = i
    · rw [if_pos z]
      exact ⟨s2.free nqG, qb, ql1, ql2⟩
    · rw [if_neg z]
      exact g.nq t (by omega)
  · have ne : ∀ r, r < i → xs r ≠ x := fun r hr y => by
      obtain ⟨dx, e⟩ := g.kx r hr
      rw [y, nx] at e
      cases e
    by_cases z1 : t = i
    · rw [if_pos z1, if_neg (by omega)]
      exact (ne r (by omega)).symm
    · rw [if_neg z1]
      by_cases z2 : r = i
      · rw [if_pos z2]
        exact ne t (by omega)
      · rw [if_neg z2]
        exact g.dx t r (by omega) (by omega) z
  · have ne : ∀ r, r < i → qs r ≠ q := fun r hr y => by
      have e := g.kq r hr
      unfold SAt at e
      rw [y, nqG] at e
      cases e
    by_cases z1 : t = i
    · rw [if_pos z1, if_neg (by omega)]
      exact (ne r (by omega)).symm
    · rw [if_neg z1]
      by_cases z2 : r = i
      · rw [if_pos z2]
        exact ne t (by omega)
      · rw [if_neg z2]
        exact g.dq t r (by omega) (by omega) z
theorem bt0 : Bt 0 := .inl rfl
theorem bt1 : Bt 1 := .inr rfl
theorem rng_at {f : Nat → Addr} {n i : Nat} (h : i < n) : atI ((List.range n).map fun j => V.ref (f j)) ((i : Nat) : Int) = some (.ref (f i)) := atI_nat (by rw [List.getElem?_map, List.getElem?_range h]; rfl)
theorem at_menuW {Pr : V → Prop} {xs : List V} {r : Int} (h0 : 0 ≤ r) (h1 : r < xs.length) (hx : ∀ x, x ∈ xs → Pr x) : ∃ v, atI xs r = some v ∧ Pr v := by
  obtain ⟨j, rfl⟩ := Int.eq_ofNat_of_zero_le h0
  have hj : j < xs.length := by omega
  exact ⟨xs[j], atI_nat (List.getElem?_eq_getElem hj), hx _ (List.getElem_mem hj)⟩
def sp_law (K : PySem.W.Frag) : Sp := fun vs H Q _ => ∃ (a : Addr) (ns : List Int), vs = [.ref a] ∧ SqL K H a (ns.map V.int) ∧ ns.length ≤ 63 ∧ ∀ H', Q (.bl true) H'
theorem ok_law (T : Defs K mg) : FnOk P w K mg base CX0 4 T.f_law T.fd_law ["_law_script"] (sp_law K) := by
  have G__law_folded : FnOk P w K mg base CX0 1 T.f__law_folded T.fd__law_folded ["_law_script", "_law_many"] (sp__law_folded K) := ok__law_folded T
  have G__law_box : FnOk P w K mg base CX0 1 T.f__law_box T.fd__law_box ["_law_script", "_law_k"] (sp__law_box K) := ok__law_box T
  have G__law_take : FnOk P w K mg base CX0 1 T.f__law_take T.fd__law_take ["_law_box_here", "_law_many"] (sp__law_take K) := ok__law_take T
  have G_Keeper___init__ : FnOk P w K mg base CX0 1 T.f_Keeper___init__ T.fd_Keeper___init__ ["self", "most", "at"] (sp_Keeper___init__ T) := ok_Keeper___init__ T
  have G__law_same : FnOk P w K mg base CX0 2 T.f__law_same T.fd__law_same ["_law_found", "_law_due"] (sp__law_same K) := ok__law_same T
  have G_Keeper_beat : FnOk P w K mg base CX0 2 T.f_Keeper_beat T.fd_Keeper_beat ["self", "up", "down"] (sp_Keeper_beat T) := ok_Keeper_beat T
  have G__law_beat : FnOk P w K mg base CX0 1 T.f__law_beat T.fd__law_beat ["_law_state", "_law_up", "_law_down"] (sp__law_beat K) := ok__law_beat T
  have G__law_right : FnOk P w K mg base CX0 3 T.f__law_right T.fd__law_right ["_law_keeper", "_law_state"] (sp__law_right T) := ok__law_right T
  refine T.F_law.ok sc_law (fun vs H Q E h => ?_) (fun cdv A outer s H vs Q E hr h => ?_)
  · obtain ⟨a, ns, rfl, hS, hlen, q⟩ := h
    rfl
  · obtain ⟨a, ns, rfl, hS, hlen, q⟩ := h
    refine ⟨_, PSs.nox (pss_cons (ps_set (i := 1) sc_law.nd rfl (.inl rfl) (pe_call G__law_folded (hr.mono (by decide)) (by rfl) T.g__law_folded T.F__law_folded.kp T.b__law_folded .nil pass0 (pa_cons (pv 0) (pa_cons pe_int pa_nil))))
    (pss_cons (ps_for PassesOwn.never rfl (pi_range1 (by rfl) T.m_range (pa_cons (pe_callB (call_max2 rfl) (by rfl) T.m_max bt_max (pa_cons pe_int (pa_cons (pe_callB call_len_seq (by rfl) T.m_len bt_len (pa_cons (pv 1) pa_nil)) pa_nil))) pa_nil)) (pg_name (i := 2) sc_law.nd rfl (.inl rfl)) (pss_cons (ps_set (i := 3) sc_law.nd rfl (.inl rfl) (pe_call G__law_box (hr.mono (by decide)) (by rfl) T.g__law_box T.F__law_box.kp T.b__law_box .nil pass0 (pa_cons (pv 1) (pa_cons (pv 2) pa_nil))))
    (pss_cons (ps_par (i := 4) (j := 5) (by rfl) sc_law.nd rfl rfl (by decide) rfl rfl (pa_cons (pe_lst pa_nil) (pa_cons (pe_lst pa_nil) pa_nil)) (by rfl))
    (pss_cons (ps_for PassesOwn.never rfl (pi_range1 (by rfl) T.m_range (pa_cons pe_int pa_nil)) (pg_name (i := 6) sc_law.nd rfl (.inl rfl)) (pss_cons (ps_set (i := 7) sc_law.nd rfl (.inl rfl) (pe_ix ix_list (pe_lst (pa_cons pe_int (pa_cons pe_int (pa_cons pe_int (pa_cons (pe_op op_add pe_int (pe_call G__law_take (hr.mono (by decide)) (by rfl) T.g__law_take T.F__law_take.kp T.b__law_take .nil pass0 (pa_cons (pv 3) (pa_cons pe_int pa_nil)))) pa_nil))))) (pe_call G__law_take (hr.mono (by decide)) (by rfl) T.g__law_take T.F__law_take.kp T.b__law_take .nil pass0 (pa_cons (pv 3) (pa_cons pe_int pa_nil))) (fun _ _ => rfl)))
    (pss_cons (ps_set (i := 8) sc_law.nd rfl (.inl rfl) (pe_ix ix_list (pe_lst (pa_cons pe_int (pa_cons (pv 7) (pa_cons (pe_call G__law_take (hr.mono (by decide)) (by rfl) T.g__law_take T.F__law_take.kp T.b__law_take .nil pass0 (pa_cons (pv 3) (pa_cons (pe_op op_add (pv 7) pe_int) pa_nil))) pa_nil)))) (pe_call G__law_take (hr.mono (by decide)) (by rfl) T.g__law_take T.F__law_take.kp T.b__law_take .nil pass0 (pa_cons (pv 3) (pa_cons pe_int pa_nil))) (fun _ _ => rfl)))
    (pss_cons (ps_expr (pe_bm PySem.F.plainAttrs_list PySem.F.slot_list_append PySem.F.type_list_append mt_append (pv 4) (pa_cons (pe_make T.mk_Keeper G_Keeper___init__ (hr.mono (by decide)) (by rfl) T.g_Keeper T.b_Keeper___init__ .nil pass0 (pa_cons (pv 7) (pa_cons (pv 8) pa_nil))) pa_nil)))
    (pss_one (ps_expr (pe_bm PySem.F.plainAttrs_list PySem.F.slot_list_append PySem.F.type_list_append mt_append (pv 5) (pa_cons (pe_lst (pa_cons (pv 7) (pa_cons (pv 8) (pa_cons pe_int (pa_cons pe_int (pa_cons pe_int pa_nil)))))) pa_nil))))))))
    (pss_cons (ps_set (i := 9) sc_law.nd rfl (.inl rfl) (pe_call G__law_take (hr.mono (by decide)) (by rfl) T.g__law_take T.F__law_take.kp T.b__law_take .nil pass0 (pa_cons (pv 3) (pa_cons pe_int pa_nil))))
    (pss_one (ps_for PassesOwn.never rfl (pi_range1 (by rfl) T.m_range (pa_cons (pe_op op_add pe_int (pe_call G__law_take (hr.mono (by decide)) (by rfl) T.g__law_take T.F__law_take.kp T.b__law_take .nil pass0 (pa_cons (pv 3) (pa_cons pe_int pa_nil)))) pa_nil)) (pg_name (i := 6) sc_law.nd rfl (.inl rfl)) (pss_cons (ps_par (i := 10) (j := 11) (by rfl) sc_law.nd rfl rfl (by decide) rfl rfl (pa_cons (pe_call G__law_take (hr.mono (by decide)) (by rfl) T.g__law_take T.F__law_take.kp T.b__law_take .nil pass0 (pa_cons (pv 3) (pa_cons pe_int pa_nil))) (pa_cons (pe_call G__law_take (hr.mono (by decide)) (by rfl) T.g__law_take T.F__law_take.kp T.b__law_take .nil pass0 (pa_cons (pv 3) (pa_cons pe_int pa_nil))) pa_nil)) (by rfl))
    (pss_cons (ps_asg (pe_ix ix_list (pe_lst (pa_cons (pe_tup (pa_cons pe_int (pa_cons pe_int pa_nil))) (pa_cons (pe_tup (pa_cons pe_int (pa_cons pe_int pa_nil))) (pa_cons (pe_tup (pa_cons pe_int (pa_cons pe_int pa_nil))) (pa_cons (pe_tup (pa_cons pe_int (pa_cons pe_int pa_nil))) (pa_cons (pe_tup (pa_cons pe_int (pa_cons pe_int pa_nil))) (pa_cons (pe_tup (pa_cons pe_int (pa_cons pe_int pa_nil))) pa_nil))))))) (pv 11) (fun _ _ => rfl)) (pg_tup rfl (pgs_cons (pg_name (i := 12) sc_law.nd rfl (.inl rfl)) (pgs_cons (pg_name (i := 13) sc_law.nd rfl (.inl rfl)) pgs_nil))))
    (pss_cons (ps_if (PW.pt (pw_and (pt_cmpR op_lt (pv 9) pe_int (nomark _)) (pw_and1 (pt_cmpR op_gt (pv 11) pe_int (nomark _))))) (pss_one (ps_asg (pe_ix ix_list (pe_lst (pa_cons (pe_tup (pa_cons pe_int (pa_cons pe_int pa_nil))) (pa_cons (pe_tup (pa_cons pe_int (pa_cons pe_int pa_nil))) pa_nil))) (pv 9) (fun _ _ => rfl)) (pg_tup rfl (pgs_cons (pg_name (i := 12) sc_law.nd rfl (.inl rfl)) (pgs_cons (pg_name (i := 13) sc_law.nd rfl (.inl rfl)) pgs_nil))))) pss_nil)
    (pss_cons (ps_if (pt_not (pt_val (pe_call G__law_same (hr.mono (by decide)) (by rfl) T.g__law_same T.F__law_same.kp T.b__law_same .nil pass0 (pa_cons (pe_meth (pe_ix ix_list (pv 4) (pv 10) (fun _ _ => rfl)) T.cl_Keeper T.mt_Keeper_beat G_Keeper_beat (hr.mono (by decide)) T.b_Keeper_beat .nil pass0 (pa_cons (pv 12) (pa_cons (pv 13) pa_nil))) (pa_cons (pe_call G__law_beat (hr.mono (by decide)) (by rfl) T.g__law_beat T.F__law_beat.kp T.b__law_beat .nil pass0 (pa_cons (pe_ix ix_list (pv 5) (pv 10) (fun _ _ => rfl)) (pa_cons (pv 12) (pa_cons (pv 13) pa_nil)))) pa_nil))))) (pss_one (ps_ret pe_bl)) pss_nil)
    (pss_one (ps_if (pt_not (pt_val (pe_callB (cr_all rfl) (by rfl) T.m_all bt_all (pa_cons (pe_lc (own := [("_law_keeper", 14), ("_law_state", 15)]) (g := gTup K 2 (gCons (gName 14) (gCons (gName 15) gNil))) (tt := tYes) rfl sc_law.nd (pi_zip (by rfl) T.m_zip (pa_cons (pv 4) (pa_cons (pv 5) pa_nil))) (blkOk_by (N := N_law) (sc := defScope s_law) (by decide +kernel)) (fun _ _ _ _ _ => (pg_tupK (K := K) rfl rfl (pgs_cons (pg_name (i := 14) sc_law.nd rfl (.inl rfl)) (pgs_cons (pg_name (i := 15) sc_law.nd rfl (.inl rfl)) pgs_nil)))) (fun _ _ _ _ _ => pts_nil) (fun _ _ _ _ _ => (pe_call G__law_right (hr.mono (by decide)) (by rfl) T.g__law_right T.F__law_right.kp T.b__law_right .nil pass0 (pa_cons (pv 14) (pa_cons (pv 15) pa_nil))))) pa_nil)))) (pss_one (ps_ret pe_bl)) pss_nil)))))))))))))
    (pss_one (ps_ret pe_bl)))), ?_⟩
    have hsl : sizeLine = 16777216 := by decide
    refine ⟨.ref a, rfl, a, ns, 4, rfl, hS, hlen, by decide, by decide, fun H1 c cs s1 nc hc lc => ?_⟩
    have hn : (if (((cs.map V.int).length : Nat) : Int) > 2 then (((cs.map V.int).length : Nat) : Int) else 2) ≤ 4 ∧ 0 ≤ (if (((cs.map V.int).length : Nat) : Int) > 2 then (((cs.map V.int).length : Nat) : Int) else 2) := by
      rw [List.length_map]
      split <;> omega
    refine ⟨.ref c, rfl, c, _, rfl, .inl (SqL.mk hc), _, _, rfl, _, rfl, by omega, by omega, for_range (fun i σ H2 => ∃ y2 y3 y4 y5 y6 y7 y8 y9 y10 y11 y12 y13, σ = [some (.ref a), some (.ref c), y2, y3, y4, y5, y6, y7, y8, y9, y10, y11, y12, y13, none, none] ∧ Same H1 H2) ⟨none, none, none, none, none, none, none, none, none, none, none, none, rfl, Same.refl H1⟩ ?_ ?_⟩
    rotate_left
    · rintro σ H2 ⟨y2, y3, y4, y5, y6, y7, y8, y9, y10, y11, y12, y13, rfl, s2⟩
      exact q _
    rintro i σ H2 hi ⟨y2, y3, y4, y5, y6, y7, y8, y9, y10, y11, y12, y13, rfl, s2⟩
    have hi2 : i < 1000 := by omega
    refine ⟨.ref c, rfl, .int (0 + (i : Int)), rfl, c, cs, i, by rw [Int.zero_add]; rfl, SqL.mk (s2 _ _ hc), hi2, fun H3 b s3 nb hB => ?_⟩
    refine ⟨(show 0 ≤ sizeLine by decide), fun l1 nl1 => ⟨(show 0 ≤ sizeLine by decide), fun l2 nl2 => ⟨_, _, rfl, ?_⟩⟩⟩
    have n1 : l1 ≠ b := ne_new hB nl1
    have n2 : l2 ≠ b := ne_new (hB.new nl1) nl2
    have n12 : l1 ≠ l2 := fun z => by
      rw [← z, upd_same] at nl2
      cases nl2
    have f1 := same_upd nl1 (o := .lst [])
    have f2 := same_upd nl2 (o := .lst [])
    have e1 : (upd (upd H3 l1 (.lst [])) l2 (.lst [])) l1 = some (.lst []) := f2 _ _ upd_same
    have e2 : (upd (upd H3 l1 (.lst [])) l2 (.lst [])) l2 = some (.lst []) := upd_same
    have B0 := hB.same (f1.trans f2)
    have s4 : Same H2 (upd (upd H3 l1 (.lst [])) l2 (.lst [])) := s3.trans (f1.trans f2)
    have m1 : H2 l1 = none := s3.free nl1
    have m2 : H2 l2 = none := s3.free (f1.free nl2)
    generalize upd (upd H3 l1 (.lst [])) l2 (.lst []) = A at e1 e2 B0 s4 ⊢
    have g0 : Good T.C_Keeper H2 A b l1 l2 0 (fun _ => b) (fun _ => b) (fun _ => ⟨1, 0, 0, 0, 0⟩) := ⟨e1, e2, fun j h => by omega, fun j h => by omega, fun j h => by omega, fun j h => by omega, fun j h => by omega, fun j t h => by omega, fun j t h => by omega⟩
    clear e1 e2 f1 f2 nl1 nl2
    refine ⟨3, rfl, by decide, by decide, for_range (n := 3) (fun j σ G => ∃ y6 y7 y8, ∃ (xs qs : Nat → Addr) (ks : Nat → KS), σ = [some (.ref a), some (.ref c), some (.int (0 + (i : Int))), some (.ref b), some (.ref l1), some (.ref l2), y6, y7, y8, y9, y10, y11, y12, y13, none, none] ∧ Same H2 G ∧ Bx G b (20 * j) ∧ Good T.C_Keeper H2 G b l1 l2 j xs qs ks) ⟨_, _, _, _, _, _, rfl, s4, B0, g0⟩ ?_ ?_⟩
    · rintro j σ G hj ⟨y6, y7, y8, xs, qs, ks, rfl, sG, BG, g⟩
      refine ⟨.ref b, rfl, b, 64, _, rfl, BG, by decide, by decide, by omega, fun G1 r1 c1 B1 d1 u1 => ⟨_, _, rfl, rfl, (show 4 ≤ sizeLine by decide), fun l nl => ?_⟩⟩
      refine ⟨.ref b, rfl, b, 4, _, rfl, B1.new nl, by decide, by decide, by omega, fun G2 r2 c2 B2 d2 u2 => ?_⟩
      obtain ⟨M, ev, hM⟩ := at_menu (Pr := fun v => 1 ≤ v ∧ v ≤ 64) (xs := [1, 2, 64, 1 + r1]) d2 u2 (fun x hx => by
        simp only [List.mem_cons, List.not_mem_nil, or_false] at hx
        omega)
      refine ⟨l, _, _, _, rfl, rfl, SqL.mk (c2 _ _ (ne_new B1 nl) upd_same), ev, ?_⟩
      have c02 : But b G G2 := ((c1.new nl).trans c2)
      have g2 := g.box BG n1 n2 c02
      have s2' : Same H2 G2 := But.same nb sG c02
      clear c1 c2 B1 nl ev d1 u1 d2 u2 c02 BG g sG
      refine ⟨_, rfl, .ref b, rfl, _, rfl, _, _, rfl, rfl, b, M + 1, _, rfl, B2, by omega, by omega, by omega, fun G3 r3 c3 B3 d3 u3 => ⟨(show 3 ≤ sizeLine by decide), fun l nl => ?_⟩⟩
      refine ⟨.ref b, rfl, b, 3, _, rfl, B3.new nl, by decide, by decide, by omega, fun G4 r4 c4 B4 d4 u4 => ?_⟩
      obtain ⟨At, ev, hA⟩ := at_menu (Pr := fun v => 0 ≤ v ∧ v ≤ M) (xs := [0, M, r3]) d4 u4 (fun x hx => by
        simp only [List.mem_cons, List.not_mem_nil, or_false] at hx
        omega)
      refine ⟨l, _, _, _, rfl, rfl, SqL.mk (c4 _ _ (ne_new B3 nl) upd_same), ev, ?_⟩
      have c24 : But b G2 G4 := ((c3.new nl).trans c4)
      have g4 := g2.box B2 n1 n2 c24
      have sG4 : Same H2 G4 := But.same nb s2' c24
      clear c3 c4 B3 nl ev d3 u3 d4 u4 c24 B2 g2 s2'
      refine ⟨.ref l1, rfl, .inl ⟨rfl, _, SqL.mk g4.h1⟩, _, rfl, _, rfl, fun x dx nx ndx ne => ⟨x, dx, M, At, rfl, upd_same, fun E bE kE => ⟨rfl, ?_⟩⟩⟩
      have sE : Same G4 E := fun p o e => bE _ _ (ne_of_none e nx) (by rw [upd_ne (ne_of_none e nx), upd_ne (ne_of_none e ndx)]; exact e)
      refine ⟨l1, _, _, rfl, rfl, sE _ _ g4.h1, by rw [List.length_map, List.length_range]; omega, ?_⟩
      have hl2 : (upd E l1 (.lst ((List.range j).map (fun j => V.ref (xs j)) ++ [.ref x]))) l2 = some (.lst ((List.range j).map fun j => V.ref (qs j))) := by
        rw [upd_ne n12.symm]
        exact sE _ _ g4.h2
      refine ⟨.ref l2, rfl, .inl ⟨rfl, _, SqL.mk hl2⟩, _, rfl, _, rfl, (show 5 ≤ sizeLine by decide), fun q' nq' => ?_⟩
      have hl2' := (same_upd nq' (o := .lst (kl ⟨M, At, 0, 0, 0⟩))) _ _ hl2
      refine ⟨l2, _, _, rfl, rfl, hl2', by rw [List.length_map, List.length_range]; omega, ?_⟩
      have gp := g4.push sG4 B4 n12 sE nx kE ⟨hA.1, hA.2, hM.1, hM.2⟩ nq'
      refine ⟨_, _, _, _, _, _, rfl, ?_, ?_, gp⟩
      · have t1 : Same H2 E := sG4.trans sE
        have t2 : Same H2 (upd E l1 (.lst ((List.range j).map (fun j => V.ref (xs j)) ++ [.ref x]))) := same_newer t1 m1
        exact same_newer (t2.trans (same_upd nq')) m2
      · have B5 : Bx E b (20 * j + 10) := (B4.same sE).mono (by omega)
        exact (((B5.other n1).new nq').other n2).mono (by omega)
    clear g0 B0 s4
    rintro σ G ⟨y6, y7, y8, xs, qs, ks, rfl, sG, BG, g⟩
    refine ⟨.ref b, rfl, b, 4, _, rfl, BG, by decide, by decide, by omega, fun G1 tilt c1 B1 d1 u1 => ?_⟩
    have g1 := g.box BG n1 n2 c1
    have t1 : Same H2 G1 := But.same nb sG c1
    refine ⟨.ref b, rfl, b, 30, _, rfl, B1, by decide, by decide, by omega, fun G2 r2 c2 B2 d2 u2 => ⟨_, _, rfl, rfl, ?_⟩⟩
    have g2 := g1.box B1 n1 n2 c2
    have t2 : Same H2 G2 := But.same nb t1 c2
    obtain ⟨zn, hzn⟩ := nat_of (show 0 ≤ 30 + r2 by omega)
    clear g g1 t1 sG BG B1 c1 c2
    refine ⟨((zn : Nat) : Int), by rw [← hzn], by omega, by omega, for_range (n := zn) (fun j σ G => ∃ y6 y10 y11 y12 y13, ∃ (ks : Nat → KS), σ = [some (.ref a), some (.ref c), some (.int (0 + (i : Int))), some (.ref b), some (.ref l1), some (.ref l2), y6, y7, y8, some (.int tilt), y10, y11, y12, y13, none, none] ∧ Same H2 G ∧ Bx G b (100 + 20 * j) ∧ Good T.C_Keeper H2 G b l1 l2 3 xs qs ks) ⟨_, _, _, _, _, _, rfl, t2, B2.mono (by omega), g2⟩ ?_ ?_⟩
    rotate_left
    · rintro σ G ⟨y6, y10, y11, y12, y13, ks, rfl, sG, BG, g⟩
      exact ⟨_, _, _, _, _, _, _, _, _, _, _, _, rfl, s2.trans sG⟩
    clear g2 t2 B2 y6 y10 y11 y12 y13 ks
    rintro j σ G hj ⟨y6, y10, y11, y12, y13, ks, rfl, sG, BG, g⟩
    refine ⟨.ref b, rfl, b, 3, _, rfl, BG, by decide, by decide, by omega, fun G1 r1 c1 B1 d1 u1 => ?_⟩
    refine ⟨.ref b, rfl, b, 6, _, rfl, B1, by decide, by decide, by omega, fun G2 way c2 B2 d3 u3 => ⟨_, _, rfl, ?_⟩⟩
    have c12 := c1.trans c2
    have g2 := g.box BG n1 n2 c12
    have t2 : Same H2 G2 := But.same nb sG c12
    obtain ⟨one, rfl⟩ := nat_of d1
    clear g sG BG B1 c1 c2 c12 d1
    refine ⟨(show 2 ≤ sizeLine by decide), fun p1 np1 => ⟨(show 2 ≤ sizeLine by decide), fun p2 np2 => ⟨(show 2 ≤ sizeLine by decide), fun p3 np3 => ⟨(show 2 ≤ sizeLine by decide), fun p4 np4 => ⟨(show 2 ≤ sizeLine by decide), fun p5 np5 => ⟨(show 2 ≤ sizeLine by decide), fun p6 np6 => ⟨(show 6 ≤ sizeLine by decide), fun l nl => ?_⟩⟩⟩⟩⟩⟩⟩
    have q1 := same_upd np1 (o := .tup [.int 1, .int 0])
    have q2 := same_upd np2 (o := .tup [.int 0, .int 1])
    have q3 := same_upd np3 (o := .tup [.int 1, .int 1])
    have q4 := same_upd np4 (o := .tup [.int 0, .int 0])
    have q5 := same_upd np5 (o := .tup [.int 1, .int 0])
    have q6 := same_upd np6 (o := .tup [.int 0, .int 1])
    have ql := same_upd nl (o := .lst [.ref p1, .ref p2, .ref p3, .ref p4, .ref p5, .ref p6])
    have v1 := ql _ _ (q6 _ _ (q5 _ _ (q4 _ _ (q3 _ _ (q2 _ _ (upd_same (a := p1) (o := .tup [.int 1, .int 0])))))))
    have v2 := ql _ _ (q6 _ _ (q5 _ _ (q4 _ _ (q3 _ _ (upd_same (a := p2) (o := .tup [.int 0, .int 1]))))))
    have v3 := ql _ _ (q6 _ _ (q5 _ _ (q4 _ _ (upd_same (a := p3) (o := .tup [.int 1, .int 1])))))
    have v4 := ql _ _ (q6 _ _ (q5 _ _ (upd_same (a := p4) (o := .tup [.int 0, .int 0]))))
    have v5 := ql _ _ (q6 _ _ (upd_same (a := p5) (o := .tup [.int 1, .int 0])))
    have v6 := ql _ _ (upd_same (a := p6) (o := .tup [.int 0, .int 1]))
    have qA := q1.trans (q2.trans (q3.trans (q4.trans (q5.trans (q6.trans ql)))))
    have vl : (upd (upd (upd (upd (upd (upd (upd G2 p1 (.tup [.int 1, .int 0])) p2 (.tup [.int 0, .int 1])) p3 (.tup [.int 1, .int 1])) p4 (.tup [.int 0, .int 0])) p5 (.tup [.int 1, .int 0])) p6 (.tup [.int 0, .int 1])) l (.lst [.ref p1, .ref p2, .ref p3, .ref p4, .ref p5, .ref p6])) l = some (.lst [.ref p1, .ref p2, .ref p3, .ref p4, .ref p5, .ref p6]) := upd_same
    generalize upd (upd (upd (upd (upd (upd (upd G2 p1 (.tup [.int 1, .int 0])) p2 (.tup [.int 0, .int 1])) p3 (.tup [.int 1, .int 1])) p4 (.tup [.int 0, .int 0])) p5 (.tup [.int 1, .int 0])) p6 (.tup [.int 0, .int 1])) l (.lst [.ref p1, .ref p2, .ref p3, .ref p4, .ref p5, .ref p6]) = E at v1 v2 v3 v4 v5 v6 vl qA ⊢
    clear q1 q2 q3 q4 q5 q6 ql np1 np2 np3 np4 np5 np6 nl
    obtain ⟨vv, ev, tp, u, d, rfl, htp, hu, hd⟩ := at_menuW (Pr := fun v => ∃ (t : Addr) (u d : Int), v = V.ref t ∧ E t = some (.tup [.int u, .int d]) ∧ Bt u ∧ Bt d) (xs := [.ref p1, .ref p2, .ref p3, .ref p4, .ref p5, .ref p6]) d3 u3 (fun x hx => by
      simp only [List.mem_cons, List.not_mem_nil, or_false] at hx
      rcases hx with rfl | rfl | rfl | rfl | rfl | rfl
      · exact ⟨p1, _, _, rfl, v1, bt1, bt0⟩
      · exact ⟨p2, _, _, rfl, v2, bt0, bt1⟩
      · exact ⟨p3, _, _, rfl, v3, bt1, bt1⟩
      · exact ⟨p4, _, _, rfl, v4, bt0, bt0⟩
      · exact ⟨p5, _, _, rfl, v5, bt1, bt0⟩
      · exact ⟨p6, _, _, rfl, v6, bt0, bt1⟩)
    refine ⟨_, rfl, l, _, _, _, rfl, rfl, SqL.mk vl, ev, tp, _, rfl, SqT.mk htp, rfl, _, _, rfl, _, _, rfl, rfl, ?_⟩
    have gE := g2.same qA
    have sE := t2.trans qA
    have BE := B2.same qA
    clear g2 t2 B2 qA v1 v2 v3 v4 v5 v6 vl ev htp G2
    refine nx_via (fun σ F => ∃ u d, σ = [some (.ref a), some (.ref c), some (.int (0 + (i : Int))), some (.ref b), some (.ref l1), some (.ref l2), some (.int (0 + (j : Int))), y7, y8, some (.int tilt), some (.int (one : Nat)), some (.int way), some (.int u), some (.int d), none, none] ∧ Same E F ∧ Bt u ∧ Bt d) (fun N key => ?_) ?_
    · refine ⟨_, rfl, _, _, rfl, rfl, _, rfl, ite2 (fun ea => ?_) (fun _ => iteF (key _ _ ⟨_, _, rfl, Same.refl E, hu, hd⟩))⟩
      have tl : tilt < 2 := of_decide_eq_true ea
      refine ⟨_, rfl, _, _, rfl, rfl, _, rfl, ite2 (fun _ => ?_) (fun _ => key _ _ ⟨_, _, rfl, Same.refl E, hu, hd⟩)⟩
      refine ⟨(show 2 ≤ sizeLine by decide), fun p1 np1 => ⟨(show 2 ≤ sizeLine by decide), fun p2 np2 => ⟨(show 2 ≤ sizeLine by decide), fun l nl => ?_⟩⟩⟩
      have q1 := same_upd np1 (o := .tup [.int 1, .int 0])
      have q2 := same_upd np2 (o := .tup [.int 0, .int 1])
      have ql := same_upd nl (o := .lst [.ref p1, .ref p2])
      have v1 := ql _ _ (q2 _ _ (upd_same (H := E) (a := p1) (o := .tup [.int 1, .int 0])))
      have v2 := ql _ _ (upd_same (a := p2) (o := .tup [.int 0, .int 1]))
      obtain ⟨vv, ev, tp, u, d, rfl, htp, hu, hd⟩ := at_menuW (Pr := fun v => ∃ (t : Addr) (u d : Int), v = V.ref t ∧ (upd (upd (upd E p1 (.tup [.int 1, .int 0])) p2 (.tup [.int 0, .int 1])) l (.lst [.ref p1, .ref p2])) t = some (.tup [.int u, .int d]) ∧ Bt u ∧ Bt d) (xs := [.ref p1, .ref p2]) d1 (show tilt < 2 from tl) (fun x hx => by
        simp only [List.mem_cons, List.not_mem_nil, or_false] at hx
        rcases hx with rfl | rfl
        · exact ⟨p1, _, _, rfl, v1, bt1, bt0⟩
        · exact ⟨p2, _, _, rfl, v2, bt0, bt1⟩)
      exact ⟨_, rfl, l, _, _, _, rfl, rfl, SqL.mk upd_same, ev, tp, _, rfl, SqT.mk htp, rfl, _, _, rfl, _, _, rfl, rfl, key _ _ ⟨_, _, rfl, q1.trans (q2.trans ql), hu, hd⟩⟩
    clear hu hd u d
    rintro σ F ⟨u, d, rfl, sF, hu, hd⟩
    replace gE := gE.same sF
    replace sE := sE.trans sF
    replace BE := BE.same sF
    have o3 : one < 3 := by omega
    obtain ⟨dx, hx⟩ := id (gE.kx one o3)
    refine ⟨.ref l1, rfl, _, rfl, l1, _, _, _, rfl, rfl, SqL.mk gE.h1, rng_at o3, xs one, dx, _, rfl, hx, fl_nobeat _, _, rfl, _, rfl, xs one, ks one, u, d, rfl, gE.kx one o3, hu, hd, fun F1 b1 k1 => ?_⟩
    have xl : ∀ {p : Addr} {zs : List V}, F p = some (.lst zs) → F1 p = some (.lst zs) := fun e => b1 _ _ ((gE.kx one o3).ne e).symm e
    refine ⟨.ref l2, rfl, _, rfl, l2, _, _, _, rfl, rfl, SqL.mk (xl gE.h2), rng_at o3, _, rfl, _, rfl, qs one, ks one, u, d, rfl, xl (gE.kq one o3), gE.ok one o3, hu, hd, fun F2 b2 k2 => ?_⟩
    have g3 := gE.beat o3 b1 k1 b2 k2 ((gE.ok one o3).beat hu hd)
    have s3' : Same H2 F2 := But.same (gE.nq one o3).1 (But.same (gE.nx one o3) sE b1) b2
    have B3 : Bx F2 b (100 + 20 * j + 5) := by
      obtain ⟨x1, x2, x3, hb, r⟩ := BE
      exact Bx.mono ⟨x1, x2, x3, b2 _ _ (gE.nq one o3).2.1.symm (xl hb), r⟩ (by omega)
    refine ⟨_, _, rfl, .inl ⟨_, rfl, rfl, _, rfl, iteF ?_⟩⟩
    generalize (fun t => if t = one then (ks one).beat u d else ks t) = ks' at g3
    clear gE sE BE b1 b2 k1 k2 hx
    refine ⟨.ref l1, rfl, .ref l2, rfl, l1, l2, _, _, rfl, SqL.mk g3.h1, SqL.mk g3.h2, fun D nD => ?_⟩
    refine lc_it (walk_zip (n := 3) (xs := (List.range 3).map fun j => V.ref (xs j)) (ys := (List.range 3).map fun j => V.ref (qs j)) rfl) (fun t E2 => Same F2 E2 ∧ E2 D = some (.lst ((List.replicate t true).map V.bl))) ⟨same_upd nD, upd_same⟩ (fun t E2 _ h2 => ⟨SqL.mk (h2.1 _ _ g3.h1), SqL.mk (h2.1 _ _ g3.h2)⟩) ?_ ?_
    · rintro t x E2 E3 ht ⟨e2, hD⟩ ⟨tp, x1, x2, rfl, nt, rfl, f1, f2⟩
      have f1 : ((List.range 3).map fun j => V.ref (xs j))[t]? = some x1 := f1
      have f2 : ((List.range 3).map fun j => V.ref (qs j))[t]? = some x2 := f2
      rw [List.getElem?_map, List.getElem?_range ht] at f1 f2
      cases f1
      cases f2
      have e3 := e2.trans (same_upd nt (o := .tup [V.ref (xs t), V.ref (qs t)]))
      have g4 := g3.same e3
      refine ⟨tp, _, rfl, SqT.mk upd_same, rfl, _, _, rfl, _, _, rfl, rfl, rfl, yes_ite ?_⟩
      refine ⟨_, rfl, _, rfl, xs t, qs t, ks' t, rfl, g4.kx t ht, g4.kq t ht, fun E4 s4 => ?_⟩
      have hD3 := (same_upd nt (o := .tup [V.ref (xs t), V.ref (qs t)])) _ _ hD
      refine ⟨_, s4 _ _ hD3, by rw [List.length_map, List.length_replicate]; omega, same_newer (e3.trans s4) nD, ?_⟩
      rw [upd_same, List.replicate_succ', List.map_append]
      rfl
    rintro E2 ⟨e2, hD⟩
    refine ⟨D, List.replicate 3 true, rfl, SqL.mk hD, _, rfl, iteF ?_⟩
    exact ⟨_, _, _, _, _, _, rfl, s3'.trans e2, (B3.same e2).mono (by omega), g3.same e2⟩
end
def d_moved : He.DefD := ⟨("moved", none), "moved", "moved", defArgs s_moved, defBody s_moved, defScope s_moved, [], []⟩
def d_Keeper___init__ : He.DefD := ⟨("Keeper", some "__init__"), "__init__", "Keeper.__init__", defArgs s_Keeper___init__, defBody s_Keeper___init__, defScope s_Keeper___init__, [], []⟩
def d_Keeper_beat : He.DefD := ⟨("Keeper", some "beat"), "beat", "Keeper.beat", defArgs s_Keeper_beat, defBody s_Keeper_beat, defScope s_Keeper_beat, [], []⟩
def d_Keeper_at_now : He.DefD := ⟨("Keeper", some "at_now"), "at_now", "Keeper.at_now", defArgs s_Keeper_at_now, defBody s_Keeper_at_now, defScope s_Keeper_at_now, [], []⟩
def d_Keeper_lost_now : He.DefD := ⟨("Keeper", some "lost_now"), "lost_now", "Keeper.lost_now", defArgs s_Keeper_lost_now, defBody s_Keeper_lost_now, defScope s_Keeper_lost_now, [], []⟩
def d_Keeper_beats_now : He.DefD := ⟨("Keeper", some "beats_now"), "beats_now", "Keeper.beats_now", defArgs s_Keeper_beats_now, defBody s_Keeper_beats_now, defScope s_Keeper_beats_now, [], []⟩
def d__law_box : He.DefD := ⟨("_law_box", none), "_law_box", "_law_box", defArgs s__law_box, defBody s__law_box, defScope s__law_box, [], []⟩
def d__law_take : He.DefD := ⟨("_law_take", none), "_law_take", "_law_take", defArgs s__law_take, defBody s__law_take, defScope s__law_take, [], []⟩
def d__law_folded : He.DefD := ⟨("_law_folded", none), "_law_folded", "_law_folded", defArgs s__law_folded, defBody s__law_folded, defScope s__law_folded, [], []⟩
def d__law_same : He.DefD := ⟨("_law_same", none), "_law_same", "_law_same", defArgs s__law_same, defBody s__law_same, defScope s__law_same, [], []⟩
def d__law_beat : He.DefD := ⟨("_law_beat", none), "_law_beat", "_law_beat", defArgs s__law_beat, defBody s__law_beat, defScope s__law_beat, [], []⟩
def d__law_right : He.DefD := ⟨("_law_right", none), "_law_right", "_law_right", defArgs s__law_right, defBody s__law_right, defScope s__law_right, [], []⟩
def d_law : He.DefD := ⟨("law", none), "law", "law", defArgs s_law, defBody s_law, defScope s_law, [], []⟩
def hfn : List He.DefD := [d_moved, d_Keeper___init__, d_Keeper_beat, d_Keeper_at_now, d_Keeper_lost_now, d_Keeper_beats_now, d__law_box, d__law_take, d__law_folded, d__law_same, d__law_beat, d__law_right, d_law]
def hfa : List He.Fa := [.glo "moved", .keep "Keeper", .keep "Keeper", .keep "Keeper", .keep "Keeper", .keep "Keeper", .glo "_law_box", .glo "_law_take", .glo "_law_folded", .glo "_law_same", .glo "_law_beat", .glo "_law_right", .glo "law", .free "abs", .free "all", .free "bool", .free "divmod", .free "enumerate", .free "int", .free "isinstance", .free "len", .free "list", .free "max", .free "min", .free "range", .free "tuple", .free "zip", .glo "Keeper", .cls "Keeper", .mkr "Keeper", .noat "Keeper" "at", .noat "Keeper" "beats", .noat "Keeper" "downs_lost", .noat "Keeper" "most", .noat "Keeper" "ups_lost", .meth "Keeper" "beat", .meth "Keeper" "at_now", .meth "Keeper" "lost_now", .meth "Keeper" "beats_now"]
abbrev R : PySem.W.OpenRow := PySem.W.OpenLaw.row PySem.Challenge.rw_shareones_k44_keepers
abbrev hk : PySem.W.Hook := He.hookD 4 hfa hfn
def ob (s : PySem.W.SharedT) : He.AlD := He.obsDG 4 hfa hfn (HandSHeadRun.getT s)
theorem ob_eq (s : PySem.W.SharedT) : ob s = hk.obs s.abs := He.obsDG_eq (HandSHeadRun.getT_eq s)
def loose : List Str := "moved" :: "_law_box" :: "_law_take" :: "_law_folded" :: "_law_same" :: "_law_beat" :: "_law_right" :: "Keeper" :: []
theorem run (w : World) : HandSHeadRun.RunEq R (PySem.W.view R.prog [10]) hk ob 6000 loose w := by
  intro os
  kernel_rfl
theorem facts {P : Program} {w : World} {K : PySem.W.Frag} {h : Heap} {mg : Str → Option Value} {f : Addr} (X : K.In h) (G : h.Ns mainGlobals mg) (hfa_ : mg ("law" : Str) = some (.ref f)) (c : He.SaysD hfa hfn K) :
    ∃ fd : FuncData, (∀ (s : Shared) (v : Value), BindsTo s fd ⟨[v], []⟩ [("_law_script", v)]) ∧ ∀ base : Heap, K.In base → base.Ns mainGlobals mg → FnOk P w K mg base CX0 4 f fd ["_law_script"] (sp_law K) := by
  obtain ⟨fd_moved, F_moved⟩ := c.def_ 0 (d := d_moved) rfl
  obtain ⟨fd_Keeper___init__, F_Keeper___init__⟩ := c.def_ 1 (d := d_Keeper___init__) rfl
  obtain ⟨fd_Keeper_beat, F_Keeper_beat⟩ := c.def_ 2 (d := d_Keeper_beat) rfl
  obtain ⟨fd_Keeper_at_now, F_Keeper_at_now⟩ := c.def_ 3 (d := d_Keeper_at_now) rfl
  obtain ⟨fd_Keeper_lost_now, F_Keeper_lost_now⟩ := c.def_ 4 (d := d_Keeper_lost_now) rfl
  obtain ⟨fd_Keeper_beats_now, F_Keeper_beats_now⟩ := c.def_ 5 (d := d_Keeper_beats_now) rfl
  obtain ⟨fd__law_box, F__law_box⟩ := c.def_ 6 (d := d__law_box) rfl
  obtain ⟨fd__law_take, F__law_take⟩ := c.def_ 7 (d := d__law_take) rfl
  obtain ⟨fd__law_folded, F__law_folded⟩ := c.def_ 8 (d := d__law_folded) rfl
  obtain ⟨fd__law_same, F__law_same⟩ := c.def_ 9 (d := d__law_same) rfl
  obtain ⟨fd__law_beat, F__law_beat⟩ := c.def_ 10 (d := d__law_beat) rfl
  obtain ⟨fd__law_right, F__law_right⟩ := c.def_ 11 (d := d__law_right) rfl
  obtain ⟨fd_law, F_law⟩ := c.def_ 12 (d := d_law) rfl
  have e := hfa_.symm.trans (He.glo_ok X G (c.fact 12 (f := .glo "law") rfl))
  cases e
  have b := FunD.bindsA (ps := ["_law_script"]) F_law fun _ _ _ _ _ _ us hl => match us, hl with | [_], _ => rfl
  refine ⟨fd_law, fun s v => b s [v] rfl, fun base _ _ => ok_law (T := ⟨_, fd_moved, F_moved, (He.glo_ok X G (c.fact 0 (f := .glo "moved") rfl)), (FunD.bindsN F_moved fun _ _ _ _ _ _ us hl => match us, hl with | [_, _, _, _], _ => rfl), _, fd_Keeper___init__, F_Keeper___init__, (FunD.bindsN F_Keeper___init__ fun _ _ _ _ _ _ us hl => match us, hl with | [_, _, _], _ => rfl), _, fd_Keeper_beat, F_Keeper_beat, (FunD.bindsN F_Keeper_beat fun _ _ _ _ _ _ us hl => match us, hl with | [_, _, _], _ => rfl), _, fd_Keeper_at_now, F_Keeper_at_now, (FunD.bindsN F_Keeper_at_now fun _ _ _ _ _ _ us hl => match us, hl with | [_], _ => rfl), _, fd_Keeper_lost_now, F_Keeper_lost_now, (FunD.bindsN F_Keeper_lost_now fun _ _ _ _ _ _ us hl => match us, hl with | [_], _ => rfl), _, fd_Keeper_beats_now, F_Keeper_beats_now, (FunD.bindsN F_Keeper_beats_now fun _ _ _ _ _ _ us hl => match us, hl with | [_], _ => rfl), _, fd__law_box, F__law_box, (He.glo_ok X G (c.fact 6 (f := .glo "_law_box") rfl)), (FunD.bindsN F__law_box fun _ _ _ _ _ _ us hl => match us, hl with | [_, _], _ => rfl), _, fd__law_take, F__law_take, (He.glo_ok X G (c.fact 7 (f := .glo "_law_take") rfl)), (FunD.bindsN F__law_take fun _ _ _ _ _ _ us hl => match us, hl with | [_, _], _ => rfl), _, fd__law_folded, F__law_folded, (He.glo_ok X G (c.fact 8 (f := .glo "_law_folded") rfl)), (FunD.bindsN F__law_folded fun _ _ _ _ _ _ us hl => match us, hl with | [_, _], _ => rfl), _, fd__law_same, F__law_same, (He.glo_ok X G (c.fact 9 (f := .glo "_law_same") rfl)), (FunD.bindsN F__law_same fun _ _ _ _ _ _ us hl => match us, hl with | [_, _], _ => rfl), _, fd__law_beat, F__law_beat, (He.glo_ok X G (c.fact 10 (f := .glo "_law_beat") rfl)), (FunD.bindsN F__law_beat fun _ _ _ _ _ _ us hl => match us, hl with | [_, _, _], _ => rfl), _, fd__law_right, F__law_right, (He.glo_ok X G (c.fact 11 (f := .glo "_law_right") rfl)), (FunD.bindsN F__law_right fun _ _ _ _ _ _ us hl => match us, hl with | [_, _], _ => rfl), _, fd_law, F_law, (He.glo_ok X G (c.fact 12 (f := .glo "law") rfl)), (FunD.bindsN F_law fun _ _ _ _ _ _ us hl => match us, hl with | [_], _ => rfl), _, (He.glo_ok X G (c.fact 27 (f := .glo "Keeper") rfl)), (He.cls_ok (c.fact 28 (f := .cls "Keeper") rfl)), (He.mkr_ok (c.fact 29 (f := .mkr "Keeper") rfl)), (He.noat_ok (c.fact 30 (f := .noat "Keeper" "at") rfl)), (He.noat_ok (c.fact 31 (f := .noat "Keeper" "beats") rfl)), (He.noat_ok (c.fact 32 (f := .noat "Keeper" "downs_lost") rfl)), (He.noat_ok (c.fact 33 (f := .noat "Keeper" "most") rfl)), (He.noat_ok (c.fact 34 (f := .noat "Keeper" "ups_lost") rfl)), (He.meth_ok (c.fact 35 (f := .meth "Keeper" "beat") rfl)), (He.meth_ok (c.fact 36 (f := .meth "Keeper" "at_now") rfl)), (He.meth_ok (c.fact 37 (f := .meth "Keeper" "lost_now") rfl)), (He.meth_ok (c.fact 38 (f := .meth "Keeper" "beats_now") rfl)), (He.free_ok X G (c.fact 13 (f := .free "abs") rfl)), (He.free_ok X G (c.fact 14 (f := .free "all") rfl)), (He.free_ok X G (c.fact 15 (f := .free "bool") rfl)), (He.free_ok X G (c.fact 16 (f := .free "divmod") rfl)), (He.free_ok X G (c.fact 17 (f := .free "enumerate") rfl)), (He.free_ok X G (c.fact 18 (f := .free "int") rfl)), (He.free_ok X G (c.fact 19 (f := .free "isinstance") rfl)), (He.free_ok X G (c.fact 20 (f := .free "len") rfl)), (He.free_ok X G (c.fact 21 (f := .free "list") rfl)), (He.free_ok X G (c.fact 22 (f := .free "max") rfl)), (He.free_ok X G (c.fact 23 (f := .free "min") rfl)), (He.free_ok X G (c.fact 24 (f := .free "range") rfl)), (He.free_ok X G (c.fact 25 (f := .free "tuple") rfl)), (He.free_ok X G (c.fact 26 (f := .free "zip") rfl))⟩)⟩
end Fq
open PySem PySem.W PySem.Calls PyProof.Rows
set_option maxHeartbeats 0 in
theorem PySem.Challenge.cw_shareones_k44_keepers_holds : PySem.Challenge.rw_shareones_k44_keepers.Holds := by
  w_on; o_law
  refine HandSHeadRun.head_any (r := OpenLaw.row PySem.Challenge.rw_shareones_k44_keepers) (q := view (OpenLaw.row PySem.Challenge.rw_shareones_k44_keepers).prog [10]) (H := Fq.hk) (ob := Fq.ob) (M := 6000) (loose := Fq.loose) (d := HandSHeadRun.topDef (OpenLaw.row PySem.Challenge.rw_shareones_k44_keepers).prog 10) (kwd := []) Fq.ob_eq
    (by kernel_rfl) (fun s => by kernel_rfl) Fq.run (by kernel_rfl) (by kernel_rfl) (by kernel_rfl) (by rfl) (by first | assumption | decide +kernel) (by decide +kernel) ⟨rfl, rfl, rfl, rfl, rfl, by decide +kernel⟩ ?hw ?hc
  case hw => w_witness2
  case hc =>
    refine L2.walk_ofE (l := PySem.Challenge.rw_shareones_k44_keepers) (n := 63) (k := 4) (x := "_law_script") (CX := L2.CX0) rfl (by decide) (by kernel_rfl) ⟨rfl, by decide, by decide⟩ ?F (fun _ _ _ _ z => z)
    intro w mg fa h Y G hmg0
    obtain ⟨K, KX, c⟩ := Y
    have hmg : mg ("law" : PySem.Str) = some (.ref fa) := by
      have e : (HandSHeadRun.topDef (OpenLaw.row PySem.Challenge.rw_shareones_k44_keepers).prog 10).name = ("law" : PySem.Str) := by kernel_rfl
      rw [← e]
      exact hmg0
    obtain ⟨fd, hb, hF⟩ := Fq.facts (P := (PySem.Challenge.rw_shareones_k44_keepers).prog) (w := w) KX G hmg c
    exact ⟨K, fd, Fq.sp_law K, KX, hb, fun H a ns hl _ hS => ⟨a, ns, rfl, hS, hl, fun _ => rfl⟩, hF⟩
