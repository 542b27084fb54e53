import PyProof.Rows.All
import Wide.All
import OpenK.AllK
import Wide.FinOn
import KE.KStateDown
import Lean
import HandS.ForMost
import HandS.Wide
import HandS.WideBits
import HandS.IsInst
import HandS.Walk
import HandS.Evl
import HandS.Style
import HandS.Defaults
import HandS.Head0
import HandS.Head1
import HandS.Head2
import HandS.HeadEnd
import HandS.HeadHook1
import HandS.HeadHook2
import HandS.AnyAll
import HandS.TupAny
import HandS.TupMul
import HandS.Zip
import HandS.HeadHook3
import HandS.HeadHook4
import HandS.HeadWalk
import HandS.EndTab
import PyProof.TupleOfGen
import KE.KNest
import KE.KDictWalk
import PySem.Challenge.RW_shareones_k05_late_and_behind
set_option Elab.async false
set_option linter.all false
set_option maxRecDepth 100000
set_option maxHeartbeats 4000000
namespace Fq
open PySem PySem.Spec PyProof.Rows L2
section
variable {P : Program} {w : World} {K : PySem.W.Frag} {mg : Str → Option Value} {base : Heap}
def topS (i : Nat) : Stmt := PySem.Challenge.pw_shareones_k05_late_and_behind.main.body.getD i (.Pass ⟨0, 0, 0, 0⟩)
abbrev FnP (K : PySem.W.Frag) (x : Str) (st : Stmt) (f : Addr) (fd : FuncData) : Prop := FunD K x x (defArgs st) (defBody st) (defScope st) [] [] f fd
abbrev s_round_late : Stmt := topS 1
abbrev N_round_late : List Str := ["row", "by", "at"]
theorem sc_round_late : FnScope N_round_late ["row", "by"] (defScope s_round_late) := ⟨rfl, rfl, rfl, by decide +kernel, rfl, by decide +kernel, by decide +kernel⟩
abbrev s_behind : Stmt := topS 2
abbrev N_behind : List Str := ["row", "ahead"]
theorem sc_behind : FnScope N_behind ["row", "ahead"] (defScope s_behind) := ⟨rfl, rfl, rfl, by decide +kernel, rfl, by decide +kernel, by decide +kernel⟩
abbrev s_again : Stmt := topS 3
abbrev N_again : List Str := ["row", "many"]
theorem sc_again : FnScope N_again ["row", "many"] (defScope s_again) := ⟨rfl, rfl, rfl, by decide +kernel, rfl, by decide +kernel, by decide +kernel⟩
abbrev s__law_box : Stmt := topS 5
abbrev N__law_box : List Str := ["_law_script", "_law_k", "_law_cell"]
theorem sc__law_box : FnScope N__law_box ["_law_script", "_law_k"] (defScope s__law_box) := ⟨rfl, rfl, rfl, by decide +kernel, rfl, by decide +kernel, by decide +kernel⟩
abbrev s__law_take : Stmt := topS 6
abbrev N__law_take : List Str := ["_law_box_here", "_law_many", "_law_found", "_law_once"]
theorem sc__law_take : FnScope N__law_take ["_law_box_here", "_law_many"] (defScope s__law_take) := ⟨rfl, rfl, rfl, by decide +kernel, rfl, by decide +kernel, by decide +kernel⟩
abbrev s__law_folded : Stmt := topS 7
abbrev N__law_folded : List Str := ["_law_script", "_law_many", "_law_cells", "_law_k", "_law_cell"]
theorem sc__law_folded : FnScope N__law_folded ["_law_script", "_law_many"] (defScope s__law_folded) := ⟨rfl, rfl, rfl, by decide +kernel, rfl, by decide +kernel, by decide +kernel⟩
abbrev s__law_row : Stmt := topS 8
abbrev N__law_row : List Str := ["_law_box_here", "_law_long_here", "_law_way", "_law_at", "_law_bit", "_law_every", "_law_first", "_law_place"]
theorem sc__law_row : FnScope N__law_row ["_law_box_here", "_law_long_here"] (defScope s__law_row) := ⟨rfl, rfl, rfl, by decide +kernel, rfl, by decide +kernel, by decide +kernel⟩
abbrev s__law_long : Stmt := topS 9
abbrev N__law_long : List Str := ["_law_box_here"]
theorem sc__law_long : FnScope N__law_long ["_law_box_here"] (defScope s__law_long) := ⟨rfl, rfl, rfl, by decide +kernel, rfl, by decide +kernel, by decide +kernel⟩
abbrev s__law_same : Stmt := topS 10
abbrev N__law_same : List Str := ["_law_found", "_law_due", "_law_one", "_law_other"]
theorem sc__law_same : FnScope N__law_same ["_law_found", "_law_due"] (defScope s__law_same) := ⟨rfl, rfl, rfl, by decide +kernel, rfl, by decide +kernel, by decide +kernel⟩
abbrev s_law : Stmt := topS 11
abbrev N_law : List Str := ["_law_script", "_law_cells", "_law_k", "_law_box_here", "_law_long_here", "_law_row_here", "_law_turn", "_law_near", "_law_by", "_law_due", "_law_place", "_law_other", "_law_many", "_law_ahead", "_law_times_told", "_law_one", "_law_bit"]
theorem sc_law : FnScope N_law ["_law_script"] (defScope s_law) := ⟨rfl, rfl, rfl, by decide +kernel, rfl, by decide +kernel, by decide +kernel⟩
/-- the code object of the def at f is the one at c -/
def CodeAt (K : PySem.W.Frag) (f c : Addr) : Prop := ∀ (oc : Value) (od : Option Addr) (fd : FuncData) (osl : Array (Option Value)), K.lookup f = some ⟨oc, od, .func fd, osl⟩ → ∀ b, fd.code = .ref b → b = c
theorem okC {P : Program} {w : World} {K : PySem.W.Frag} {mg : Str → Option Value} {base : Heap} {x : Str} {st : Stmt} {f c : Addr} {fd : FuncData} {N ps : List Str} {k : Nat} {sp : Sp} (F : FnP K x st f fd) (hc : CodeAt K f c) (S : FnScope N ps (defScope st)) (len : ∀ vs H Q E, sp vs H Q E → vs.length = ps.length)
    (hb : ∀ (A : Around) (outer : List Env) (s : Shared) (H : Hp) (vs : List V) (Q : VK) (E : XK), Room k (A.deeper (envOfC x (defScope st) s.heap.objs.size f (.ref c))) → sp vs H Q E →
      ∃ t, PSs (cxOf CX0 P w K mg base N x (defScope st) f (.ref c) A outer s H E) (defBody st) t ∧ t { nx := fun _ H' => Q .non H', rt := Q } (L2.start N vs) H) : FnOk P w K mg base CX0 (k + 1) f fd ps sp := by
  obtain ⟨oc, od, dV, kV, doc, pm, an, cdv, ct, osl, rfl, lk, hcd, _, _⟩ := F.ex
  obtain ⟨b, rfl⟩ := He.codeIn_ref hcd
  have e := hc oc od _ osl lk b rfl
  subst e
  exact fn_of lk hcd S len hb
structure Defs (K : PySem.W.Frag) (mg : Str → Option Value) where
  f_round_late : Addr
  fd_round_late : FuncData
  F_round_late : FnP K "round_late" s_round_late f_round_late fd_round_late
  g_round_late : mg "round_late" = some (.ref f_round_late)
  b_round_late : Binds K fd_round_late ["row", "by"] []
  f_behind : Addr
  fd_behind : FuncData
  F_behind : FnP K "behind" s_behind f_behind fd_behind
  g_behind : mg "behind" = some (.ref f_behind)
  b_behind : Binds K fd_behind ["row", "ahead"] []
  f_again : Addr
  fd_again : FuncData
  F_again : FnP K "again" s_again f_again fd_again
  g_again : mg "again" = some (.ref f_again)
  b_again : Binds K fd_again ["row", "many"] []
  f__law_box : Addr
  fd__law_box : FuncData
  F__law_box : FnP K "_law_box" s__law_box f__law_box fd__law_box
  g__law_box : mg "_law_box" = some (.ref f__law_box)
  b__law_box : Binds K fd__law_box ["_law_script", "_law_k"] []
  f__law_take : Addr
  fd__law_take : FuncData
  F__law_take : FnP K "_law_take" s__law_take f__law_take fd__law_take
  g__law_take : mg "_law_take" = some (.ref f__law_take)
  b__law_take : Binds K fd__law_take ["_law_box_here", "_law_many"] []
  f__law_folded : Addr
  fd__law_folded : FuncData
  F__law_folded : FnP K "_law_folded" s__law_folded f__law_folded fd__law_folded
  g__law_folded : mg "_law_folded" = some (.ref f__law_folded)
  b__law_folded : Binds K fd__law_folded ["_law_script", "_law_many"] []
  f__law_row : Addr
  fd__law_row : FuncData
  F__law_row : FnP K "_law_row" s__law_row f__law_row fd__law_row
  g__law_row : mg "_law_row" = some (.ref f__law_row)
  b__law_row : Binds K fd__law_row ["_law_box_here", "_law_long_here"] []
  f__law_long : Addr
  fd__law_long : FuncData
  F__law_long : FnP K "_law_long" s__law_long f__law_long fd__law_long
  g__law_long : mg "_law_long" = some (.ref f__law_long)
  b__law_long : Binds K fd__law_long ["_law_box_here"] []
  f__law_same : Addr
  fd__law_same : FuncData
  F__law_same : FnP K "_law_same" s__law_same f__law_same fd__law_same
  g__law_same : mg "_law_same" = some (.ref f__law_same)
  b__law_same : Binds K fd__law_same ["_law_found", "_law_due"] []
  f_law : Addr
  fd_law : FuncData
  F_law : FnP K "law" s_law f_law fd_law
  g_law : mg "law" = some (.ref f_law)
  b_law : Binds K fd_law ["_law_script"] []
  c_round_late : Addr
  P_round_late : Addr
  k_round_late : CodeAt K f_round_late c_round_late
  m_abs : mg "abs" = none
  m_all : mg "all" = none
  m_bool : mg "bool" = none
  m_divmod : mg "divmod" = none
  m_enumerate : mg "enumerate" = none
  m_int : mg "int" = none
  m_isinstance : mg "isinstance" = none
  m_len : mg "len" = none
  m_list : mg "list" = none
  m_max : mg "max" = none
  m_min : mg "min" = none
  m_range : mg "range" = none
  m_str : mg "str" = none
  m_tuple : mg "tuple" = none
  m_zip : mg "zip" = none
structure Tabs {K : PySem.W.Frag} {mg : Str → Option Value} (T : Defs K mg) (base : Heap) : Prop where
  t_round_late : GxR.TabB base mg T.c_round_late T.P_round_late
theorem bt_abs : bootBuiltins "abs" = some (.builtin "abs") := by decide +kernel
theorem bt_all : bootBuiltins "all" = some (.builtin "all") := by decide +kernel
theorem bt_bool : bootBuiltins "bool" = some (.type "bool") := by decide +kernel
theorem bt_divmod : bootBuiltins "divmod" = some (.builtin "divmod") := by decide +kernel
theorem bt_enumerate : bootBuiltins "enumerate" = some (.type "enumerate") := by decide +kernel
theorem bt_int : bootBuiltins "int" = some (.type "int") := by decide +kernel
theorem bt_isinstance : bootBuiltins "isinstance" = some (.builtin "isinstance") := by decide +kernel
theorem bt_len : bootBuiltins "len" = some (.builtin "len") := by decide +kernel
theorem bt_list : bootBuiltins "list" = some (.type "list") := by decide +kernel
theorem bt_max : bootBuiltins "max" = some (.builtin "max") := by decide +kernel
theorem bt_min : bootBuiltins "min" = some (.builtin "min") := by decide +kernel
theorem bt_range : bootBuiltins "range" = some (.type "range") := by decide +kernel
theorem bt_str : bootBuiltins "str" = some (.type "str") := by decide +kernel
theorem bt_tuple : bootBuiltins "tuple" = some (.type "tuple") := by decide +kernel
theorem bt_zip : bootBuiltins "zip" = some (.type "zip") := by decide +kernel
def frT (t b : Int) : Int := (b.sign * t) / (Int.gcd t b : Int)
def frB (t b : Int) : Int := (b.natAbs : Int) / (Int.gcd t b : Int)
theorem fr_ex (t : Int) {b : Int} (hb : b ≠ 0) : ∃ (g : Nat) (x y : Int), 0 < g ∧ Int.gcd t b = g ∧ t = (g : Int) * x ∧ b = (g : Int) * y ∧ y ≠ 0 ∧ Int.gcd x y = 1 := by
  have hg : 0 < Int.gcd t b := Int.gcd_pos_of_ne_zero_right t hb
  obtain ⟨x, hx⟩ := Int.gcd_dvd_left t b
  obtain ⟨y, hy⟩ := Int.gcd_dvd_right t b
  refine ⟨Int.gcd t b, x, y, hg, rfl, hx, hy, fun e => hb (by rw [hy, e, Int.mul_zero]), ?_⟩
  generalize eg : Int.gcd t b = g at hg hx hy
  have e : g = g * Int.gcd x y := by
    rw [← eg]
    conv => lhs; rw [hx, hy, Int.gcd_mul_left]
    rw [Int.natAbs_natCast, eg]
  exact Nat.eq_of_mul_eq_mul_left hg (by rw [← e, Nat.mul_one])
theorem sgn {b : Int} {g : Nat} {y : Int} (hg : 0 < g) (hb : b = (g : Int) * y) : b.sign = y.sign := by
  rw [hb, Int.sign_mul, Int.sign_eq_one_of_pos (by omega), Int.one_mul]
theorem fr_vals {t b : Int} {g : Nat} {x y : Int} (hg : 0 < g) (eg : Int.gcd t b = g) (ht : t = (g : Int) * x) (hb : b = (g : Int) * y) : frT t b = y.sign * x ∧ frB t b = (y.natAbs : Int) := by
  have g0 : (g : Int) ≠ 0 := by omega
  constructor
  · unfold frT
    rw [eg, sgn hg hb, ht, show y.sign * ((g : Int) * x) = (g : Int) * (y.sign * x) by rw [Int.mul_left_comm]]
    exact Int.mul_ediv_cancel_left _ g0
  · unfold frB
    rw [eg, hb, Int.natAbs_mul, Int.natAbs_natCast, Int.natCast_mul]
    exact Int.mul_ediv_cancel_left _ g0
theorem sgn_abs {y : Int} (hy : y ≠ 0) : y.sign.natAbs = 1 := Int.natAbs_sign_of_ne_zero hy
theorem fr_pos (t : Int) {b : Int} (hb : b ≠ 0) : 0 < frB t b := by
  obtain ⟨g, x, y, hg, eg, ht, hy, hy0, h1⟩ := fr_ex t hb
  rw [(fr_vals hg eg ht hy).2]
  omega
theorem fr_gcd (t : Int) {b : Int} (hb : b ≠ 0) : Int.gcd (frT t b) (frB t b) = 1 := by
  obtain ⟨g, x, y, hg, eg, ht, hy, hy0, h1⟩ := fr_ex t hb
  rw [(fr_vals hg eg ht hy).1, (fr_vals hg eg ht hy).2]
  show Nat.gcd (y.sign * x).natAbs ((y.natAbs : Int)).natAbs = 1
  rw [Int.natAbs_mul, sgn_abs hy0, Nat.one_mul, Int.natAbs_natCast]
  exact h1
theorem fr_eq (t : Int) {b : Int} (hb : b ≠ 0) : frT t b * b = t * frB t b := by
  obtain ⟨g, x, y, hg, eg, ht, hy, hy0, h1⟩ := fr_ex t hb
  rw [(fr_vals hg eg ht hy).1, (fr_vals hg eg ht hy).2]
  rw [ht, hy]
  have e : y * y.sign = (y.natAbs : Int) := Int.mul_sign_self y
  rw [← e]
  simp only [Int.mul_comm, Int.mul_left_comm, Int.mul_assoc]
theorem fr_absT (t : Int) {b : Int} (hb : b ≠ 0) : (frT t b).natAbs ≤ t.natAbs := by
  obtain ⟨g, x, y, hg, eg, ht, hy, hy0, h1⟩ := fr_ex t hb
  rw [(fr_vals hg eg ht hy).1, ht, Int.natAbs_mul, sgn_abs hy0, Nat.one_mul, Int.natAbs_mul, Int.natAbs_natCast]
  exact Nat.le_mul_of_pos_left _ hg
theorem fr_absB (t : Int) {b : Int} (hb : b ≠ 0) : (frB t b).natAbs ≤ b.natAbs := by
  obtain ⟨g, x, y, hg, eg, ht, hy, hy0, h1⟩ := fr_ex t hb
  rw [(fr_vals hg eg ht hy).2, hy, Int.natAbs_mul, Int.natAbs_natCast, Int.natAbs_natCast]
  exact Nat.le_mul_of_pos_left _ hg
theorem fr_negT (t b : Int) : frT (-t) (-b) = frT t b := by
  unfold frT
  rw [Int.sign_neg, Int.neg_mul_neg, Int.gcd_neg, Int.neg_gcd]
theorem fr_negB (t b : Int) : frB (-t) (-b) = frB t b := by
  unfold frB
  rw [Int.natAbs_neg, Int.gcd_neg, Int.neg_gcd]
/-- what the program's two ways reckon -/
theorem fd_pos {g : Nat} {x : Int} (hg : 0 < g) : ((g : Int) * x).fdiv (g : Int) = x := by
  rw [Int.fdiv_eq_ediv_of_nonneg _ (by omega)]
  exact Int.mul_ediv_cancel_left _ (by omega)
theorem fd_neg {g : Nat} {x : Int} (hg : 0 < g) : ((g : Int) * x).fdiv (-(g : Int)) = -x := by
  rw [show (g : Int) * x = -(g : Int) * (-x) by rw [Int.neg_mul_neg]]
  exact Int.mul_fdiv_cancel_left _ (by omega)
theorem fr_lt (t : Int) {b : Int} (hb : b < 0) : t.fdiv (-(Int.gcd t b : Int)) = frT t b ∧ b.fdiv (-(Int.gcd t b : Int)) = frB t b := by
  obtain ⟨g, x, y, hg, eg, ht, hy, hy0, h1⟩ := fr_ex t (show b ≠ 0 by omega)
  rw [(fr_vals hg eg ht hy).1, (fr_vals hg eg ht hy).2, eg]
  have yn : y < 0 := by
    rw [hy] at hb
    exact Int.neg_of_mul_neg_right hb (by omega)
  constructor
  · conv => lhs; rw [ht]
    rw [fd_neg hg, Int.sign_eq_neg_one_of_neg yn]
    omega
  · conv => lhs; rw [hy]
    rw [fd_neg hg]
    omega
theorem fr_ge (t : Int) {b : Int} (hb : 0 < b) : t.fdiv (Int.gcd t b : Int) = frT t b ∧ b.fdiv (Int.gcd t b : Int) = frB t b := by
  obtain ⟨g, x, y, hg, eg, ht, hy, hy0, h1⟩ := fr_ex t (show b ≠ 0 by omega)
  rw [(fr_vals hg eg ht hy).1, (fr_vals hg eg ht hy).2, eg]
  have yn : 0 < y := by
    rw [hy] at hb
    exact Int.pos_of_mul_pos_right hb (by omega)
  constructor
  · conv => lhs; rw [ht]
    rw [fd_pos hg, Int.sign_eq_one_of_pos yn]
    omega
  · conv => lhs; rw [hy]
    rw [fd_pos hg]
    omega
/-! sizes -/
def S (n : Nat) (x : Int) : Prop := x.natAbs < 2 ^ n
theorem S.mono {n m : Nat} {x : Int} (h : S n x) (l : n ≤ m) : S m x := Nat.lt_of_lt_of_le h (Nat.pow_le_pow_right (by decide) l)
theorem S.mul {n m : Nat} {x y : Int} (h : S n x) (k : S m y) : S (n + m) (x * y) := by
  unfold S at *
  rw [Int.natAbs_mul, Nat.pow_add]
  exact Nat.mul_lt_mul'' h k
theorem S.add {n : Nat} {x y : Int} (h : S n x) (k : S n y) : S (n + 1) (x + y) := by
  unfold S at *
  rw [Nat.pow_succ]
  omega
theorem S.sub {n : Nat} {x y : Int} (h : S n x) (k : S n y) : S (n + 1) (x - y) := by
  unfold S at *
  rw [Nat.pow_succ]
  omega
theorem S.frT {n : Nat} {t b : Int} (h : S n t) (hb : b ≠ 0) : S n (frT t b) := Nat.lt_of_le_of_lt (fr_absT t hb) h
theorem S.frB {n : Nat} {t b : Int} (h : S n b) (hb : b ≠ 0) : S n (frB t b) := Nat.lt_of_le_of_lt (fr_absB t hb) h
theorem abs_eq (i : Int) : (if i < 0 then -i else i) = (i.natAbs : Int) := by
  split <;> omega
/-! the same rules with the written part by its name: for the inside of comprehensions -/
theorem pg_tupK {X : Cx} {K : PySem.W.Frag} {es : List Expr} {k n : Nat} {pos : Pos} {t : TGs} (h : X.K = K) (hc : X.calm = true) (hg : PGs X es t) (hn : (assignEach es X.env).length = n := by rfl) (hst : (assignEach es X.env).findIdx? (·.1) = none := by rfl) : PG X (.Tuple es k pos) (gTup K n t) := by
  subst h
  exact pg_tup hc hg hn hst
theorem isiK {X : Cx} {K : PySem.W.Frag} (h : X.K = K) : CallR X (.builtin "isinstance") (rIsi K) := by
  subst h
  exact call_isi
theorem ixlK {X : Cx} {K : PySem.W.Frag} (h : X.K = K) : IxR X (rIxL K) := by
  subst h
  exact ix_list
theorem ixtK {X : Cx} {K : PySem.W.Frag} (h : X.K = K) : IxR X (rIxT K) := by
  subst h
  exact ix_tup
theorem lenK {X : Cx} {K : PySem.W.Frag} (h : X.K = K) : CallR X (.builtin "len") (fun xs H Q => ∃ p ys, xs = [.ref p] ∧ (SqL K H p ys ∨ SqT K H p ys) ∧ Q (.int ys.length) H) := by
  subst h
  exact call_len_seq
theorem sumK {X : Cx} {K : PySem.W.Frag} (h : X.K = K) (hc : X.calm = true) : CallR X (.builtin "sum") (rSum K) := by
  subst h
  exact cr_sum hc
theorem yes_ite {σ : L2.St} {H : Hp} {A B : Hp → Prop} (h : A H) : tYes σ H (fun b H3 => if b = true then A H3 else B H3) := by
  show if true = true then A H else B H
  rw [if_pos rfl]
  exact h
/-! heaps -/
theorem same_upd {H : Hp} {p : Addr} {o : HO} (h : H p = none) : Same H (upd H p o) := fun b x e => by
  rw [upd_ne (ne_of_none e h)]
  exact e
def But (p : Addr) (H H' : Hp) : Prop := ∀ b o, b ≠ p → H b = some o → H' b = some o
theorem But.trans {p : Addr} {H H1 H2 : Hp} (a : But p H H1) (b : But p H1 H2) : But p H H2 := fun c o n e => b c o n (a c o n e)
theorem But.refl (p : Addr) (H : Hp) : But p H H := fun _ _ _ e => e
theorem But.put {p : Addr} {H H' : Hp} {o : HO} (a : But p H H') : But p H (L2.upd H' p o) := fun c x n e => by
  rw [upd_ne n]
  exact a c x n e
theorem same_but {p : Addr} {H H' : Hp} (a : Same H H') : But p H H' := fun c x _ e => a c x e
theorem But.new {p q : Addr} {H H' : Hp} {o : HO} (a : But p H H') (n : H' q = none) : But p H (upd H' q o) := fun c x hn e => by
  have e2 := a c x hn e
  rw [upd_ne (ne_of_none e2 n)]
  exact e2
/-- objects made since H may change: what H has stays -/
theorem same_newer {H H' : Hp} {q : Addr} {o : HO} (a : Same H H') (n : H q = none) : Same H (upd H' q o) := fun c x e => by
  rw [upd_ne (ne_of_none e n)]
  exact a c x e
theorem But.same {p : Addr} {H H1 H2 : Hp} (n : H p = none) (a : Same H H1) (b : But p H1 H2) : Same H H2 := fun c x e =>
  b c x (ne_of_none e n) (a c x e)
/-- the box: a rest, a begin, how often -/
def Bx (H : Hp) (p : Addr) (n : Nat) : Prop := ∃ a b c : Int, H p = some (.lst [.int a, .int b, .int c]) ∧ 0 ≤ a ∧ 0 ≤ b ∧ b < 2147483647 ∧ 0 ≤ c ∧ c ≤ n
theorem Bx.same {H H' : Hp} {p : Addr} {n : Nat} (h : Bx H p n) (s : Same H H') : Bx H' p n := by
  obtain ⟨a, b, c, hp, r⟩ := h
  exact ⟨a, b, c, s _ _ hp, r⟩
theorem Bx.mono {H : Hp} {p : Addr} {n m : Nat} (h : Bx H p n) (l : n ≤ m) : Bx H p m := by
  obtain ⟨a, b, c, hp, h1, h2, h3, h4, h5⟩ := h
  exact ⟨a, b, c, hp, h1, h2, h3, h4, by omega⟩
theorem Bx.new {H : Hp} {p q : Addr} {n : Nat} {o : HO} (h : Bx H p n) (nq : H q = none) : Bx (L2.upd H q o) p n := h.same (same_upd nq)
theorem Bx.ne_tup {H : Hp} {p q : Addr} {n : Nat} {xs : List V} (h : Bx H p n) (e : H q = some (.tup xs)) : q ≠ p := by
  obtain ⟨a, b, c, hp, _⟩ := h
  exact ne_of e hp (fun z => by cases z)
/-- an item of a menu of numbers -/
theorem at_menu {Pr : Int → Prop} {xs : List Int} {r : Int} (h0 : 0 ≤ r) (h1 : r < xs.length) (hx : ∀ x, x ∈ xs → Pr x) : ∃ v, atI (xs.map V.int) r = some (V.int v) ∧ Pr v := by
  obtain ⟨j, rfl⟩ := Int.eq_ofNat_of_zero_le h0
  have hj : j < xs.length := by omega
  refine ⟨xs[j], atI_nat (by rw [List.getElem?_map, List.getElem?_eq_getElem hj]; rfl), hx _ (List.getElem_mem hj)⟩
theorem SqL.mk {K : PySem.W.Frag} {H : Hp} {a : Addr} {xs : List V} (h : H a = some (.lst xs)) : SqL K H a xs := .inl (.inl h)
theorem SqT.mk {K : PySem.W.Frag} {H : Hp} {a : Addr} {xs : List V} (h : H a = some (.tup xs)) : SqT K H a xs := .inl (.inl h)
theorem same_tup {K : PySem.W.Frag} {H H' : Hp} {a : Addr} {xs : List V} (e : Same H H') (h : SqT K H a xs) : SqT K H' a xs := by
  rcases h with (h | ⟨o, h⟩) | h
  · exact .inl (.inl (e _ _ h))
  · exact .inl (.inr ⟨o, e _ _ h⟩)
  · exact .inr h
theorem ixn {n j : Nat} (hj : j < n) : ixN n (j : Int) = some j := by
  unfold ixN
  rw [if_pos (by omega), if_pos (by omega)]
  simp
theorem cdivP {a m : Int} (h0 : 0 < m) (h1 : m < 2 ^ 60) : CDivP a m := ⟨h0, PyProof.noPylong_of_log2 (wide_div (i := a) (b := 60) h0 (by omega) (by decide) (by decide)).2⟩
theorem i01 {c : Prop} [Decidable c] : -(2 ^ 64) < (if c then (1 : Int) else 0) ∧ (if c then (1 : Int) else 0) < 2 ^ 64 := by
  split <;> decide
theorem i01n {c : Prop} [Decidable c] : 0 ≤ (if c then (1 : Int) else 0) := by
  split <;> decide
theorem absn (i : Int) : 0 ≤ (if i < 0 then -i else i) := by
  split <;> omega
/-! the box of a cell -/
def sp__law_box (K : PySem.W.Frag) : Sp := fun vs H Q _ => ∃ (a : Addr) (ns : List Int) (k : Nat), vs = [.ref a, .int (k : Nat)] ∧ SqL K H a (ns.map V.int) ∧ k < 1000 ∧
  ∀ H' p, Same H H' → H p = none → Bx H' p 0 → Q (.ref p) H'
theorem ok__law_box (T : Defs K mg) (TT : Tabs T base) : FnOk P w K mg base CX0 1 T.f__law_box T.fd__law_box ["_law_script", "_law_k"] (sp__law_box K) := by
  refine T.F__law_box.ok sc__law_box (fun vs H Q E h => ?_) (fun cdv A outer s H vs Q E hr h => ?_)
  · obtain ⟨a, ns, k, rfl, hS, hk, q⟩ := h
    rfl
  · obtain ⟨a, ns, k, rfl, hS, hk, q⟩ := h
    refine ⟨_, PSs.nox (pss_cons (ps_set (i := 2) sc__law_box.nd rfl (.inl rfl) pe_int)
    (pss_cons (ps_if (pt_cmpR op_lt (pv 1) (pe_callB call_len_seq (by rfl) T.m_len bt_len (pa_cons (pv 0) pa_nil)) (nomark _)) (pss_one (ps_set (i := 2) sc__law_box.nd rfl (.inl rfl) (pe_ix ix_list (pv 0) (pv 1) (fun _ _ => rfl)))) pss_nil)
    (pss_one (ps_ret (pe_lst (pa_cons (pe_op op_mul (pe_callB call_abs (by rfl) T.m_abs bt_abs (pa_cons (pv 2) pa_nil)) (pe_callTy call_int1 (by rfl) T.m_int bt_int (pa_cons (pe_cmpR op_ge (pe_callB call_abs (by rfl) T.m_abs bt_abs (pa_cons (pv 2) pa_nil)) (pe_op op_pow pe_int pe_int) (nomark _)) pa_nil))) (pa_cons (pe_op op_mod (pe_op op_add (pv 2) (pe_op op_mul (pe_op op_mul pe_int (pv 1)) (pv 1))) pe_int) (pa_cons pe_int pa_nil)))))))), ?_⟩
    refine ⟨.int k, rfl, .ref a, rfl, a, _, rfl, .inl hS, _, _, rfl, rfl, _, rfl, ite2 (fun e => ?_) (fun e => ?_)⟩
    · have hl : (k : Int) < ((ns.map V.int).length : Nat) := of_decide_eq_true e
      rw [List.length_map] at hl
      have hj : k < ns.length := by omega
      refine ⟨.ref a, rfl, .int k, rfl, a, _, _, .int ns[k], rfl, rfl, hS, atI_nat (by rw [List.getElem?_map, List.getElem?_eq_getElem hj]; rfl), ?_⟩
      refine ⟨_, rfl, _, rfl, _, rfl, _, rfl, _, _, rfl, rfl, ⟨by decide, by decide, by decide⟩, _, _, rfl, rfl, .inr ⟨_, rfl, _, _, rfl, rfl, .inr i01, _, rfl, .int k, rfl, _, _, rfl, rfl, .inl ⟨by decide, by decide⟩, .int k, rfl, _, _, rfl, rfl, .inr ⟨by omega, by omega⟩, _, _, rfl, rfl, _, _, rfl, rfl, (show (0 : Int) < 2147483647 by decide), (show 3 ≤ sizeLine by decide), fun p np => ?_⟩⟩
      refine q _ p (same_upd np) np ⟨_, _, _, upd_same, ?_, Int.emod_nonneg _ (by decide), Int.emod_lt_of_pos _ (by decide), Int.le_refl 0, Int.le_refl 0⟩
      exact Int.mul_nonneg (absn _) i01n
    · refine ⟨_, rfl, _, rfl, _, rfl, _, rfl, _, _, rfl, rfl, ⟨by decide, by decide, by decide⟩, _, _, rfl, rfl, .inr ⟨_, rfl, _, _, rfl, rfl, .inr i01, _, rfl, .int k, rfl, _, _, rfl, rfl, .inl ⟨by decide, by decide⟩, .int k, rfl, _, _, rfl, rfl, .inr ⟨by omega, by omega⟩, _, _, rfl, rfl, _, _, rfl, rfl, (show (0 : Int) < 2147483647 by decide), (show 3 ≤ sizeLine by decide), fun p np => ?_⟩⟩
      refine q _ p (same_upd np) np ⟨_, _, _, upd_same, ?_, Int.emod_nonneg _ (by decide), Int.emod_lt_of_pos _ (by decide), Int.le_refl 0, Int.le_refl 0⟩
      exact Int.mul_nonneg (absn _) i01n
/-! one number taken -/
def sp__law_take (K : PySem.W.Frag) : Sp := fun vs H Q _ => ∃ (p : Addr) (m : Int) (n : Nat), vs = [.ref p, .int m] ∧ Bx H p n ∧ 0 < m ∧ m < 2 ^ 60 ∧ n < 1000000000000 ∧
  ∀ H' r, But p H H' → Bx H' p (n + 1) → 0 ≤ r → r < m → Q (.int r) H'
theorem ok__law_take (T : Defs K mg) (TT : Tabs T base) : FnOk P w K mg base CX0 1 T.f__law_take T.fd__law_take ["_law_box_here", "_law_many"] (sp__law_take K) := by
  refine T.F__law_take.ok sc__law_take (fun vs H Q E h => ?_) (fun cdv A outer s H vs Q E hr h => ?_)
  · obtain ⟨p, m, n, rfl, ⟨a, b, c, hp, ha, hb, hb2, hc, hc2⟩, h0, h1, hn, q⟩ := h
    rfl
  · obtain ⟨p, m, n, rfl, ⟨a, b, c, hp, ha, hb, hb2, hc, hc2⟩, h0, h1, hn, q⟩ := h
    refine ⟨_, PSs.nox (pss_cons (ps_if (pt_cmpR op_gt (pe_ix ix_list (pv 0) pe_int (fun _ _ => rfl)) pe_int (nomark _)) (pss_cons (ps_asg (pe_callB call_divmodW (by rfl) T.m_divmod bt_divmod (pa_cons (pe_ix ix_list (pv 0) pe_int (fun _ _ => rfl)) (pa_cons (pv 1) pa_nil))) (pg_tup rfl (pgs_cons (pg_sub (pv 0) pe_int set_list) (pgs_cons (pg_name (i := 2) sc__law_take.nd rfl (.inl rfl)) pgs_nil))))
    (pss_one (ps_ret (pv 2)))) pss_nil)
    (pss_cons (ps_asg (pe_op op_add (pe_ix ix_list (pv 0) pe_int (fun _ _ => rfl)) pe_int) (pg_sub (pv 0) pe_int set_list))
    (pss_cons (ps_set (i := 3) sc__law_take.nd rfl (.inl rfl) (pe_op op_mod (pe_op op_pow (pe_op op_add (pe_ix ix_list (pv 0) pe_int (fun _ _ => rfl)) (pe_op op_mul pe_int (pe_ix ix_list (pv 0) pe_int (fun _ _ => rfl)))) pe_int) pe_int))
    (pss_one (ps_ret (pe_op op_mod (pe_op op_fdiv (pe_op op_mod (pe_op op_add (pe_op op_mul (pv 3) pe_int) (pe_op op_mul (pe_op op_mul (pe_ix ix_list (pv 0) pe_int (fun _ _ => rfl)) (pe_ix ix_list (pv 0) pe_int (fun _ _ => rfl))) pe_int)) pe_int) pe_int) (pv 1))))))), ?_⟩
    have SQ : SqL K H p [.int a, .int b, .int c] := SqL.mk hp
    refine ⟨.ref p, rfl, p, _, 0, _, rfl, rfl, SQ, atI_nat (j := 0) rfl, _, _, rfl, rfl, _, rfl, ite2 (fun e => ?_) (fun e => ?_)⟩
    · refine ⟨.ref p, rfl, p, _, 0, _, rfl, rfl, SQ, atI_nat (j := 0) rfl, .int m, rfl, a, m, rfl, cdivP h0 h1, fun t nt => ?_⟩
      have hp1 : (upd H t (.tup [.int (a / m), .int (a % m)])) p = some (.lst [.int a, .int b, .int c]) := by
        rw [upd_ne (ne_of_none hp nt)]
        exact hp
      refine ⟨t, _, rfl, SqT.mk upd_same, rfl, _, _, rfl, .ref p, rfl, p, _, 0, 0, rfl, rfl, hp1, rfl, _, _, rfl, rfl, _, rfl, ?_⟩
      refine q _ _ ((But.refl p H).new nt).put ⟨_, _, _, upd_same, Int.ediv_nonneg ha (by omega), hb, hb2, hc, by omega⟩ (Int.emod_nonneg _ (by omega)) (Int.emod_lt_of_pos _ h0)
    · refine ⟨.ref p, rfl, p, _, 2, _, rfl, rfl, SQ, atI_nat (j := 2) rfl, _, _, rfl, rfl, .ref p, rfl, p, _, 2, 2, rfl, rfl, hp, rfl, ?_⟩
      have SQ1 : SqL K (upd H p (.lst [.int a, .int b, .int (c + 1)])) p [.int a, .int b, .int (c + 1)] := SqL.mk upd_same
      refine ⟨.ref p, rfl, p, _, 1, _, rfl, rfl, SQ1, atI_nat (j := 1) rfl, .ref p, rfl, p, _, 2, _, rfl, rfl, SQ1, atI_nat (j := 2) rfl, _, _, rfl, rfl, .inl ⟨by decide, by decide⟩, _, _, rfl, rfl, _, _, rfl, rfl, ⟨by decide, by decide, by omega⟩, _, _, rfl, rfl, (show (0 : Int) < 2147483647 by decide), ?_⟩
      refine ⟨_, rfl, _, _, rfl, rfl, .inr ⟨by decide, by decide⟩, .ref p, rfl, p, _, 2, _, rfl, rfl, SQ1, atI_nat (j := 2) rfl, .ref p, rfl, p, _, 2, _, rfl, rfl, SQ1, atI_nat (j := 2) rfl, _, _, rfl, rfl, .inl ⟨by omega, by omega⟩, _, _, rfl, rfl, .inr ⟨by decide, by decide⟩, _, _, rfl, rfl, _, _, rfl, rfl, (show (0 : Int) < 2147483629 by decide), _, _, rfl, rfl, ⟨by decide, by decide⟩, .int m, rfl, _, _, rfl, rfl, h0, ?_⟩
      refine q _ _ (But.refl p H).put ⟨_, _, _, upd_same, ha, hb, hb2, by omega, by omega⟩ (Int.emod_nonneg _ (by omega)) (Int.emod_lt_of_pos _ h0)
/-! the folded cells -/
theorem cut_take (ns : List Int) (m : Nat) : cutV (ns.map V.int) none (some (m : Int)) = (ns.take m).map V.int := by
  unfold cutV
  rw [HT.sIx_none, HT.sIx_nat, List.drop_zero, List.length_map, Nat.sub_zero, ← List.map_take]
  congr 1
  by_cases h : m ≤ ns.length
  · rw [Nat.min_eq_left h]
  · rw [Nat.min_eq_right (by omega), List.take_length, List.take_of_length_le (by omega)]
theorem cut_rest (ns : List Int) (m k : Nat) : ∃ ms : List Int, cutV (ns.map V.int) (some (m : Int)) (some (k : Int)) = ms.map V.int ∧ (0 < ms.length → m < ns.length) ∧ ms.length ≤ ns.length := by
  unfold cutV
  rw [HT.sIx_nat, HT.sIx_nat, List.length_map]
  refine ⟨(ns.drop (min m ns.length)).take (min k ns.length - min m ns.length), ?_, fun h => ?_, ?_⟩
  · rw [List.map_take, List.map_drop]
  · rw [List.length_take, List.length_drop] at h
    omega
  · rw [List.length_take, List.length_drop]
    omega
def sp__law_folded (K : PySem.W.Frag) : Sp := fun vs H Q _ => ∃ (a : Addr) (ns : List Int) (m : Nat), vs = [.ref a, .int (m : Nat)] ∧ SqL K H a (ns.map V.int) ∧ ns.length ≤ 63 ∧ 0 < m ∧ m < 64 ∧
  ∀ H' p (cs : List Int), Same H H' → H p = none → H' p = some (.lst (cs.map V.int)) → cs.length ≤ m → Q (.ref p) H'
theorem ok__law_folded (T : Defs K mg) (TT : Tabs T base) : FnOk P w K mg base CX0 1 T.f__law_folded T.fd__law_folded ["_law_script", "_law_many"] (sp__law_folded K) := by
  refine T.F__law_folded.ok sc__law_folded (fun vs H Q E h => ?_) (fun cdv A outer s H vs Q E hr h => ?_)
  · obtain ⟨a, ns, m, rfl, hS, hlen, hm, hm2, q⟩ := h
    rfl
  · obtain ⟨a, ns, m, rfl, hS, hlen, hm, hm2, q⟩ := h
    refine ⟨_, PSs.nox (pss_cons (ps_set (i := 2) sc__law_folded.nd rfl (.inl rfl) (pe_callTy call_list_of (by rfl) T.m_list bt_list (pa_cons (pe_slice sl_list (pv 0) po_none (po_some (pv 1))) pa_nil)))
    (pss_cons (ps_for PassesOwn.never rfl (pi_enum (by rfl) T.m_enumerate (pa_cons (pe_slice sl_list (pv 0) (po_some (pv 1)) (po_some pe_int)) pa_nil)) (pg_tup rfl (pgs_cons (pg_name (i := 3) sc__law_folded.nd rfl (.inl rfl)) (pgs_cons (pg_name (i := 4) sc__law_folded.nd rfl (.inl rfl)) pgs_nil))) (pss_one (ps_asg (pe_op op_add (pe_ix ix_list (pv 2) (pe_op op_mod (pv 3) (pv 1)) (fun _ _ => rfl)) (pe_op op_mul (pv 4) (pe_op op_add (pv 3) pe_int))) (pg_sub (pv 2) (pe_op op_mod (pv 3) (pv 1)) set_list))))
    (pss_one (ps_ret (pv 2))))), ?_⟩
    refine ⟨.ref a, rfl, .int m, rfl, m, rfl, a, _, rfl, hS, fun c nc => ?_⟩
    rw [cut_take]
    have s1 : Same H (upd H c (.lst ((ns.take m).map V.int))) := same_upd nc
    refine ⟨c, _, rfl, .inl (SqL.mk upd_same), fun l nl => ?_⟩
    have s2 := s1.trans (same_upd nl (o := .lst ((ns.take m).map V.int)))
    refine ⟨.ref a, rfl, .int m, rfl, m, rfl, 63, rfl, a, _, rfl, s2.seq hS, fun d nd => ?_⟩
    obtain ⟨ms, em, hms, hms2⟩ := cut_rest ns m 63
    rw [show (63 : Int) = ((63 : Nat) : Int) from rfl, em]
    have nl0 : H l = none := s1.free nl
    have nd0 : H d = none := s2.free nd
    have ndl : l ≠ d := fun e => by
      rw [← e, upd_same] at nd
      cases nd
    refine ⟨d, _, rfl, SqL.mk upd_same, for_it (walk_enum (xs := ms.map V.int)) (fun i σ H3 => ∃ y3 y4, ∃ cs : List Int, σ = [some (.ref a), some (.int m), some (.ref l), y3, y4] ∧ Same H H3 ∧ H3 l = some (.lst (cs.map V.int)) ∧ cs.length = (ns.take m).length ∧ H3 d = some (.lst (ms.map V.int))) ⟨none, none, ns.take m, rfl, s2.trans (same_upd nd), ?_, rfl, upd_same⟩ ?_ ?_ ?_⟩
    · rw [upd_ne ndl, upd_same]
    · rintro i σ H3 hi ⟨y3, y4, cs, rfl, s3, hl, hc, hd⟩
      exact SqL.mk hd
    · rintro i x σ H3 H4 hi ⟨y3, y4, cs, rfl, s3, hl, hc, hd⟩ ⟨t, x1, x2, rfl, nt, rfl, e1, e2⟩
      rw [List.length_map] at hi
      have lm : m < ns.length := hms (by omega)
      have lc : cs.length = m := by
        rw [hc, List.length_take]
        omega
      have ex1 : x1 = .int (i : Nat) := (Option.some.inj e1).symm
      have ex2 : x2 = .int ms[i] := by
        have e2 : (ms.map V.int)[i]? = some x2 := e2
        rw [List.getElem?_map, List.getElem?_eq_getElem hi] at e2
        exact (Option.some.inj e2).symm
      subst ex1 ex2
      have hl1 : (upd H3 t (.tup [.int (i : Nat), .int ms[i]])) l = some (.lst (cs.map V.int)) := by
        rw [upd_ne (ne_of_none hl nt)]
        exact hl
      have him : i % m < cs.length := by
        rw [lc]
        exact Nat.mod_lt _ hm
      have eim : ((i : Int) % (m : Int)) = ((i % m : Nat) : Int) := by omega
      refine ⟨t, _, rfl, SqT.mk upd_same, rfl, _, _, rfl, _, _, rfl, rfl, ?_⟩
      refine ⟨.ref l, rfl, .int (i : Nat), rfl, .int m, rfl, _, _, rfl, rfl, (show (0 : Int) < (m : Int) by omega), l, _, _, .int cs[i % m], rfl, rfl, SqL.mk hl1, ?_, .int ms[i], rfl, .int (i : Nat), rfl, _, _, rfl, rfl, _, _, rfl, rfl, .inr ⟨by omega, by omega⟩, _, _, rfl, rfl, .ref l, rfl, .int (i : Nat), rfl, .int m, rfl, _, _, rfl, rfl, (show (0 : Int) < (m : Int) by omega), l, _, _, i % m, rfl, rfl, hl1, ?_, ?_⟩
      · rw [eim]
        exact atI_nat (by rw [List.getElem?_map, List.getElem?_eq_getElem him]; rfl)
      · rw [eim]
        exact ixn (by rw [List.length_map]; exact him)
      · refine ⟨_, _, cs.set (i % m) (cs[i % m] + ms[i] * ((i : Int) + 2)), rfl, same_newer (s3.trans (same_upd nt)) nl0, ?_, by rw [List.length_set, hc], ?_⟩
        · rw [upd_same, List.map_set]
        · rw [upd_ne ndl.symm, upd_ne (ne_of_none hd nt)]
          exact hd
    · rintro σ H3 ⟨y3, y4, cs, rfl, s3, hl, hc, hd⟩
      exact ⟨.ref l, rfl, q H3 l cs s3 nl0 hl (by rw [hc, List.length_take]; omega)⟩
/-! generator expressions: the walked thing, the element, the generator at hand -/
def SrcOk (X : Cx) (P : Addr) (s1 : Shared) (xv : Value) (n : Nat) (Pf : Nat → Value → Prop) : Prop :=
  ∃ (o : Obj) (aux : List Addr) (Z : Nat → Heap → Prop),
    (∀ Q : Value → Shared → Prop, Q (.ref s1.heap.objs.size) { s1 with heap := s1.heap.push o } → wpAny (model X.prog X.w) X.A (pyIter xv) Q X.xe s1) ∧
    (∀ b ∈ aux, b < s1.heap.objs.size ∧ b ≠ P) ∧
    (∀ B : Around, B.handled = none → Walks X.prog X.w B s1.heap.objs.size (s1.heap.objs.size :: aux) [s1.heap.objs.size] n Pf Z) ∧ Z 0 (s1.heap.push o)
def EltOk (X : Cx) (P : Addr) (scope : Scope) (x : Str) (elt : Expr) (s1 : Shared) (Pf F : Nat → Value → Prop) : Prop :=
  ∀ (cenv : Env) (B : Around) (E2 : Value → Shared → Prop) (i : Nat) (v : Value) (s2 : Shared) (m2 : Str → Option Value), cenv.scope = scope → cenv.cells = cloFrom X.env.cells scope.names [] → cenv.globals = X.env.globals → cenv.builtins = builtinsNs →
    B.handled = none → Pf i v → s2.heap.Ns cenv.locals m2 → m2 x = some v → (∀ b o, b ≠ P → s1.heap.get? b = some o → s2.heap.get? b = some o) →
    wpAny (model X.prog X.w) B (eval elt cenv) (fun y s3 => F i y ∧ Keeps s2 s3) E2 s2
def AtHand (X : Cx) (pins : List (Addr × Obj)) (σ : L2.St) (H1 : Hp) (P : Addr) (n : Nat) (F : Nat → Value → Prop) (g : Addr) (s5 : Shared) : Prop :=
  ∃ (fp wr : List Addr) (G : Array GenState → Array GenState → Prop) (F' : Nat → Value → Prop) (Z : Nat → Shared → Prop),
    WalksS X.prog X.w X.A.in4 g fp wr G n F' Z ∧ (∀ j v, F' j v → F j v) ∧ Z 0 s5 ∧ (∀ b ∈ fp, b < s5.heap.objs.size) ∧ g ∈ fp ∧ (∀ i s9, Z i s9 → s9.TypeIs (.ref g) "generator") ∧
    ∀ s', Moved wr G s5 s' → ∃ H2, GxR.Tabbed P H1 H2 ∧ Inv X pins σ H2 s'
theorem gen_one {X : Cx} {pins : List (Addr × Obj)} {σ : L2.St} {s : Shared} {c P : Addr} {elt iter : Expr} {x : Str} {px gpos : Pos} {scope : Scope} {k : Nat} {W : Value → Shared → Prop}
    (hr : Room k X.A) (TB : GxR.TabB X.base X.mg c P) (hcode : X.env.code = .ref c) (S : GxR.GenS X.env scope x) (hs : ∀ v, genFold iter X.env v = pure v)
    (h : wpAny (model X.prog X.w) X.A (eval iter X.env) (fun xv s1 => ∃ (H1 : Hp) (ps : Array Value) (n : Nat) (Pf F : Nat → Value → Prop), Inv X pins σ H1 s1 ∧ H1 P = some (.tbl ps) ∧ TriplesOk ps.toList ∧ SrcOk X P s1 xv n Pf ∧
      EltOk X P scope x elt s1 Pf F ∧ ∀ g s5, AtHand X pins σ H1 P n F g s5 → W (.ref g) s5) X.xe s) :
    wpAny (model X.prog X.w) X.A (eval (.GeneratorExp elt [⟨.Name x px, iter, [], 0⟩] scope gpos) X.env) W X.xe s := by
  have deep := hr.dp
  refine wpAny_GeneratorExp_walksQ hr.hd S.co (closure_ok S.free) S.cell S.dot S.loc S.kind (by omega) (wpAny_mono h (fun xv s1 z => ?_) fun _ _ e => e) hs
  obtain ⟨H1, ps, n, Pf, F, J1, hP, trip, ⟨o, aux, Z, go, hau, wk, z0⟩, hel, fin⟩ := z
  refine go _ ?_
  have hPs : s1.heap.get? P = some { cls := .none, data := .fields ps } := J1.hok P _ hP
  have ltP : P < s1.heap.objs.size := Heap.lt_size hPs
  have hP2 : (s1.heap.push o).get? P = some { cls := .none, data := .fields ps } := Heap.get?_push_of_some _ hPs
  have cd : PySem.W.CodeHd (s1.heap.push o) c P := TB.code.keeps fun b u e => Heap.get?_push_of_some _ (J1.bk b u e)
  have lim : (s1.heap.push o).NoLimit := J1.nolimit.push o
  have szp : (s1.heap.push o).objs.size = s1.heap.objs.size + 1 := Heap.size_push ..
  have go2 : ∀ (code : Value) (h3 : Heap) (tk : Nat) (more : Array Value), Heap.ExtBut P (s1.heap.push o) h3 → (s1.heap.push o).objs.size ≤ h3.objs.size → h3.get? P = some { cls := .none, data := .fields (ps ++ more) } → TriplesOk (ps ++ more).toList →
      wpAny (model X.prog X.w) X.A (builtinsFor X.env.globals X.env.builtins) (fun bi s4 =>
        ∃ I0 fp wr n0 Pf0 Z0 pz F0, Value.ref s1.heap.objs.size = .ref I0 ∧ (∀ B : Around, B.handled = none → Walks X.prog X.w B I0 fp wr n0 Pf0 Z0) ∧ Z0 0 s4.heap ∧ (∀ b ∈ fp, b < s4.heap.objs.size) ∧ s4.heap.NoLimit ∧ cStatics ∉ wr ∧
          (∀ hq : Heap, (∀ b o, s4.heap.get? b = some o → hq.get? b = some o) →
            QuietGen X.prog X.w (genEnv scope (cloFrom X.env.cells scope.names []) s4.heap.objs.size code bi X.env) x [] elt (List.range s4.heap.objs.size) wr Pf0 pz F0 hq) ∧
          (∀ g h5 tk5 gs, gs.bare = true → s4.heap.objs.size < g → h5.objs.size = g + 1 → (∀ b o, s4.heap.get? b = some o → h5.get? b = some o) →
            WalksS X.prog X.w X.A.in4 g (g :: s4.heap.objs.size :: List.range s4.heap.objs.size) (s4.heap.objs.size :: wr) (GenOnlyQ s4.gens.size) (passing pz n0 0).length
              (fun j y => ∃ i, (passing pz n0 0)[j]? = some i ∧ F0 i y) (GenAt X.prog X.w X.A.in4 g s4.gens.size s4.heap.objs.size (List.range s4.heap.objs.size) wr pz n0 F0) →
            GenAt X.prog X.w X.A.in4 g s4.gens.size s4.heap.objs.size (List.range s4.heap.objs.size) wr pz n0 F0 0 { s4 with gens := s4.gens.push gs, toks := tk5, heap := h5 } →
            W (.ref g) { s4 with gens := s4.gens.push gs, toks := tk5, heap := h5 })) X.xe { s1 with heap := h3, toks := tk } := by
    intro code h3 tk more hx hsz hP3 trip3
    obtain ⟨bm, ob, e1, e2, e3, e4, e5, e6, e7, e8⟩ := TB.bm
    have keep3 : ∀ b u, b ≠ P → s1.heap.get? b = some u → h3.get? b = some u := fun b u hb e => hx b u hb (Heap.get?_push_of_some _ e)
    have stP : cStatics ≠ P := fun z => by
      obtain ⟨_, ⟨o1, es, ep, ho, hd, _⟩, _⟩ := J1.nolimit
      rw [z, hPs] at ho
      cases ho
      cases hd
    have stL : cStatics < s1.heap.objs.size := by
      obtain ⟨_, hns, _⟩ := J1.nolimit
      exact hns.lt
    have newP : s1.heap.objs.size ≠ P := Nat.ne_of_gt ltP
    refine wpAny_builtinsFor (m := X.mg) (by rw [J1.ok.glob]; exact ((J1.mod.glob.keeps J1.bk).push o).extBut hx TB.gP) e1 e2 (keep3 _ _ e4 (J1.bk _ _ e5)) e6 e7 e8 ?_
    refine ⟨s1.heap.objs.size, s1.heap.objs.size :: aux, [s1.heap.objs.size], n, Pf, Z, fun _ => true, F, rfl, wk, ?_, ?_, lim.extBut hx stP, ?_, ?_, ?_⟩
    · refine (wk X.A hr.hd).frame _ _ _ z0 fun b hb u e => hx b u (fun z => ?_) e
      rcases List.mem_cons.mp hb with z2 | z2
      · exact newP (z2.symm.trans z)
      · exact (hau b z2).2 z
    · intro b hb
      show b < h3.objs.size
      have up : s1.heap.objs.size < h3.objs.size := by omega
      rcases List.mem_cons.mp hb with z2 | z2
      · rw [z2]
        exact up
      · exact Nat.lt_trans (hau b z2).1 up
    · intro z
      rcases List.mem_cons.mp z with z2 | z2
      · exact Nat.ne_of_lt stL z2
      · cases z2
    · intro hq keepq
      refine ⟨fun B E2 i v s2 m2 hB hv hn hm hk => ?_, fun B E2 i v s2 m2 hB hv _ hn hm hk => ?_⟩
      · simp only [List.forIn_nil]
        exact wpAny_pure ⟨rfl, GxR.keeps_refl _⟩
      · refine hel _ B E2 i v s2 m2 rfl rfl rfl rfl hB hv hn hm fun b u hb e => ?_
        have lb := Heap.lt_size e
        have up : s1.heap.objs.size < h3.objs.size := by omega
        refine hk b (List.mem_range.mpr (Nat.lt_trans lb up)) (fun z => ?_) u (keepq b u (keep3 b u hb e))
        rcases List.mem_cons.mp z with z2 | z2
        · exact Nat.ne_of_lt lb z2
        · cases z2
    · intro g h5 tk5 gs hgb hag hsz5 hk5 W5 gat
      simp only [GxR.passing_true, List.length_range] at W5
      refine fin g _ ⟨_, _, _, _, _, W5, fun j v hv => ?_, gat, fun b hb => ?_, List.mem_cons_self, fun i s9 h9 => h9.1.typeIs, fun s' hm => ?_⟩
      · obtain ⟨i, hij, e⟩ := hv
        obtain ⟨_, ej⟩ := List.getElem?_eq_some_iff.mp hij
        rw [List.getElem_range] at ej
        subst ej
        exact e
      · show b < h5.objs.size
        have h8 : h3.objs.size < g := hag
        have h9 : h5.objs.size = g + 1 := hsz5
        have u1 : g < h5.objs.size := by
          rw [h9]
          exact Nat.lt_succ_self g
        have u2 : h3.objs.size < h5.objs.size := Nat.lt_trans h8 u1
        rcases List.mem_cons.mp hb with z | z
        · rw [z]
          exact u1
        · rcases List.mem_cons.mp z with z | z
          · rw [z]
            exact u2
          · exact Nat.lt_trans (show b < h3.objs.size from List.mem_range.mp z) u2
      · have old : ∀ b u, s1.heap.get? b = some u → b ∉ h3.objs.size :: [s1.heap.objs.size] := fun b u e hb => by
          have lb := Heap.lt_size e
          have up : s1.heap.objs.size < h3.objs.size := by omega
          rcases List.mem_cons.mp hb with z | z
          · exact Nat.ne_of_lt (Nat.lt_trans lb up) z
          · rcases List.mem_cons.mp z with z | z
            · exact Nat.ne_of_lt lb z
            · cases z
        have R := GxR.inv_tab (more := more) (h' := s'.heap) (g' := s'.gens) (d' := s'.drawn) (t' := s'.toks) J1 hP (fun b u hb e => hm.heap b u (old b u e) (hk5 b u (keep3 b u hb e)))
          (hm.heap P _ (old P _ hPs) (hk5 P _ hP3)) (AllBare.movedS (J1.bare.push hgb) hm)
        rw [GxR.sh_eta s1 s' hm.os] at R
        exact ⟨_, ⟨⟨ps ++ more, upd_same, trip3⟩, fun b hb => upd_ne hb⟩, R⟩
  refine ⟨lim, ?_⟩
  cases hf : codeAmong gpos ps.toList with
  | none =>
    refine wpAny_genexprCodeX hcode (cd.code hP2 trip) (cd.tab hP2) hf fun c' h' tk hx hge hlt hco' _ htab' _ => ?_
    obtain ⟨o1, vs, f1, tf, fl, tg, inF, tx, tt, op, _, _, _, _, _, _, _, _, _, htr, _⟩ := hco'
    exact go2 _ h' tk _ hx (Nat.le_trans hge (Nat.le_of_lt hlt)) htab'.2 htr
  | some cv =>
    refine wpAny_genexprCode_hit hcode (cd.code hP2 trip) hf ?_
    exact go2 cv (s1.heap.push o) s1.toks #[] (Heap.ExtBut.refl _ _) (Nat.le_refl _) (by rw [Array.append_empty]; exact hP2) (by rw [Array.append_empty]; exact trip)
/-! tuple(element for x in walked) -/
structure PSrc (X : Cx) (P : Addr) (iter : Expr) (ti : L2.St → Hp → (List V → Hp → Prop) → Prop) : Prop where
  run : ∀ (pins : List (Addr × Obj)) (s : Shared) (σ : L2.St) (H : Hp) (R : List V → Hp → Prop), Inv X pins σ H s → ti σ H (fun xs H1 => GxR.TabG H1 P ∧ R xs H1) →
    wpAny (model X.prog X.w) X.A (eval iter X.env) (fun xv s1 => ∃ (H1 : Hp) (xs : List V), Inv X pins σ H1 s1 ∧ GxR.TabG H1 P ∧ R xs H1 ∧ SrcOk X P s1 xv xs.length (fun i u => ∃ y, xs[i]? = some y ∧ RelV y u)) X.xe s
/-- where the element is reckoned: the generator's own frame -/
structure InGen (X : Cx) (P : Addr) (scope : Scope) (s1 : Shared) (cenv : Env) (B : Around) (s2 : Shared) (m2 : Str → Option Value) : Prop where
  sc : cenv.scope = scope
  cells : cenv.cells = cloFrom X.env.cells scope.names []
  glob : cenv.globals = X.env.globals
  blt : cenv.builtins = builtinsNs
  hd : B.handled = none
  ns : s2.heap.Ns cenv.locals m2
  keep : ∀ b o, b ≠ P → s1.heap.get? b = some o → s2.heap.get? b = some o
structure PElt (X : Cx) (P : Addr) (scope : Scope) (x : Str) (elt : Expr) (te : L2.St → Hp → V → V → Prop) : Prop where
  run : ∀ (pins : List (Addr × Obj)) (s1 : Shared) (σ : L2.St) (H : Hp), Inv X pins σ H s1 → GxR.TabG H P → ∀ (cenv : Env) (B : Around) (E2 : Value → Shared → Prop) (s2 : Shared) (m2 : Str → Option Value) (v y : V) (u : Value),
    InGen X P scope s1 cenv B s2 m2 → RelV v u → te σ H v y → m2 x = some u → wpAny (model X.prog X.w) B (eval elt cenv) (fun z s3 => RelV y z ∧ Keeps s2 s3) E2 s2
def tTupG (P : Addr) (ti : L2.St → Hp → (List V → Hp → Prop) → Prop) (te : L2.St → Hp → V → V → Prop) : TE := fun σ H Q => ti σ H fun xs H1 => GxR.TabG H1 P ∧ xs.length ≤ sizeLine ∧ ∃ ys : List V, ys.length = xs.length ∧
  (∀ (i : Nat) (x : V), xs[i]? = some x → ∃ y, ys[i]? = some y ∧ te σ H1 x y) ∧ ∀ H2 p, GxR.Tabbed P H1 H2 → H2 p = none → Q (.ref p) (upd H2 p (.tup ys))
theorem vals_of : ∀ (ys : List V) (us : List Value), us.length = ys.length → (∀ (j : Nat) (u : Value), us[j]? = some u → ∃ y, ys[j]? = some y ∧ RelV y u) → Vals ys us
  | [], [], _, _ => .nil
  | y :: ys, u :: us, hl, h => by
    obtain ⟨y1, e1, r1⟩ := h 0 u rfl
    cases e1
    exact .cons r1 (vals_of ys us (by simpa using hl) fun j v hj => h (j + 1) v hj)
theorem pe_tupG {X : Cx} {c P : Addr} {elt iter : Expr} {x : Str} {px p pos gpos : Pos} {scope : Scope} {ti : L2.St → Hp → (List V → Hp → Prop) → Prop} {te : L2.St → Hp → V → V → Prop} {k : Nat}
    (hr : Room k X.A) (hg : Gl X "tuple") (hm : X.mg "tuple" = none) (hb : bootBuiltins "tuple" = some (.type "tuple")) (TB : GxR.TabB X.base X.mg c P) (hcode : X.env.code = .ref c) (S : GxR.GenS X.env scope x)
    (hi : PSrc X P iter ti) (hel : PElt X P scope x elt te) (hs : ∀ v, genFold iter X.env v = pure v)
    (he : starEach [.GeneratorExp elt [⟨.Name x px, iter, [], 0⟩] scope gpos] X.env = (false, eval (.GeneratorExp elt [⟨.Name x px, iter, [], 0⟩] scope gpos) X.env) :: starEach [] X.env := by rfl) :
    PE X (.Call (.Name "tuple" p) [.GeneratorExp elt [⟨.Name x px, iter, [], 0⟩] scope gpos] [] pos) (tTupG P ti te) := by
  refine ⟨fun pins s σ H Q I h => ?_⟩
  refine wpAny_Call_Name_kw (ld_blt I hg hm hb ?_)
  refine PyProof.Rows.callWith_type1 ?_ he (by rfl)
  rw [he]
  show wpAny _ _ (spliced ((false, eval (.GeneratorExp elt [⟨.Name x px, iter, [], 0⟩] scope gpos) X.env) :: backTo pos (starEach [] X.env))) _ _ s
  have h2 : ti σ H fun xs H1 => GxR.TabG H1 P ∧ (xs.length ≤ sizeLine ∧ ∃ ys : List V, ys.length = xs.length ∧ (∀ (i : Nat) (x : V), xs[i]? = some x → ∃ y, ys[i]? = some y ∧ te σ H1 x y) ∧ ∀ H2 p, GxR.Tabbed P H1 H2 → H2 p = none → Q (.ref p) (upd H2 p (.tup ys))) := h
  refine Calls.spliced_cons (gen_one (pins := pins) (σ := σ) hr TB hcode S hs (wpAny_mono (hi.run pins s σ H _ I h2) (fun xv s1 z => ?_) fun _ _ e => e))
  obtain ⟨H1, xs, J, ⟨ps, hP, trip⟩, ⟨lx, ys, ly, hys, q⟩, src⟩ := z
  refine ⟨H1, ps, xs.length, _, fun i u => ∃ y, ys[i]? = some y ∧ RelV y u, J, hP, trip, src, ?_, fun g s5 at5 => ?_⟩
  · intro cenv B E2 i v s2 m2 h1 h3 h4 h5 h6 hv h7 h8 h9
    obtain ⟨w1, ew, rw1⟩ := hv
    obtain ⟨y, ey, ty⟩ := hys i w1 ew
    exact wpAny_mono (hel.run pins s1 σ H1 J ⟨ps, hP, trip⟩ cenv B E2 s2 m2 w1 y v ⟨h1, h3, h4, h5, h6, h7, h9⟩ rw1 ty h8) (fun z s3 r => ⟨⟨y, ey, r.1⟩, r.2⟩) fun _ _ e => e
  · refine Calls.spliced_nil ?_
    obtain ⟨fp, wr, G, F', Z, W5, im, z0, hfp, hgf, hT, hinv⟩ := at5
    refine PySem.call_tuple_gen (n := xs.length) W5.in4_3 hT z0 hfp hgf (fun s' acc mv it => ?_) lx
    obtain ⟨H2, tb, J2⟩ := hinv s' mv
    have vs : Vals ys acc.toList := vals_of ys acc.toList (by rw [Array.length_toList, it.1, ly]) fun j u hj => im j u (it.2 j u (by simpa using hj))
    refine ⟨.ref s'.heap.objs.size, _, J2.laid (t' := s'.toks) (o := .tup ys) (fun b ob e => Heap.get?_push_of_some _ e) (Nat.le_refl _) ⟨by omega, acc.toList, vs, ?_⟩, rfl, q H2 _ tb (J2.hok.fresh (Nat.le_refl _))⟩
    have ea : acc.toList.toArray = acc := by simp
    rw [ea]
    exact IsTup.new _ _
/-- range(e) -/
theorem src_range {X : Cx} {P : Addr} {a : Expr} {ta : TA} {p pos : Pos} (hg : Gl X "range") (hm : X.mg "range" = none) (ha : PA X [a] ta) (hs : starEach [a] X.env = [(false, eval a X.env)] := by rfl) :
    PSrc X P (.Call (.Name "range" p) [a] [] pos) (fun σ H R => ta σ H fun vs H1 => ∃ n : Nat, vs = [.int (n : Nat)] ∧ n ≤ sizeLine ∧ R ((List.range n).map fun i => V.int (i : Nat)) H1) := by
  refine ⟨fun pins s σ H R I h => ?_⟩
  refine Call_ (ld_blt I hg hm boot_range (PyProof.Rows.callWith_type1 (thn (ha.run pos pins s σ H _ I h) fun us s1 ⟨vs, H1, J, r1, q1⟩ => ?_) hs rfl))
  obtain ⟨n, rfl, hn, tg, q⟩ := q1
  cases r1 with
  | cons r rr =>
    cases rr
    obtain ⟨t, rfl⟩ := r
    have hsl : sizeLine = 16777216 := by decide
    refine call_range_1 ⟨H1, _, J.kept fun b o e => Heap.get?_push_of_some _ e, tg, q, ?_⟩
    refine ⟨_, [], fun i h => IsRangeIter h (s1.heap.push { cls := .type "range", data := .fields #[.int 0 s1.toks, .int (n : Nat) t, .int 1 (s1.toks + 1)] }).objs.size ((0 : Int) + (i : Nat) * 1) ((n : Int) - (i : Nat)) 1, fun Q hQ => wpAny_pyIter_range (IsRange.new ..) (small_one (by omega) (by omega) (by omega) (by omega)) hQ, fun b hb => (by cases hb), fun B hB => ?_, ?_⟩
    · rw [List.length_map, List.length_range]
      have W0 := Walks.range (prog := X.prog) (w := X.w) (A := B) hB (s1.heap.push { cls := .type "range", data := .fields #[.int 0 s1.toks, .int (n : Nat) t, .int 1 (s1.toks + 1)] }).objs.size 0 1 n
      exact W0.mono_item fun i v hi hv => by
        obtain ⟨t2, rfl⟩ := hv
        refine ⟨.int (i : Nat), ?_, t2, by rw [Int.zero_add, Int.mul_one]⟩
        rw [List.getElem?_map, List.getElem?_range hi]
        rfl
    · show IsRangeIter _ _ ((0 : Int) + ((0 : Nat) : Int) * 1) ((n : Int) - ((0 : Nat) : Int)) 1
      have e2 : (n : Int) - ((0 : Nat) : Int) = Builtin.Range.rangeSize 0 (n : Int) 1 := by
        rw [rangeSize_one]
        split <;> omega
      rw [e2]
      exact Heap.get?_push_size _ rfl
/-! elements -/
section
variable {X : Cx} {pins : List (Addr × Obj)} {σ : L2.St} {H : Hp} {s1 s2 : Shared} {P c : Addr} {scope : Scope} {cenv : Env} {B : Around} {m2 : Str → Option Value} {E2 : Value → Shared → Prop}
theorem ig_local {x : Str} {u : Value} {p : Pos} {W : Value → Shared → Prop} (g : InGen X P scope s1 cenv B s2 m2) (hk : scope.kind = .function) (hl : scope.names.lookup x = some .local) (hm : m2 x = some u) {s3 : Shared} (k3 : Keeps s2 s3) (h : W u s3)
    (hd : (x == ("__debug__" : Str)) = false := by decide) : wpAny (model X.prog X.w) B (eval (.Name x p) cenv) W E2 s3 := by
  obtain ⟨h3, tk, rfl, kp⟩ := k3
  exact wpAny_Name (wpAny_loadName_local (by rw [g.sc]; exact hk) (show cenv.scope.names.lookup x = some .local by rw [g.sc]; exact hl) (g.ns.keeps kp) hm h) hd
theorem ig_free {x : Str} {i : Nat} {v : V} {p : Pos} {W : Value → Shared → Prop} (I : Inv X pins σ H s1) (tg : GxR.TabG H P) (g : InGen X P scope s1 cenv B s2 m2) (hk : scope.kind = .function) (hl : scope.names.lookup x = some .free)
    (hN : X.N[i]? = some x) (hσ : σ[i]? = some (some v)) (hX : X.env.scope.names.lookup x = some .cell) (hcl : ∀ cells : List (Str × Addr), (cloFrom cells scope.names []).lookup x = some ((cells.lookup x).getD 0)) {s3 : Shared} (k3 : Keeps s2 s3)
    (h : ∀ u, RelV v u → W u s3) (hn : (x == ("__classdict__" : Str)) = false := by decide) (hd : (x == ("__debug__" : Str)) = false := by decide) : wpAny (model X.prog X.w) B (eval (.Name x p) cenv) W E2 s3 := by
  obtain ⟨h3, tk, rfl, kp⟩ := k3
  obtain ⟨m, _, hloc⟩ := I.loc
  obtain ⟨u, ru, lk⟩ := hloc i x v hN hσ (.inr (.inl hX))
  rcases lk with ⟨h1, _⟩ | ⟨_, cc, h2, ic⟩
  · have h1 : X.env.scope.names.lookup x = some .local := h1
    rw [hX] at h1
    cases h1
  · obtain ⟨ps, hP, _⟩ := tg
    have ncP : cc ≠ P := fun z => by
      have q := I.freeC x cc h2
      rw [z, hP] at q
      cases q
    obtain ⟨o, ho, hd2⟩ := ic
    have lk2 : cenv.cells.lookup x = some cc := by
      rw [g.cells, hcl, h2]
      rfl
    exact wpAny_Name (wpAny_loadName_free (by rw [g.sc]; exact hk) (show cenv.scope.names.lookup x = some .free by rw [g.sc]; exact hl) lk2 ⟨o, kp _ _ (g.keep _ _ ncP ho), hd2⟩ (h u ru) hn) hd
theorem ig_blt {x : Str} {u : Value} {p : Pos} {W : Value → Shared → Prop} (I : Inv X pins σ H s1) (tg : GxR.TabG H P) (TB : GxR.TabB X.base X.mg c P) (g : InGen X P scope s1 cenv B s2 m2) (hk : scope.kind = .function) (hl : scope.names.lookup x = some .globalImplicit)
    (hm : X.mg x = none) (hv : bootBuiltins x = some u) {s3 : Shared} (k3 : Keeps s2 s3) (h : W u s3) (hn : x ≠ "__name__" := by decide) (hd : (x == ("__debug__" : Str)) = false := by decide) : wpAny (model X.prog X.w) B (eval (.Name x p) cenv) W E2 s3 := by
  obtain ⟨h3, tk, rfl, kp⟩ := k3
  obtain ⟨mb, h1, h2⟩ := I.mod.blt
  obtain ⟨ps, hP, _⟩ := tg
  have hPs : s1.heap.get? P = some { cls := .none, data := .fields ps } := I.hok P _ hP
  have n1 : s1.heap.Ns mainGlobals X.mg := I.mod.glob.keeps I.bk
  have n2 : s1.heap.Ns builtinsNs mb := h1.keeps I.bk
  have up : ∀ {a : Addr} {m : Str → Option Value}, s1.heap.Ns a m → h3.Ns a m := fun {a m} ⟨o, es, ep, ho, hd1, r⟩ => by
    have na : a ≠ P := fun z => by
      rw [z, hPs] at ho
      cases ho
      cases hd1
    exact ⟨o, es, ep, kp _ _ (g.keep _ _ na ho), hd1, r⟩
  exact Calls.Name_function_global (by rw [g.sc]; exact hk) (show cenv.scope.names.lookup x = some .globalImplicit by rw [g.sc]; exact hl) (Calls.loadGlobal_builtin (by rw [g.glob, I.ok.glob]; exact up n1) hm (by rw [g.blt]; exact up n2) ((h2 x hn).trans hv) h) hd
theorem kp_tok {s3 : Shared} (k : Keeps s2 s3) (n : Nat) : Keeps s2 { s3 with toks := n } := by
  obtain ⟨h', tk, rfl, kp⟩ := k
  exact ⟨h', n, rfl, kp⟩
/-- a tracked tuple, read in the generator's frame -/
theorem ig_tup {a : Addr} {xs : List V} (I : Inv X pins σ H s1) (tg : GxR.TabG H P) (g : InGen X P scope s1 cenv B s2 m2) (ha : H a = some (.tup xs)) {s3 : Shared} (k3 : Keeps s2 s3) : ∃ its : List Value, Vals xs its ∧ IsTup s3.heap a its.toArray ∧ xs.length ≤ sizeLine := by
  obtain ⟨h3, tk, rfl, kp⟩ := k3
  obtain ⟨ps, hP, _⟩ := tg
  obtain ⟨hz, its, r, ⟨o, ho, rest⟩⟩ := I.hok a _ ha
  have naP : a ≠ P := ne_of ha hP (fun z => by cases z)
  exact ⟨its, r, ⟨o, kp _ _ (g.keep _ _ naP ho), rest⟩, hz⟩
end
/-- row[(at - by) % len(row)] -/
theorem elt_late {X : Cx} {P c : Addr} {scope : Scope} {i j : Nat} {xr xa xb : Str} {p1 p2 p3 p4 p5 p6 p7 p8 p9 : Pos} (TB : GxR.TabB X.base X.mg c P) (hk : scope.kind = .function) (l1 : scope.names.lookup xa = some .local) (l2 : scope.names.lookup xr = some .free) (l3 : scope.names.lookup xb = some .free)
    (l4 : scope.names.lookup ("len" : Str) = some .globalImplicit) (hm : X.mg "len" = none) (hNi : X.N[i]? = some xr) (hNj : X.N[j]? = some xb) (hXi : X.env.scope.names.lookup xr = some .cell) (hXj : X.env.scope.names.lookup xb = some .cell)
    (c1 : ∀ cells : List (Str × Addr), (cloFrom cells scope.names []).lookup xr = some ((cells.lookup xr).getD 0)) (c2 : ∀ cells : List (Str × Addr), (cloFrom cells scope.names []).lookup xb = some ((cells.lookup xb).getD 0))
    (n1 : (xr == ("__classdict__" : Str)) = false := by decide) (n2 : (xr == ("__debug__" : Str)) = false := by decide) (n3 : (xb == ("__classdict__" : Str)) = false := by decide) (n4 : (xb == ("__debug__" : Str)) = false := by decide) (n5 : (xa == ("__debug__" : Str)) = false := by decide) :
    PElt X P scope xa (.Subscript (.Name xr p1) (.BinOp (.BinOp (.Name xa p2) .Sub (.Name xb p3) p4) .Mod (.Call (.Name "len" p5) [.Name xr p6] [] p7) p8) p9)
      (fun σ H v y => ∃ (a : Addr) (xs : List V) (by_ : Int) (t : Nat), σ[i]? = some (some (.ref a)) ∧ H a = some (.tup xs) ∧ σ[j]? = some (some (.int by_)) ∧ v = .int (t : Nat) ∧ 0 < xs.length ∧ xs[(((t : Int) - by_) % (xs.length : Int)).toNat]? = some y) := by
  refine ⟨fun pins s1 σ H I tg cenv B E2 s2 m2 v y u g rv te hm2 => ?_⟩
  obtain ⟨a, xs, by_, t, h1, h2, h3, rfl, h4, h5⟩ := te
  obtain ⟨tk, rfl⟩ := (show ∃ tk, u = Value.int (t : Nat) tk from rv)
  refine Subscript_ (ig_free I tg g hk l2 hNi h1 hXi c1 (GxR.keeps_refl s2) (fun u1 r1 => ?_) n1 n2)
  obtain rfl : u1 = Value.ref a := r1
  refine wpAny_BinOp (wpAny_BinOp (ig_local g hk l1 hm2 (GxR.keeps_refl s2) ?_ n5))
  refine ig_free I tg g hk l3 hNj h3 hXj c2 (GxR.keeps_refl s2) (fun u2 r2 => ?_) n3 n4
  obtain ⟨tb, rfl⟩ := (show ∃ tb, u2 = Value.int by_ tb from r2)
  refine sub_int ?_
  refine wpAny_Call_Name_kw (ig_blt I tg TB g hk l4 hm PySem.boot_len (GxR.keeps_tok s2 _) ?_)
  refine PyProof.Rows.callWith_builtin1 ?_ rfl rfl
  refine Calls.spliced_cons (ig_free I tg g hk l2 hNi h1 hXi c1 (GxR.keeps_tok s2 _) (fun u3 r3 => ?_) n1 n2)
  obtain rfl : u3 = Value.ref a := r3
  refine Calls.spliced_nil ?_
  obtain ⟨its, rvs, it, hz⟩ := ig_tup I tg g h2 (GxR.keeps_tok s2 (s2.toks + 1))
  have hlen := rvs.length
  have hsl : sizeLine = 16777216 := by decide
  have hj : (((t : Int) - by_) % (xs.length : Int)).toNat < xs.length := (List.getElem?_eq_some_iff.mp h5).1
  refine len_tuple it (by simp only [List.size_toArray] <;> omega) ?_
  refine mod_int' (by rw [List.size_toArray, ← hlen]; omega) ?_
  rw [List.size_toArray, ← hlen, Int.fmod_eq_emod_of_nonneg _ (by omega)]
  have m0 := Int.emod_nonneg ((t : Int) - by_) (show (xs.length : Int) ≠ 0 by omega)
  obtain ⟨w1, ew, rw1⟩ := rvs.get h5
  have fin := GxR.keeps_tok s2 (s2.toks + 1 + 1 + 1 + 1)
  refine subscriptTail_builtinR (x := w1) it.typeIs slot_tuple_getitem.lookup (getItem_tuple (j := (((t : Int) - by_) % (xs.length : Int)).toNat) it (by omega) (by omega) ?_ (by simpa using ew) ⟨rfl, rw1, fin⟩)
  rw [List.size_toArray, ← hlen]


  exact seqIndex_of m0 (Int.emod_lt_of_pos _ (by omega))
/-! heaps with tables -/
theorem trip0 : TriplesOk (#[] : Array Value).toList := trivial
structure Sam (H H' : Hp) : Prop where
  obj : ∀ b o, (∀ ps, o ≠ .tbl ps) → H b = some o → H' b = some o
  tab : ∀ b ps, H b = some (.tbl ps) → ∃ ps', H' b = some (.tbl ps') ∧ (TriplesOk ps.toList → TriplesOk ps'.toList)
theorem Sam.of {H H' : Hp} (s : Same H H') : Sam H H' := ⟨fun b o _ e => s b o e, fun b ps e => ⟨ps, s b _ e, fun z => z⟩⟩
theorem Sam.refl (H : Hp) : Sam H H := .of (Same.refl H)
theorem Sam.trans {H H1 H2 : Hp} (a : Sam H H1) (b : Sam H1 H2) : Sam H H2 := ⟨fun c o n e => b.obj c o n (a.obj c o n e), fun c ps e => by
  obtain ⟨p1, e1, t1⟩ := a.tab c ps e
  obtain ⟨p2, e2, t2⟩ := b.tab c p1 e1
  exact ⟨p2, e2, fun z => t2 (t1 z)⟩⟩
theorem Sam.tabG {H H' : Hp} {P : Addr} (a : Sam H H') (t : GxR.TabG H P) : GxR.TabG H' P := by
  obtain ⟨ps, e, z⟩ := t
  obtain ⟨p1, e1, t1⟩ := a.tab P ps e
  exact ⟨p1, e1, t1 z⟩
theorem Sam.tup {H H' : Hp} {a : Addr} {xs : List V} (s : Sam H H') (h : H a = some (.tup xs)) : H' a = some (.tup xs) := s.obj _ _ (fun _ z => by cases z) h
theorem Sam.lst {H H' : Hp} {a : Addr} {xs : List V} (s : Sam H H') (h : H a = some (.lst xs)) : H' a = some (.lst xs) := s.obj _ _ (fun _ z => by cases z) h
theorem Sam.free {H H' : Hp} (s : Sam H H') {l : Addr} (h : H' l = none) : H l = none := by
  cases q : H l with
  | none => rfl
  | some o =>
    cases o with
    | tbl ps =>
      obtain ⟨p1, e1, _⟩ := s.tab l ps q
      rw [e1] at h
      cases h
    | _ =>
      rw [s.obj l _ (fun _ z => by cases z) q] at h
      cases h
theorem Sam.tabbed {P : Addr} {H H' : Hp} (g : GxR.TabG H P) (t : GxR.Tabbed P H H') : Sam H H' := by
  obtain ⟨⟨p1, e1, z1⟩, k⟩ := t
  obtain ⟨p0, e0, _⟩ := g
  refine ⟨fun b o n e => ?_, fun b ps e => ?_⟩
  · by_cases hb : b = P
    · rw [hb, e0] at e
      exact absurd (Option.some.inj e).symm (n p0)
    · rw [k b hb]
      exact e
  · by_cases hb : b = P
    · rw [hb]
      exact ⟨p1, e1, fun _ => z1⟩
    · exact ⟨ps, by rw [k b hb]; exact e, fun z => z⟩
theorem sam_newer {H H' : Hp} {q : Addr} {o : HO} (a : Sam H H') (n : H q = none) : Sam H (upd H' q o) := ⟨fun c x hx e => by
    rw [upd_ne (ne_of_none e n)]
    exact a.obj c x hx e, fun c ps e => by
    obtain ⟨p1, e1, t1⟩ := a.tab c ps e
    exact ⟨p1, by rw [upd_ne (ne_of_none e n)]; exact e1, t1⟩⟩
/-- all but the box stays, tables grow -/
structure Bus (p : Addr) (H H' : Hp) : Prop where
  obj : ∀ b o, b ≠ p → (∀ ps, o ≠ .tbl ps) → H b = some o → H' b = some o
  tab : ∀ b ps, b ≠ p → H b = some (.tbl ps) → ∃ ps', H' b = some (.tbl ps') ∧ (TriplesOk ps.toList → TriplesOk ps'.toList)
theorem Bus.of {p : Addr} {H H' : Hp} (s : But p H H') : Bus p H H' := ⟨fun b o n _ e => s b o n e, fun b ps n e => ⟨ps, s b _ n e, fun z => z⟩⟩
theorem Bus.sam {p : Addr} {H H' : Hp} (s : Sam H H') : Bus p H H' := ⟨fun b o _ n e => s.obj b o n e, fun b ps _ e => s.tab b ps e⟩
theorem Bus.refl (p : Addr) (H : Hp) : Bus p H H := .of (But.refl p H)
theorem Bus.trans {p : Addr} {H H1 H2 : Hp} (a : Bus p H H1) (b : Bus p H1 H2) : Bus p H H2 := ⟨fun c o h n e => b.obj c o h n (a.obj c o h n e), fun c ps h e => by
  obtain ⟨p1, e1, t1⟩ := a.tab c ps h e
  obtain ⟨p2, e2, t2⟩ := b.tab c p1 h e1
  exact ⟨p2, e2, fun z => t2 (t1 z)⟩⟩
theorem Bus.tup {p : Addr} {H H' : Hp} {n : Nat} {a : Addr} {xs : List V} (s : Bus p H H') (B : Bx H p n) (h : H a = some (.tup xs)) : H' a = some (.tup xs) := s.obj _ _ (B.ne_tup h) (fun _ z => by cases z) h
theorem Bus.lst {p : Addr} {H H' : Hp} {a : Addr} {xs : List V} (s : Bus p H H') (ne : a ≠ p) (h : H a = some (.lst xs)) : H' a = some (.lst xs) := s.obj _ _ ne (fun _ z => by cases z) h
theorem Bus.tabG {p : Addr} {H H' : Hp} {n : Nat} {P : Addr} (s : Bus p H H') (B : Bx H p n) (t : GxR.TabG H P) : GxR.TabG H' P := by
  obtain ⟨ps, e, z⟩ := t
  obtain ⟨a, b, c, hp, _⟩ := B
  obtain ⟨p1, e1, t1⟩ := s.tab P ps (ne_of e hp (fun z => by cases z)) e
  exact ⟨p1, e1, t1 z⟩
theorem Bus.new {p q : Addr} {H H' : Hp} {o : HO} (a : Bus p H H') (n : H' q = none) : Bus p H (upd H' q o) := a.trans (.of ((But.refl p H').new n))
/-- a thing made since H may change -/
theorem bus_newer {p q : Addr} {H H' : Hp} {o : HO} (a : Bus p H H') (n : H q = none) : Bus p H (upd H' q o) := ⟨fun c x h hx e => by
    rw [upd_ne (ne_of_none e n)]
    exact a.obj c x h hx e, fun c ps h e => by
    obtain ⟨p1, e1, t1⟩ := a.tab c ps h e
    exact ⟨p1, by rw [upd_ne (ne_of_none e n)]; exact e1, t1⟩⟩
theorem Bus.free {p : Addr} {H H' : Hp} {n : Nat} (s : Bus p H H') (B : Bx H p n) (B' : ∃ m, Bx H' p m) {l : Addr} (h : H' l = none) : H l = none := by
  cases q : H l with
  | none => rfl
  | some o =>
    have nl : l ≠ p := fun z => by
      obtain ⟨m, _, _, _, hp, _⟩ := B'
      rw [z, hp] at h
      cases h
    cases o with
    | tbl ps =>
      obtain ⟨p1, e1, _⟩ := s.tab l ps nl q
      rw [e1] at h
      cases h
    | _ =>
      rw [s.obj l _ nl (fun _ z => by cases z) q] at h
      cases h
theorem Bx.sam {H H' : Hp} {p : Addr} {n : Nat} (h : Bx H p n) (s : Sam H H') : Bx H' p n := by
  obtain ⟨a, b, c, hp, r⟩ := h
  exact ⟨a, b, c, s.lst hp, r⟩
theorem bus_same {p : Addr} {H H1 H2 : Hp} (n : H p = none) (a : Sam H H1) (b : Bus p H1 H2) : Sam H H2 := ⟨fun c x h e => b.obj c x (ne_of_none e n) h (a.obj c x h e), fun c ps e => by
  obtain ⟨p1, e1, t1⟩ := a.tab c ps e
  obtain ⟨p2, e2, t2⟩ := b.tab c p1 (ne_of_none e n) e1
  exact ⟨p2, e2, fun z => t2 (t1 z)⟩⟩
theorem ne_new {H : Hp} {p q : Addr} {n : Nat} (B : Bx H p n) (nq : H q = none) : q ≠ p := fun e => by
  obtain ⟨_, _, _, hp, _⟩ := B
  rw [e, hp] at nq
  cases nq
/-! a tuple so many times -/
theorem tuple_once (l : Addr) (items : Array Value) (n : Nat) (dd : Option Addr) (sl : Array (Option Value)) (u : Tok) :
    Meets (Builtin.«tuple.__mul__» ⟨[.ref l, .int 1 u], []⟩) (fun _ R s => s.heap.get? l = some { cls := .type "tuple", dict := dd, data := .seq items n, slots := sl } ∧ R (.ok (.ret (Value.ref l))) { s with toks := s.toks }) :=
  .of_wp fun prog w A R s h => by
    obtain ⟨hp, g, d, tk, os⟩ := s
    obtain ⟨hl, h⟩ := h
    have f1 := AutoSeq1.idx_int
    have c1 : (items.isEmpty || (1 : Int) == 1) = true := by simp
    wp_walk using wpAny_loadPart' hl
    repeat (first
      | (refine wpAny_ite_true (decide_eq_true c1) ?_; wp_walk using wpAny_loadPart' hl)
      | (refine wpAny_ite_false (decide_eq_false (by decide)) ?_; wp_walk using wpAny_loadPart' hl))
    exact ⟨_, rfl, h⟩
def rRepA (K : PySem.W.Frag) : R2 := fun x y H Q => ∃ (l : Addr) (k : Nat) (xs : List V), x = .ref l ∧ y = .int (k : Nat) ∧ SqT K H l xs ∧ xs ≠ [] ∧ 1 ≤ k ∧ xs.length * k ≤ 1000000 ∧ (k = 1 → Q (.ref l) H) ∧
  (2 ≤ k → ∀ p, H p = none → Q (.ref p) (upd H p (.tup (List.replicate k xs).flatten)))
theorem op_repA {X : Cx} : OpR X (binaryOp .Mult) (rRepA X.K) := by
  intro pins s σ H x y v u Q I rx ry h
  obtain ⟨l, k, xs, rfl, rfl, hT, hne, h1, hz, q1, q2⟩ := h
  cases rx
  obtain ⟨t, rfl⟩ := ry
  obtain ⟨its, r, ⟨⟨cls, dd, data, sl⟩, ho, hc, n, hd⟩, hs⟩ := I.tuple hT
  simp only at hc hd
  subst hc hd
  have lx : 0 < xs.length := List.length_pos_iff.mpr hne
  have le : its.length = xs.length := r.length.symm
  have ke : k * xs.length ≤ 1000000 := by
    rw [Nat.mul_comm]
    exact hz
  have kl : k ≤ 1000000 := Nat.le_trans (Nat.le_mul_of_pos_right k lx) ke
  have ne : its.toArray.isEmpty = false := by
    cases its with
    | nil =>
      rw [← le] at lx
      cases lx
    | cons a b => rfl
  by_cases k1 : k = 1
  · subst k1
    refine wpAny_binaryOp_repeat_ref (T := "tuple") (U := "int") (by decide) ⟨_, ho, rfl⟩ (fun s' => typeIs_int s' _ t) noFill_tuple_mul F.fills_int_mul F.slot_int_rmul repeat_tuple F.slot_int_index.lookup
      (call_meets F.slot_int_rmul (typeIs_int s _ t) F.entry_int_rmul (F.args_int_rmul_2 _ _) (int_rmul_tuple _ t l its.toArray n dd sl)
        ⟨ho, rfl, ⟨_, ho, rfl⟩, call_meets F.slot_tuple_mul ⟨_, ho, rfl⟩ F.entry_tuple_mul (F.args_tuple_mul_2 _ _) (tuple_once l its.toArray n dd sl t) ⟨ho, ?_⟩⟩)
    exact ⟨.ref l, H, I, rfl, q1 rfl⟩
  · have k2 : 2 ≤ k := by omega
    have sz : its.toArray.size = xs.length := by rw [List.size_toArray, le]
    have pr : ((its.toArray.size : Nat) : Int) * (k : Int) ≤ 1000000 := by
      rw [sz, ← Int.natCast_mul]
      omega
    have fl : (List.replicate k its).flatten.length ≤ sizeLine := by
      rw [PyProof.Rows.lm_len_rep_flat, le, sizeLine_eq]
      omega
    have d0 : (decide ((k : Int) < -(2 ^ 63)) || decide ((k : Int) ≥ 2 ^ 63)) = false := by
      rw [decide_eq_false (show ¬ (k : Int) < -(2 ^ 63) by omega), decide_eq_false (show ¬ (k : Int) ≥ 2 ^ 63 by omega)] <;> rfl
    have d1 : (its.toArray.isEmpty || (k : Int) == 1) = false := by
      rw [ne, Bool.false_or]
      exact beq_eq_false_iff_ne.mpr (by omega)
    have d2 : (decide ((k : Int) ≤ 0) || its.toArray.isEmpty) = false := by
      rw [ne, Bool.or_false]
      exact decide_eq_false (by omega)
    have d4 : Builtin.Tuple.tupleTooMany (((its.toArray.size : Nat) : Int) * (k : Int)) = false := by
      unfold Builtin.Tuple.tupleTooMany
      rw [sizeLine_eq]
      exact decide_eq_false (by omega)
    refine wpAny_binaryOp_repeat_ref (T := "tuple") (U := "int") (by decide) ⟨_, ho, rfl⟩ (fun s' => typeIs_int s' _ t) noFill_tuple_mul F.fills_int_mul F.slot_int_rmul repeat_tuple F.slot_int_index.lookup
      (call_meets F.slot_int_rmul (typeIs_int s _ t) F.entry_int_rmul (F.args_int_rmul_2 _ _) (int_rmul_tuple _ t l its.toArray n dd sl)
        ⟨ho, rfl, ⟨_, ho, rfl⟩, call_meets F.slot_tuple_mul ⟨_, ho, rfl⟩ F.entry_tuple_mul (F.args_tuple_mul_2 _ _) (tuple_mulW l its.toArray n dd sl (k : Int) t d0 d1 d2 (by omega) d4 (by rw [Int.toNat_natCast, size_rep, List.size_toArray]; exact fl)) ⟨ho, ?_⟩⟩)
    rw [Int.toNat_natCast, size_rep]
    refine ⟨.ref s.heap.objs.size, _, I.laid (t' := s.toks) (o := .tup (List.replicate k xs).flatten) (fun b ob q => Heap.get?_push_of_some _ q) (Nat.le_refl _) ⟨?_, _, r.rep k, IsTup.new _ _⟩, rfl, q2 k2 _ (I.hok.fresh (Nat.le_refl _))⟩
    rw [PyProof.Rows.lm_len_rep_flat, sizeLine_eq]
    omega
/-! the program's rows -/
theorem gs_free {cells : List (Str × Addr)} {names : List (Str × NameKind)} (h : (names.all fun y => y.2 != .free || (cells.lookup y.1).isSome) = true) : ∀ y ∈ names, y.2 = .free → ∃ c, cells.lookup y.1 = some c := fun y hy e => by
  have q := List.all_eq_true.mp h y hy
  rw [e] at q
  exact Option.isSome_iff_exists.mp (by simpa using q)
def late (rs : List Int) (by_ : Int) : List Int := (List.range rs.length).map fun (t : Nat) => rs.getD (((t : Int) - by_) % (rs.length : Int)).toNat 0
theorem late_len (rs : List Int) (b : Int) : (late rs b).length = rs.length := by
  unfold late
  rw [List.length_map, List.length_range]
theorem late_get {rs : List Int} {b : Int} {t : Nat} (h : t < rs.length) : (late rs b)[t]? = rs[(((t : Int) - b) % (rs.length : Int)).toNat]? := by
  unfold late
  have h0 : (0 : Int) < (rs.length : Int) := by omega
  have h1 := Int.emod_lt_of_pos ((t : Int) - b) h0
  have h2 := Int.emod_nonneg ((t : Int) - b) (show (rs.length : Int) ≠ 0 by omega)
  rw [List.getElem?_map, List.getElem?_range h]
  show some (rs.getD _ 0) = _
  rw [List.getD_eq_getElem?_getD, List.getElem?_eq_getElem (by omega)]
  rfl
def sp_round_late {K : PySem.W.Frag} {mg : Str → Option Value} (T : Defs K mg) : Sp := fun vs H Q _ => ∃ (a : Addr) (rs : List Int) (b : Int), vs = [.ref a, .int b] ∧ H a = some (.tup (rs.map V.int)) ∧ 0 < rs.length ∧ rs.length ≤ 100000 ∧ GxR.TabG H T.P_round_late ∧
  ∀ H' p, Sam H H' → H p = none → H' p = some (.tup ((late rs b).map V.int)) → Q (.ref p) H'
theorem ok_round_late (T : Defs K mg) (TT : Tabs T base) : FnOk P w K mg base CX0 1 T.f_round_late T.fd_round_late ["row", "by"] (sp_round_late T) := by
  refine okC T.F_round_late T.k_round_late sc_round_late (fun vs H Q E h => ?_) (fun A outer s H vs Q E hr h => ?_)
  · obtain ⟨a, rs, b, rfl, ha, h0, hl, tg, q⟩ := h
    rfl
  · obtain ⟨a, rs, b, rfl, ha, h0, hl, tg, q⟩ := h
    refine ⟨_, PSs.nox (pss_one (ps_ret (pe_tupG hr (by rfl) T.m_tuple bt_tuple TT.t_round_late rfl ⟨rfl, rfl, by decide +kernel, rfl, rfl, gs_free rfl⟩ (src_range (by rfl) T.m_range (pa_cons (pe_callB call_len_seq (by rfl) T.m_len bt_len (pa_cons (pv 0) pa_nil)) pa_nil)) (elt_late (i := 0) (j := 1) TT.t_round_late rfl rfl rfl rfl rfl T.m_len rfl rfl rfl rfl (fun _ => rfl) (fun _ => rfl)) (fun _ => rfl)))), ?_⟩
    have hsl : sizeLine = 16777216 := by decide
    refine ⟨.ref a, rfl, a, _, rfl, .inr (SqT.mk ha), rs.length, by rw [List.length_map], by omega, tg, by rw [List.length_map, List.length_range]; omega, (late rs b).map V.int, ?_, ?_, ?_⟩
    · rw [List.length_map, late_len, List.length_map, List.length_range]
    · intro i x hx
      rw [List.getElem?_map] at hx
      have hi : i < rs.length := by
        by_cases z : i < rs.length
        · exact z
        · rw [List.getElem?_eq_none (by rw [List.length_range]; omega)] at hx
          cases hx
      rw [List.getElem?_range hi] at hx
      cases hx
      have h3 : (0 : Int) < (rs.length : Int) := by omega
      have h1 := Int.emod_lt_of_pos ((i : Int) - b) h3
      have h2 := Int.emod_nonneg ((i : Int) - b) (show (rs.length : Int) ≠ 0 by omega)
      have hj : (((i : Int) - b) % (rs.length : Int)).toNat < rs.length := by omega
      refine ⟨.int rs[(((i : Int) - b) % (rs.length : Int)).toNat], ?_, a, rs.map V.int, b, i, rfl, ha, rfl, rfl, by rw [List.length_map]; exact h0, ?_⟩
      · rw [List.getElem?_map, late_get hi, List.getElem?_eq_getElem hj]
        rfl
      · rw [List.length_map, List.getElem?_map, List.getElem?_eq_getElem hj]
        rfl
    · intro H2 p tb np
      have s2 := Sam.tabbed tg tb
      exact q _ p (sam_newer s2 (s2.free np)) (s2.free np) upd_same
def sp_behind (_ : PySem.W.Frag) : Sp := fun vs H Q _ => ∃ (a c : Addr) (rs ah : List Int), vs = [.ref a, .ref c] ∧ H a = some (.tup (rs.map V.int)) ∧ H c = some (.tup (ah.map V.int)) ∧ rs.length ≤ 100000 ∧ ah.length ≤ 1000 ∧
  ∀ H' p, Same H H' → H' p = some (.tup (((ah ++ rs).take rs.length).map V.int)) → Q (.ref p) H'
theorem cut_to (xs : List Int) (m : Nat) (h : m ≤ xs.length) : cutV (xs.map V.int) none (some (m : Int)) = (xs.take m).map V.int := cut_take xs m
theorem ok_behind (T : Defs K mg) (TT : Tabs T base) : FnOk P w K mg base CX0 1 T.f_behind T.fd_behind ["row", "ahead"] (sp_behind K) := by
  refine T.F_behind.ok sc_behind (fun vs H Q E h => ?_) (fun cdv A outer s H vs Q E hr h => ?_)
  · obtain ⟨a, c, rs, ah, rfl, ha, hc, hl, hl2, q⟩ := h
    rfl
  · obtain ⟨a, c, rs, ah, rfl, ha, hc, hl, hl2, q⟩ := h
    refine ⟨_, PSs.nox (pss_one (ps_ret (pe_slice sl_tupA (pe_op op_catA (pv 1) (pv 0)) po_none (po_some (pe_callB call_len_seq (by rfl) T.m_len bt_len (pa_cons (pv 0) pa_nil)))))), ?_⟩
    have hsl : sizeLine = 16777216 := by decide
    have key : ∀ (H1 : Hp) (d : Addr), Same H H1 → H1 d = some (.tup ((ah ++ rs).map V.int)) → tSl (rSlA K) (fun _ H2 Q2 => H1 = H2 ∧ Q2 (.ref d) H1) tNoPart (tPart (tCB (fun xs H Q => ∃ p ys, xs = [.ref p] ∧ (SqL K H p ys ∨ SqT K H p ys) ∧ Q (.int ys.length) H) (tCons (tVar 0) tNil))) [some (.ref a), some (.ref c)] H1 (fun v H' => Q v H') := by
      intro H1 d s1 hd
      refine ⟨rfl, .ref a, rfl, a, _, rfl, .inr (SqT.mk (s1 _ _ ha)), _, rfl, d, _, rfl, SqT.mk hd, fun w1 => ?_, fun w1 p np => ?_⟩
      · refine q H1 d s1 ?_
        have w2 := w1.2
        rw [List.length_map, List.length_map, HT.sIx_nat, List.length_append] at w2
        rw [List.take_of_length_le (by rw [List.length_append]; omega)]
        exact hd
      · rw [List.length_map, cut_take]
        exact q _ p (s1.trans (same_upd np)) upd_same
    refine ⟨.ref c, rfl, .ref a, rfl, c, a, _, _, rfl, rfl, SqT.mk hc, SqT.mk ha, by rw [List.length_map, List.length_map]; omega, fun z => ?_, fun z1 z2 => ?_, fun z1 z2 d nd => ?_⟩
    · have ea : ah = [] := List.map_eq_nil_iff.mp z
      subst ea
      exact (key H a (Same.refl H) ha).2
    · have er : rs = [] := List.map_eq_nil_iff.mp z2
      subst er
      exact (key H c (Same.refl H) (by rw [List.append_nil]; exact hc)).2
    · rw [← List.map_append]
      exact (key _ d (same_upd nd) upd_same).2
def sp_again (_ : PySem.W.Frag) : Sp := fun vs H Q _ => ∃ (a : Addr) (rs : List Int) (k : Nat), vs = [.ref a, .int (k : Nat)] ∧ H a = some (.tup (rs.map V.int)) ∧ 0 < rs.length ∧ 1 ≤ k ∧ rs.length * k ≤ 1000000 ∧
  ∀ H' p, Same H H' → H' p = some (.tup (((List.replicate k rs).flatten).map V.int)) → Q (.ref p) H'
theorem map_rep (k : Nat) (rs : List Int) : (List.replicate k (rs.map V.int)).flatten = ((List.replicate k rs).flatten).map V.int := by
  rw [List.map_flatten, List.map_replicate]
theorem ok_again (T : Defs K mg) (TT : Tabs T base) : FnOk P w K mg base CX0 1 T.f_again T.fd_again ["row", "many"] (sp_again K) := by
  refine T.F_again.ok sc_again (fun vs H Q E h => ?_) (fun cdv A outer s H vs Q E hr h => ?_)
  · obtain ⟨a, rs, k, rfl, ha, h0, hk, hl, q⟩ := h
    rfl
  · obtain ⟨a, rs, k, rfl, ha, h0, hk, hl, q⟩ := h
    refine ⟨_, PSs.nox (pss_one (ps_ret (pe_op op_repA (pv 0) (pv 1)))), ?_⟩
    refine ⟨.ref a, rfl, .int (k : Nat), rfl, a, k, _, rfl, rfl, SqT.mk ha, fun z => ?_, hk, by rw [List.length_map]; exact hl, fun z => ?_, fun z p np => ?_⟩
    · rw [List.map_eq_nil_iff.mp z] at h0
      cases h0
    · subst z
      exact q H a (Same.refl H) (by rw [show (List.replicate 1 rs).flatten = rs by simp]; exact ha)
    · rw [map_rep]
      exact q _ p (same_upd np) upd_same
/-! the law's own rows -/
def Bits (rs : List Int) : Prop := ∀ x, x ∈ rs → x = 0 ∨ x = 1
theorem Bits.snoc {rs : List Int} {x : Int} (h : Bits rs) (hx : x = 0 ∨ x = 1) : Bits (rs ++ [x]) := fun y hy => by
  rcases List.mem_append.mp hy with hy | hy
  · exact h y hy
  · rw [List.mem_singleton] at hy
    rw [hy]
    exact hx
theorem but_newer {p q : Addr} {H H' : Hp} {o : HO} (a : But p H H') (n : H q = none) : But p H (upd H' q o) := fun c x hn e => by
  rw [upd_ne (ne_of_none e n)]
  exact a c x hn e
theorem Bx.other {H : Hp} {p q : Addr} {n : Nat} {o : HO} (h : Bx H p n) (nq : q ≠ p) : Bx (L2.upd H q o) p n := by
  obtain ⟨a, b, c, hp, r⟩ := h
  exact ⟨a, b, c, by rw [upd_ne (Ne.symm nq)]; exact hp, r⟩
def PV (p D : Addr) (HX : Hp) (k i : Nat) (H1 : Hp) : Prop := ∃ rs : List Int, rs.length = i ∧ Bits rs ∧ But p HX H1 ∧ Bx H1 p (k + i) ∧ H1 D = some (.lst (rs.map V.int))
theorem pv_start {p D : Addr} {HX : Hp} {k : Nat} (nD : HX D = none) (B : Bx HX p k) : PV p D HX k 0 (upd HX D (.lst [])) := ⟨[], rfl, fun _ h => (by cases h), (But.refl p HX).new nD, B.new nD, upd_same⟩
theorem pv_step {p D : Addr} {HX H1 H4 : Hp} {k i : Nat} {x : Int} (nD : HX D = none) (Dp : D ≠ p) (h : PV p D HX k i H1) (b : But p H1 H4) (B : Bx H4 p (k + (i + 1))) (hi : i < 100000) (hx : x = 0 ∨ x = 1) :
    ∃ acc, H4 D = some (.lst acc) ∧ acc.length < sizeLine ∧ PV p D HX k (i + 1) (upd H4 D (.lst (acc ++ [.int x]))) := by
  obtain ⟨rs, hl, hb, b1, _, hD⟩ := h
  have hsl : sizeLine = 16777216 := by decide
  refine ⟨_, b _ _ Dp hD, by rw [List.length_map]; omega, rs ++ [x], by rw [List.length_append, hl]; rfl, hb.snoc hx, but_newer (b1.trans b) nD, B.other Dp, ?_⟩
  rw [upd_same, List.map_append]
  rfl
def sp__law_row (_ : PySem.W.Frag) : Sp := fun vs H Q _ => ∃ (p : Addr) (m n : Nat), vs = [.ref p, .int (m : Nat)] ∧ Bx H p n ∧ 1 ≤ m ∧ m ≤ 4096 ∧ n < 1000000000 ∧
  ∀ H' a (rs : List Int), But p H H' → Bx H' p (n + 5000) → H' a = some (.tup (rs.map V.int)) → rs.length = m → Bits rs → Q (.ref a) H'
theorem rep_one (m : Nat) (x : Int) : (List.replicate m [V.int x]).flatten = (List.replicate m x).map V.int := by
  rw [List.map_replicate]
  induction m with
  | zero => rfl
  | succ m ih => rw [List.replicate_succ, List.flatten_cons, ih, List.replicate_succ]; rfl
theorem ok__law_row (T : Defs K mg) (TT : Tabs T base) : FnOk P w K mg base CX0 2 T.f__law_row T.fd__law_row ["_law_box_here", "_law_long_here"] (sp__law_row K) := by
  have G__law_take : FnOk P w K mg base CX0 1 T.f__law_take T.fd__law_take ["_law_box_here", "_law_many"] (sp__law_take K) := ok__law_take T TT
  refine T.F__law_row.ok sc__law_row (fun vs H Q E h => ?_) (fun cdv A outer s H vs Q E hr h => ?_)
  · obtain ⟨p, m, n, rfl, hB, hm, hm2, hn, q⟩ := h
    rfl
  · obtain ⟨p, m, n, rfl, hB, hm, hm2, hn, q⟩ := h
    refine ⟨_, PSs.nox (pss_cons (ps_set (i := 2) sc__law_row.nd rfl (.inl rfl) (pe_call G__law_take (hr.mono (by decide)) (by rfl) T.g__law_take T.F__law_take.kp T.b__law_take .nil pass0 (pa_cons (pv 0) (pa_cons pe_int pa_nil))))
    (pss_cons (ps_if (pt_cmpR op_eq (pv 2) pe_int (nomark _)) (pss_one (ps_ret (pe_op op_repA (pe_tup (pa_cons (pe_call G__law_take (hr.mono (by decide)) (by rfl) T.g__law_take T.F__law_take.kp T.b__law_take .nil pass0 (pa_cons (pv 0) (pa_cons pe_int pa_nil))) pa_nil)) (pv 1)))) pss_nil)
    (pss_cons (ps_if (pt_cmpR op_eq (pv 2) pe_int (nomark _)) (pss_cons (ps_asg (pe_tup (pa_cons (pe_call G__law_take (hr.mono (by decide)) (by rfl) T.g__law_take T.F__law_take.kp T.b__law_take .nil pass0 (pa_cons (pv 0) (pa_cons (pv 1) pa_nil))) (pa_cons (pe_call G__law_take (hr.mono (by decide)) (by rfl) T.g__law_take T.F__law_take.kp T.b__law_take .nil pass0 (pa_cons (pv 0) (pa_cons pe_int pa_nil))) pa_nil))) (pg_tup rfl (pgs_cons (pg_name (i := 3) sc__law_row.nd rfl (.inr rfl)) (pgs_cons (pg_name (i := 4) sc__law_row.nd rfl (.inr rfl)) pgs_nil))))
    (pss_one (ps_ret (pe_callTy call_tuple_of (by rfl) T.m_tuple bt_tuple (pa_cons (pe_lc (own := [("_law_place", 7)]) (g := gName 7) (tt := tYes) rfl sc__law_row.nd (pi_range1 (by rfl) T.m_range (pa_cons (pv 1) pa_nil)) (blkOk_by (N := N__law_row) (sc := defScope s__law_row) (by decide +kernel)) (fun _ _ _ _ _ => (pg_name (i := 7) sc__law_row.nd rfl (.inl rfl))) (fun _ _ _ _ _ => pts_nil) (fun _ _ _ _ _ => (pe_ifExp (pt_cmpR op_eq (pv 7) (pv 3) (nomark _)) (pv 4) (pe_op op_sub pe_int (pv 4))))) pa_nil))))) pss_nil)
    (pss_cons (ps_if (pt_cmpR op_eq (pv 2) pe_int (nomark _)) (pss_cons (ps_asg (pe_tup (pa_cons (pe_op op_add pe_int (pe_call G__law_take (hr.mono (by decide)) (by rfl) T.g__law_take T.F__law_take.kp T.b__law_take .nil pass0 (pa_cons (pv 0) (pa_cons pe_int pa_nil)))) (pa_cons (pe_call G__law_take (hr.mono (by decide)) (by rfl) T.g__law_take T.F__law_take.kp T.b__law_take .nil pass0 (pa_cons (pv 0) (pa_cons pe_int pa_nil))) pa_nil))) (pg_tup rfl (pgs_cons (pg_name (i := 5) sc__law_row.nd rfl (.inr rfl)) (pgs_cons (pg_name (i := 6) sc__law_row.nd rfl (.inr rfl)) pgs_nil))))
    (pss_one (ps_ret (pe_callTy call_tuple_of (by rfl) T.m_tuple bt_tuple (pa_cons (pe_lc (own := [("_law_place", 7)]) (g := gName 7) (tt := tYes) rfl sc__law_row.nd (pi_range1 (by rfl) T.m_range (pa_cons (pv 1) pa_nil)) (blkOk_by (N := N__law_row) (sc := defScope s__law_row) (by decide +kernel)) (fun _ _ _ _ _ => (pg_name (i := 7) sc__law_row.nd rfl (.inl rfl))) (fun _ _ _ _ _ => pts_nil) (fun _ _ _ _ _ => (pe_callTy call_int1 (by rfl) T.m_int bt_int (pa_cons (pe_cmpR op_eq (pe_op op_mod (pe_op op_add (pv 7) (pv 6)) (pv 5)) pe_int (nomark _)) pa_nil)))) pa_nil))))) pss_nil)
    (pss_one (ps_ret (pe_callTy call_tuple_of (by rfl) T.m_tuple bt_tuple (pa_cons (pe_lc (own := [("_law_place", 7)]) (g := gName 7) (tt := tYes) rfl sc__law_row.nd (pi_range1 (by rfl) T.m_range (pa_cons (pv 1) pa_nil)) (blkOk_by (N := N__law_row) (sc := defScope s__law_row) (by decide +kernel)) (fun _ _ _ _ _ => (pg_name (i := 7) sc__law_row.nd rfl (.inl rfl))) (fun _ _ _ _ _ => pts_nil) (fun _ _ _ _ _ => (pe_call G__law_take (hr.mono (by decide)) (by rfl) T.g__law_take T.F__law_take.kp T.b__law_take .nil pass0 (pa_cons (pv 0) (pa_cons pe_int pa_nil))))) pa_nil)))))))), ?_⟩
    refine ⟨.ref p, rfl, p, 5, n, rfl, hB, by decide, by decide, by omega, fun H1 r1 b1 B1 l1 u1 => ?_⟩
    refine ⟨.int r1, rfl, rfl, _, rfl, ite2 (fun _ => ?_) (fun _ => ?_)⟩
    · refine ⟨.ref p, rfl, p, 2, n + 1, rfl, B1, by decide, by decide, by omega, fun H2 r2 b2 B2 l2 u2 => ?_⟩
      have hbit : r2 = 0 ∨ r2 = 1 := by omega
      refine ⟨(show 1 ≤ sizeLine by decide), fun t nt => ?_⟩
      refine ⟨.int (m : Nat), rfl, t, m, _, rfl, rfl, SqT.mk upd_same, by simp, hm, (show 1 * m ≤ 1000000 by omega), fun z => ?_, fun z a na => ?_⟩
      · exact q _ t [r2] ((b1.trans b2).new nt) ((B2.new nt).mono (by omega)) upd_same z.symm (fun x hx => by
          rw [List.mem_singleton] at hx
          rw [hx]
          exact hbit)
      · refine q _ a (List.replicate m r2) (((b1.trans b2).new nt).new na) (((B2.new nt).new na).mono (by omega)) ?_ List.length_replicate (fun x hx => ?_)
        · rw [upd_same, rep_one]
        · rw [List.eq_of_mem_replicate hx]
          exact hbit
    refine ⟨.int r1, rfl, rfl, _, rfl, ite2 (fun _ => ?_) (fun _ => ?_)⟩
    · refine ⟨.ref p, rfl, .int (m : Nat), rfl, p, m, n + 1, rfl, B1, by omega, by omega, by omega, fun H2 r2 b2 B2 l2 u2 => ?_⟩
      refine ⟨.ref p, rfl, p, 2, n + 2, rfl, B2, by decide, by decide, by omega, fun H3 r3 b3 B3 l3 u3 => ?_⟩
      refine ⟨(show 2 ≤ sizeLine by decide), fun t nt => ?_⟩
      refine ⟨t, _, rfl, SqT.mk upd_same, rfl, _, _, rfl, _, _, rfl, rfl, ?_⟩
      have B4 := B3.new (o := .tup [.int r2, .int r3]) nt
      have b4 := ((b1.trans b2).trans b3).new (o := .tup [.int r2, .int r3]) nt
      generalize upd H3 t (.tup [.int r2, .int r3]) = H4 at *
      refine ⟨.int (m : Nat), rfl, m, rfl, by omega, by omega, fun D nD => ?_⟩
      refine lc_range (PV p D H4 (n + 3)) (pv_start nD B4) (fun i H5 hi h5 => ?_) (fun H5 h5 => ?_)
      · refine ⟨rfl, yes_ite ?_⟩
        have h5' := h5
        obtain ⟨_, _, _, _, B5, _⟩ := h5'
        have st : ∀ x : Int, (x = 0 ∨ x = 1) → _ := fun x hx => pv_step (H4 := H5) nD (ne_new B4 nD) h5 (But.refl p H5) (B5.mono (by omega)) (by omega) hx
        refine ⟨_, rfl, .int r2, rfl, rfl, _, rfl, ite2 (fun _ => ?_) (fun _ => ?_)⟩
        · exact ⟨.int r3, rfl, st r3 (by omega)⟩
        · exact ⟨.int r3, rfl, _, _, rfl, rfl, st (1 - r3) (by omega)⟩
      · obtain ⟨rs, hl, hb, b5, B5, hD⟩ := h5
        refine ⟨D, _, rfl, .inl ⟨SqL.mk hD, fun l nl => ?_⟩⟩
        exact q _ l rs ((b4.trans b5).new nl) ((B5.new nl).mono (by omega)) upd_same (by omega) hb
    refine ⟨.int r1, rfl, rfl, _, rfl, ite2 (fun _ => ?_) (fun _ => ?_)⟩
    · refine ⟨.ref p, rfl, p, 5, n + 1, rfl, B1, by omega, by omega, by omega, fun H2 r2 b2 B2 l2 u2 => ⟨_, _, rfl, rfl, ?_⟩⟩
      refine ⟨.ref p, rfl, p, 2, n + 2, rfl, B2, by decide, by decide, by omega, fun H3 r3 b3 B3 l3 u3 => ?_⟩
      refine ⟨(show 2 ≤ sizeLine by decide), fun t nt => ?_⟩
      refine ⟨t, _, rfl, SqT.mk upd_same, rfl, _, _, rfl, _, _, rfl, rfl, ?_⟩
      have B4 := B3.new (o := .tup [.int (2 + r2), .int r3]) nt
      have b4 := ((b1.trans b2).trans b3).new (o := .tup [.int (2 + r2), .int r3]) nt
      generalize upd H3 t (.tup [.int (2 + r2), .int r3]) = H4 at *
      refine ⟨.int (m : Nat), rfl, m, rfl, by omega, by omega, fun D nD => ?_⟩
      refine lc_range (PV p D H4 (n + 3)) (pv_start nD B4) (fun i H5 hi h5 => ?_) (fun H5 h5 => ?_)
      · refine ⟨rfl, yes_ite ?_⟩
        have h5' := h5
        obtain ⟨_, _, _, _, B5, _⟩ := h5'
        have st : ∀ x : Int, (x = 0 ∨ x = 1) → _ := fun x hx => pv_step (H4 := H5) nD (ne_new B4 nD) h5 (But.refl p H5) (B5.mono (by omega)) (by omega) hx
        refine ⟨_, rfl, .int r3, rfl, _, _, rfl, rfl, .int (2 + r2), rfl, _, _, rfl, rfl, (show (0 : Int) < 2 + r2 by omega), rfl, .inr ⟨_, rfl, st _ ?_⟩⟩
        split
        · exact .inr rfl
        · exact .inl rfl
      · obtain ⟨rs, hl, hb, b5, B5, hD⟩ := h5
        refine ⟨D, _, rfl, .inl ⟨SqL.mk hD, fun l nl => ?_⟩⟩
        exact q _ l rs ((b4.trans b5).new nl) ((B5.new nl).mono (by omega)) upd_same (by omega) hb
    · refine ⟨.int (m : Nat), rfl, m, rfl, by omega, by omega, fun D nD => ?_⟩
      refine lc_range (PV p D H1 (n + 1)) (pv_start nD B1) (fun i H5 hi h5 => ?_) (fun H5 h5 => ?_)
      · refine ⟨rfl, yes_ite ?_⟩
        have h5' := h5
        obtain ⟨_, _, _, _, B5, _⟩ := h5'
        refine ⟨.ref p, rfl, p, 2, n + 1 + i, rfl, B5, by decide, by decide, by omega, fun H6 r6 b6 B6 l6 u6 => ?_⟩
        exact pv_step nD (ne_new B1 nD) h5 b6 B6 (by omega) (by omega)
      · obtain ⟨rs, hl, hb, b5, B5, hD⟩ := h5
        refine ⟨D, _, rfl, .inl ⟨SqL.mk hD, fun l nl => ?_⟩⟩
        exact q _ l rs ((b1.trans b5).new nl) ((B5.new nl).mono (by omega)) upd_same (by omega) hb
def sp__law_long (_ : PySem.W.Frag) : Sp := fun vs H Q _ => ∃ (p : Addr) (n : Nat), vs = [.ref p] ∧ Bx H p n ∧ n < 1000000000 ∧
  ∀ H' (m : Nat), But p H H' → Bx H' p (n + 4) → 1 ≤ m → m ≤ 400 → Q (.int (m : Nat)) H'
theorem nat_of {x : Int} (h : 0 ≤ x) : ∃ m : Nat, x = (m : Nat) := Int.eq_ofNat_of_zero_le h
theorem ok__law_long (T : Defs K mg) (TT : Tabs T base) : FnOk P w K mg base CX0 2 T.f__law_long T.fd__law_long ["_law_box_here"] (sp__law_long K) := by
  have G__law_take : FnOk P w K mg base CX0 1 T.f__law_take T.fd__law_take ["_law_box_here", "_law_many"] (sp__law_take K) := ok__law_take T TT
  refine T.F__law_long.ok sc__law_long (fun vs H Q E h => ?_) (fun cdv A outer s H vs Q E hr h => ?_)
  · obtain ⟨p, n, rfl, hB, hn, q⟩ := h
    rfl
  · obtain ⟨p, n, rfl, hB, hn, q⟩ := h
    refine ⟨_, PSs.nox (pss_cons (ps_if (pt_cmpR op_eq (pe_call G__law_take (hr.mono (by decide)) (by rfl) T.g__law_take T.F__law_take.kp T.b__law_take .nil pass0 (pa_cons (pv 0) (pa_cons pe_int pa_nil))) pe_int (nomark _)) (pss_one (ps_ret (pe_op op_add pe_int (pe_call G__law_take (hr.mono (by decide)) (by rfl) T.g__law_take T.F__law_take.kp T.b__law_take .nil pass0 (pa_cons (pv 0) (pa_cons pe_int pa_nil)))))) pss_nil)
    (pss_one (ps_ret (pe_ix ix_list (pe_lst (pa_cons pe_int (pa_cons pe_int (pa_cons (pe_op op_add pe_int (pe_call G__law_take (hr.mono (by decide)) (by rfl) T.g__law_take T.F__law_take.kp T.b__law_take .nil pass0 (pa_cons (pv 0) (pa_cons pe_int pa_nil)))) (pa_cons (pe_op op_add pe_int (pe_call G__law_take (hr.mono (by decide)) (by rfl) T.g__law_take T.F__law_take.kp T.b__law_take .nil pass0 (pa_cons (pv 0) (pa_cons pe_int pa_nil)))) pa_nil))))) (pe_call G__law_take (hr.mono (by decide)) (by rfl) T.g__law_take T.F__law_take.kp T.b__law_take .nil pass0 (pa_cons (pv 0) (pa_cons pe_int pa_nil))) (fun _ _ => rfl))))), ?_⟩
    refine ⟨.ref p, rfl, p, 8, n, rfl, hB, by decide, by decide, by omega, fun H1 r1 b1 B1 l1 u1 => ?_⟩
    refine ⟨rfl, _, rfl, ite2 (fun _ => ?_) (fun _ => ?_)⟩
    · refine ⟨.ref p, rfl, p, 400, n + 1, rfl, B1, by decide, by decide, by omega, fun H2 r2 b2 B2 l2 u2 => ⟨_, _, rfl, rfl, ?_⟩⟩
      obtain ⟨m, em⟩ := nat_of (show 0 ≤ 1 + r2 by omega)
      show Q (.int (1 + r2)) H2
      rw [em]
      exact q H2 m (b1.trans b2) (B2.mono (by omega)) (by omega) (by omega)
    · refine ⟨.ref p, rfl, p, 12, n + 1, rfl, B1, by decide, by decide, by omega, fun H2 r2 b2 B2 l2 u2 => ⟨_, _, rfl, rfl, ?_⟩⟩
      refine ⟨.ref p, rfl, p, 40, n + 2, rfl, B2, by decide, by decide, by omega, fun H3 r3 b3 B3 l3 u3 => ⟨_, _, rfl, rfl, ?_⟩⟩
      refine ⟨(show 4 ≤ sizeLine by decide), fun l nl => ?_⟩
      refine ⟨.ref p, rfl, p, 4, n + 3, rfl, B3.new nl, by decide, by decide, by omega, fun H4 r4 b4 B4 l4 u4 => ?_⟩
      obtain ⟨v, ev, hv⟩ := at_menu (Pr := fun v => 1 ≤ v ∧ v ≤ 40) (xs := [1, 2, 1 + r2, 1 + r3]) l4 u4 (fun x hx => by
        rcases List.mem_cons.mp hx with rfl | hx
        · omega
        rcases List.mem_cons.mp hx with rfl | hx
        · omega
        rcases List.mem_cons.mp hx with rfl | hx
        · omega
        rcases List.mem_cons.mp hx with rfl | hx
        · omega
        · cases hx)
      obtain ⟨m, rfl⟩ := nat_of (show 0 ≤ v by omega)
      exact ⟨l, _, _, _, rfl, rfl, SqL.mk (b4 _ _ (ne_new B3 nl) upd_same), ev, q _ m ((((b1.trans b2).trans b3).new nl).trans b4) B4 (by omega) (by omega)⟩
/-! the law's look at two things alike -/
theorem walk_zipT {K : PySem.W.Frag} {a b : Addr} {xs ys : List V} {n : Nat} (hn : n = min xs.length ys.length) : Walk (RZ.ItzT K a b) n (fun H => SqT K H a xs ∧ SqT K H b ys) (YPair (fun i => xs[i]?) (fun i => ys[i]?)) := by
  subst hn
  refine ⟨fun i H hi q => ?_, fun H q => ⟨xs, ys, q.1, q.2, by omega⟩, fun i H v H' _ q y => ?_⟩
  · exact ⟨xs, ys, xs[i]'(by omega), ys[i]'(by omega), q.1, q.2, List.getElem?_eq_getElem _, List.getElem?_eq_getElem _⟩
  · obtain ⟨T, x, y, e1, e2, e3, f1, f2⟩ := y
    exact ⟨T, x, y, e1, e2, e3, f1 _ q.1, f2 _ q.2⟩
theorem ki2 : PySem.W.kitAny K (.type "int") [.type "list", .type "tuple"] = some false := kitAny_cons (kit_ty (r := false) (by decide +kernel)) (fun _ => kitAny_cons (kit_ty (r := false) (by decide +kernel)) (fun _ => rfl) (fun z => by cases z)) (fun z => by cases z)
theorem kt2 : PySem.W.kitAny K (.type "tuple") [.type "list", .type "tuple"] = some true := kitAny_cons (kit_ty (r := false) (by decide +kernel)) (fun _ => kitAny_cons (r := true) (kit_ty (r := true) (by decide +kernel)) (fun z => by cases z) (fun _ => rfl)) (fun z => by cases z)
theorem kIn {a b : String} {r : Bool} (h : kitB a b = some r) : PySem.W.kitOne K (.type a) (.type b) = some r := kit_ty h
theorem k_is : kitB "int" "str" = some false := by decide +kernel
theorem k_ib : kitB "int" "bool" = some false := by decide +kernel
theorem k_ii : kitB "int" "int" = some true := by decide +kernel
theorem k_tl : kitB "tuple" "list" = some false := by decide +kernel
theorem k_tt : kitB "tuple" "tuple" = some true := by decide +kernel
def sp_same0 (_ : PySem.W.Frag) : Sp := fun vs H Q _ => ∃ x y : Int, vs = [.int x, .int y] ∧ ∀ H', Same H H' → Q (.bl (decide (x = y))) H'
theorem ok_same0 (T : Defs K mg) (TT : Tabs T base) : FnOk P w K mg base CX0 1 T.f__law_same T.fd__law_same ["_law_found", "_law_due"] (sp_same0 K) := by
  have G__law_same : FnOk P w K mg base CX0 0 T.f__law_same T.fd__law_same ["_law_found", "_law_due"] (fun _ _ _ _ => False) := ⟨fun _ _ _ _ z => z.elim, fun _ _ _ _ _ _ _ _ _ _ _ _ _ z => z.elim⟩
  refine T.F__law_same.ok sc__law_same (fun vs H Q E h => ?_) (fun cdv A outer s H vs Q E hr h => ?_)
  · obtain ⟨x, y, rfl, q⟩ := h
    rfl
  · obtain ⟨x, y, rfl, q⟩ := h
    refine ⟨_, PSs.nox (pss_cons (ps_if (pt_val (pe_callB call_isiT (by rfl) T.m_isinstance bt_isinstance (pa_cons (pv 1) (pa_cons (pe_tup (pa_cons (pe_bltn (v := .ty "list") (by rfl) T.m_list bt_list rfl) (pa_cons (pe_bltn (v := .ty "tuple") (by rfl) T.m_tuple bt_tuple rfl) pa_nil))) pa_nil)))) (pss_cons (ps_if (PW.pt (pw_or (pt_cmpR op_ne (pe_callB call_isi (by rfl) T.m_isinstance bt_isinstance (pa_cons (pv 0) (pa_cons (pe_bltn (v := .ty "list") (by rfl) T.m_list bt_list rfl) pa_nil))) (pe_callB call_isi (by rfl) T.m_isinstance bt_isinstance (pa_cons (pv 1) (pa_cons (pe_bltn (v := .ty "list") (by rfl) T.m_list bt_list rfl) pa_nil))) (nomark _)) (pw_or1 (pt_cmpR op_ne (pe_callB call_isi (by rfl) T.m_isinstance bt_isinstance (pa_cons (pv 0) (pa_cons (pe_bltn (v := .ty "tuple") (by rfl) T.m_tuple bt_tuple rfl) pa_nil))) (pe_callB call_isi (by rfl) T.m_isinstance bt_isinstance (pa_cons (pv 1) (pa_cons (pe_bltn (v := .ty "tuple") (by rfl) T.m_tuple bt_tuple rfl) pa_nil))) (nomark _))))) (pss_one (ps_ret pe_bl)) pss_nil)
    (pss_one (ps_ret (pe_and (pe_cmpR op_eq (pe_callB call_len_seq (by rfl) T.m_len bt_len (pa_cons (pv 0) pa_nil)) (pe_callB call_len_seq (by rfl) T.m_len bt_len (pa_cons (pv 1) pa_nil)) (nomark _)) (pe_one (pe_callB (cr_all rfl) (by rfl) T.m_all bt_all (pa_cons (pe_lc (own := [("_law_one", 2), ("_law_other", 3)]) (g := gTup K 2 (gCons (gName 2) (gCons (gName 3) gNil))) (tt := tYes) rfl sc__law_same.nd (RZ.pi_zipA (by rfl) T.m_zip (pa_cons (pv 0) (pa_cons (pv 1) pa_nil))) (blkOk_by (N := N__law_same) (sc := defScope s__law_same) (by decide +kernel)) (fun _ _ _ _ _ => (pg_tupK (K := K) rfl rfl (pgs_cons (pg_name (i := 2) sc__law_same.nd rfl (.inl rfl)) (pgs_cons (pg_name (i := 3) sc__law_same.nd rfl (.inl rfl)) pgs_nil)))) (fun _ _ _ _ _ => pts_nil) (fun _ _ _ _ _ => (pe_call G__law_same (hr.mono (by decide)) (by rfl) T.g__law_same T.F__law_same.kp T.b__law_same .nil pass0 (pa_cons (pv 2) (pa_cons (pv 3) pa_nil))))) pa_nil))))))) pss_nil)
    (pss_cons (ps_if (pt_cmpR op_isN (pv 1) pe_non (nomark _)) (pss_one (ps_ret (pe_cmpR op_isN (pv 0) pe_non (nomark _)))) pss_nil)
    (pss_cons (ps_if (pt_val (pe_callB call_isi (by rfl) T.m_isinstance bt_isinstance (pa_cons (pv 1) (pa_cons (pe_bltn (v := .ty "str") (by rfl) T.m_str bt_str rfl) pa_nil)))) (pss_one (ps_ret (pe_and (pe_callB call_isi (by rfl) T.m_isinstance bt_isinstance (pa_cons (pv 0) (pa_cons (pe_bltn (v := .ty "str") (by rfl) T.m_str bt_str rfl) pa_nil))) (pe_one (pe_cmpR op_eq (pv 0) (pv 1) (nomark _)))))) pss_nil)
    (pss_cons (ps_if (pt_val (pe_callB call_isi (by rfl) T.m_isinstance bt_isinstance (pa_cons (pv 1) (pa_cons (pe_bltn (v := .ty "bool") (by rfl) T.m_bool bt_bool rfl) pa_nil)))) (pss_one (ps_ret (pe_and (pe_callB call_isi (by rfl) T.m_isinstance bt_isinstance (pa_cons (pv 0) (pa_cons (pe_bltn (v := .ty "bool") (by rfl) T.m_bool bt_bool rfl) pa_nil))) (pe_one (pe_cmpR op_eq (pv 0) (pv 1) (nomark _)))))) pss_nil)
    (pss_one (ps_ret (pe_and (pe_callB call_isi (by rfl) T.m_isinstance bt_isinstance (pa_cons (pv 0) (pa_cons (pe_bltn (v := .ty "int") (by rfl) T.m_int bt_int rfl) pa_nil))) (pe_and (pe_not (pe_callB call_isi (by rfl) T.m_isinstance bt_isinstance (pa_cons (pv 0) (pa_cons (pe_bltn (v := .ty "bool") (by rfl) T.m_bool bt_bool rfl) pa_nil)))) (pe_one (pe_cmpR op_eq (pv 0) (pv 1) (nomark _))))))))))), ?_⟩
    refine ⟨.int y, rfl, (show 2 ≤ sizeLine by decide), fun tp np => ?_⟩
    have s1 : Same H (upd H tp (.tup [.ty "list", .ty "tuple"])) := same_upd np
    refine ⟨_, tp, _, _, _, _, rfl, upd_same, .cons (.ty "list") (.cons (.ty "tuple") .nil), .base (.int y), ki2, _, rfl, ?_⟩
    refine iteF ?_
    refine ⟨.int y, rfl, rfl, _, rfl, ?_⟩
    refine iteF ?_
    refine ⟨.int y, rfl, _, _, _, _, _, rfl, .ty "str", .base (.int y), kIn k_is, _, rfl, ?_⟩
    refine iteF ?_
    refine ⟨.int y, rfl, _, _, _, _, _, rfl, .ty "bool", .base (.int y), kIn k_ib, _, rfl, ?_⟩
    refine iteF ?_
    refine ⟨.int x, rfl, _, _, _, _, _, rfl, .ty "int", .base (.int x), kIn k_ii, _, rfl, ?_⟩
    refine iteT ?_
    refine ⟨.int x, rfl, _, _, _, _, _, rfl, .ty "bool", .base (.int x), kIn k_ib, _, rfl, _, rfl, ?_⟩
    refine iteT ?_
    refine ⟨.int x, rfl, .int y, rfl, rfl, ?_⟩
    have e : decide (V.int x = V.int y) = decide (x = y) := decide_eq_decide.mpr ⟨V.int.inj, fun z => by rw [z]⟩
    rw [e]
    exact q _ s1
def sp__law_same (_ : PySem.W.Frag) : Sp := fun vs H Q _ => ∃ (a b : Addr) (rs : List Int), vs = [.ref a, .ref b] ∧ H a = some (.tup (rs.map V.int)) ∧ H b = some (.tup (rs.map V.int)) ∧ rs.length ≤ 100000 ∧ ∀ H', Same H H' → Q (.bl true) H'
theorem ok__law_same (T : Defs K mg) (TT : Tabs T base) : FnOk P w K mg base CX0 2 T.f__law_same T.fd__law_same ["_law_found", "_law_due"] (sp__law_same K) := by
  have G__law_same : FnOk P w K mg base CX0 1 T.f__law_same T.fd__law_same ["_law_found", "_law_due"] (sp_same0 K) := ok_same0 T TT
  refine T.F__law_same.ok sc__law_same (fun vs H Q E h => ?_) (fun cdv A outer s H vs Q E hr h => ?_)
  · obtain ⟨a, b, rs, rfl, ha, hb, hl, q⟩ := h
    rfl
  · obtain ⟨a, b, rs, rfl, ha, hb, hl, q⟩ := h
    refine ⟨_, PSs.nox (pss_cons (ps_if (pt_val (pe_callB call_isiT (by rfl) T.m_isinstance bt_isinstance (pa_cons (pv 1) (pa_cons (pe_tup (pa_cons (pe_bltn (v := .ty "list") (by rfl) T.m_list bt_list rfl) (pa_cons (pe_bltn (v := .ty "tuple") (by rfl) T.m_tuple bt_tuple rfl) pa_nil))) pa_nil)))) (pss_cons (ps_if (PW.pt (pw_or (pt_cmpR op_ne (pe_callB call_isi (by rfl) T.m_isinstance bt_isinstance (pa_cons (pv 0) (pa_cons (pe_bltn (v := .ty "list") (by rfl) T.m_list bt_list rfl) pa_nil))) (pe_callB call_isi (by rfl) T.m_isinstance bt_isinstance (pa_cons (pv 1) (pa_cons (pe_bltn (v := .ty "list") (by rfl) T.m_list bt_list rfl) pa_nil))) (nomark _)) (pw_or1 (pt_cmpR op_ne (pe_callB call_isi (by rfl) T.m_isinstance bt_isinstance (pa_cons (pv 0) (pa_cons (pe_bltn (v := .ty "tuple") (by rfl) T.m_tuple bt_tuple rfl) pa_nil))) (pe_callB call_isi (by rfl) T.m_isinstance bt_isinstance (pa_cons (pv 1) (pa_cons (pe_bltn (v := .ty "tuple") (by rfl) T.m_tuple bt_tuple rfl) pa_nil))) (nomark _))))) (pss_one (ps_ret pe_bl)) pss_nil)
    (pss_one (ps_ret (pe_and (pe_cmpR op_eq (pe_callB call_len_seq (by rfl) T.m_len bt_len (pa_cons (pv 0) pa_nil)) (pe_callB call_len_seq (by rfl) T.m_len bt_len (pa_cons (pv 1) pa_nil)) (nomark _)) (pe_one (pe_callB (cr_all rfl) (by rfl) T.m_all bt_all (pa_cons (pe_lc (own := [("_law_one", 2), ("_law_other", 3)]) (g := gTup K 2 (gCons (gName 2) (gCons (gName 3) gNil))) (tt := tYes) rfl sc__law_same.nd (RZ.pi_zipA (by rfl) T.m_zip (pa_cons (pv 0) (pa_cons (pv 1) pa_nil))) (blkOk_by (N := N__law_same) (sc := defScope s__law_same) (by decide +kernel)) (fun _ _ _ _ _ => (pg_tupK (K := K) rfl rfl (pgs_cons (pg_name (i := 2) sc__law_same.nd rfl (.inl rfl)) (pgs_cons (pg_name (i := 3) sc__law_same.nd rfl (.inl rfl)) pgs_nil)))) (fun _ _ _ _ _ => pts_nil) (fun _ _ _ _ _ => (pe_call G__law_same (hr.mono (by decide)) (by rfl) T.g__law_same T.F__law_same.kp T.b__law_same .nil pass0 (pa_cons (pv 2) (pa_cons (pv 3) pa_nil))))) pa_nil))))))) pss_nil)
    (pss_cons (ps_if (pt_cmpR op_isN (pv 1) pe_non (nomark _)) (pss_one (ps_ret (pe_cmpR op_isN (pv 0) pe_non (nomark _)))) pss_nil)
    (pss_cons (ps_if (pt_val (pe_callB call_isi (by rfl) T.m_isinstance bt_isinstance (pa_cons (pv 1) (pa_cons (pe_bltn (v := .ty "str") (by rfl) T.m_str bt_str rfl) pa_nil)))) (pss_one (ps_ret (pe_and (pe_callB call_isi (by rfl) T.m_isinstance bt_isinstance (pa_cons (pv 0) (pa_cons (pe_bltn (v := .ty "str") (by rfl) T.m_str bt_str rfl) pa_nil))) (pe_one (pe_cmpR op_eq (pv 0) (pv 1) (nomark _)))))) pss_nil)
    (pss_cons (ps_if (pt_val (pe_callB call_isi (by rfl) T.m_isinstance bt_isinstance (pa_cons (pv 1) (pa_cons (pe_bltn (v := .ty "bool") (by rfl) T.m_bool bt_bool rfl) pa_nil)))) (pss_one (ps_ret (pe_and (pe_callB call_isi (by rfl) T.m_isinstance bt_isinstance (pa_cons (pv 0) (pa_cons (pe_bltn (v := .ty "bool") (by rfl) T.m_bool bt_bool rfl) pa_nil))) (pe_one (pe_cmpR op_eq (pv 0) (pv 1) (nomark _)))))) pss_nil)
    (pss_one (ps_ret (pe_and (pe_callB call_isi (by rfl) T.m_isinstance bt_isinstance (pa_cons (pv 0) (pa_cons (pe_bltn (v := .ty "int") (by rfl) T.m_int bt_int rfl) pa_nil))) (pe_and (pe_not (pe_callB call_isi (by rfl) T.m_isinstance bt_isinstance (pa_cons (pv 0) (pa_cons (pe_bltn (v := .ty "bool") (by rfl) T.m_bool bt_bool rfl) pa_nil)))) (pe_one (pe_cmpR op_eq (pv 0) (pv 1) (nomark _))))))))))), ?_⟩
    refine ⟨.ref b, rfl, (show 2 ≤ sizeLine by decide), fun tp np => ?_⟩
    have s1 : Same H (upd H tp (.tup [.ty "list", .ty "tuple"])) := same_upd np
    have ha1 := s1 _ _ ha
    have hb1 := s1 _ _ hb
    refine ⟨_, tp, _, _, _, _, rfl, upd_same, .cons (.ty "list") (.cons (.ty "tuple") .nil), .base (.tup hb1), kt2, _, rfl, ?_⟩
    generalize upd H tp (.tup [.ty "list", .ty "tuple"]) = H1 at *
    refine iteT ?_
    refine ⟨.ref a, rfl, _, _, _, _, _, rfl, .ty "list", .base (.tup ha1), kIn k_tl, .ref b, rfl, _, _, _, _, _, rfl, .ty "list", .base (.tup hb1), kIn k_tl, rfl, _, rfl, ?_⟩
    refine iteF ?_
    refine ⟨.ref a, rfl, _, _, _, _, _, rfl, .ty "tuple", .base (.tup ha1), kIn k_tt, .ref b, rfl, _, _, _, _, _, rfl, .ty "tuple", .base (.tup hb1), kIn k_tt, rfl, _, rfl, ?_⟩
    refine iteF ?_
    refine ⟨.ref a, rfl, a, _, rfl, .inr (SqT.mk ha1), .ref b, rfl, b, _, rfl, .inr (SqT.mk hb1), rfl, _, rfl, ?_⟩
    rw [decide_eq_true rfl]
    refine iteT ?_
    have hsl : sizeLine = 16777216 := by decide
    refine ⟨.ref a, rfl, .ref b, rfl, a, b, _, _, rfl, .inr ⟨SqT.mk ha1, SqT.mk hb1, fun D nD => ?_⟩⟩
    refine lc_it (walk_zipT (n := rs.length) (xs := rs.map V.int) (ys := rs.map V.int) (by rw [List.length_map, Nat.min_self])) (fun i H2 => Same H1 H2 ∧ H2 D = some (.lst ((List.replicate i true).map V.bl))) ⟨same_upd nD, upd_same⟩ (fun i H2 _ h2 => ⟨SqT.mk (h2.1 _ _ ha1), SqT.mk (h2.1 _ _ hb1)⟩) ?_ ?_
    · rintro i x H2 H3 hi ⟨s2, hD⟩ ⟨t, x1, x2, rfl, nt, rfl, e1, e2⟩
      have g : (rs.map V.int)[i]? = some (.int rs[i]) := by
        rw [List.getElem?_map, List.getElem?_eq_getElem hi]
        rfl
      have e1 : (rs.map V.int)[i]? = some x1 := e1
      have e2 : (rs.map V.int)[i]? = some x2 := e2
      rw [g] at e1 e2
      cases e1
      cases e2
      refine ⟨t, _, rfl, SqT.mk upd_same, rfl, _, _, rfl, _, _, rfl, rfl, rfl, yes_ite ?_⟩
      refine ⟨_, rfl, _, rfl, rs[i], rs[i], rfl, fun H4 s4 => ?_⟩
      have s24 : Same H2 H4 := (same_upd nt).trans s4
      refine ⟨_, s24 _ _ hD, by rw [List.length_map, List.length_replicate]; omega, same_newer (s2.trans s24) nD, ?_⟩
      rw [upd_same, List.replicate_succ', List.map_append, decide_eq_true rfl]
      rfl
    · rintro H2 ⟨s2, hD⟩
      refine ⟨D, List.replicate rs.length true, rfl, SqL.mk hD, ?_⟩
      rw [show (List.replicate rs.length true).all id = true by rw [List.all_replicate]; simp]
      exact q _ (s1.trans s2)
/-! turning round -/
theorem mod_inj {k p b m : Nat} (hk : k < m) (hp : p < m) (h : (k + b) % m = (p + b) % m) : k = p := by
  have e1 := Nat.div_add_mod (k + b) m
  have e2 := Nat.div_add_mod (p + b) m
  rw [h] at e1
  generalize (k + b) / m = q1 at *
  generalize (p + b) / m = q2 at *
  generalize (p + b) % m = r at *
  rcases Nat.lt_trichotomy q1 q2 with z | z | z
  · have := Nat.mul_le_mul_left m (show q1 + 1 ≤ q2 from z)
    rw [Nat.mul_add] at this
    omega
  · subst z
    omega
  · have := Nat.mul_le_mul_left m (show q2 + 1 ≤ q1 from z)
    rw [Nat.mul_add] at this
    omega
theorem late_of {rs ds : List Int} {b : Nat} (hl : ds.length = rs.length) (h : ∀ p, p < rs.length → ds[(p + b) % rs.length]? = rs[p]?) : ds = late rs (b : Int) := by
  refine List.ext_getElem? fun t => ?_
  by_cases ht : t < rs.length
  · rw [late_get ht]
    have h0 : (0 : Int) < (rs.length : Int) := by omega
    have h1 := Int.emod_lt_of_pos ((t : Int) - b) h0
    have h2 := Int.emod_nonneg ((t : Int) - b) (show (rs.length : Int) ≠ 0 by omega)
    have hp : (((t : Int) - b) % (rs.length : Int)).toNat < rs.length := by omega
    have e := h _ hp
    rw [← e]
    congr 1
    have e1 : (((((t : Int) - b) % (rs.length : Int)).toNat : Nat) : Int) = ((t : Int) - b) % (rs.length : Int) := by omega
    have e2 : (((((((t : Int) - b) % (rs.length : Int)).toNat + b) % rs.length : Nat)) : Int) = (t : Int) := by
      rw [Int.natCast_emod, Int.natCast_add, e1, Int.emod_add_emod, show (t : Int) - b + b = t by omega]
      exact Int.emod_eq_of_lt (by omega) (by omega)
    omega
  · rw [List.getElem?_eq_none (by omega), List.getElem?_eq_none (by rw [late_len]; omega)]
theorem late_late (rs : List Int) (b o : Int) : late (late rs b) o = late rs (b + o) := by
  refine List.ext_getElem? fun t => ?_
  by_cases ht : t < rs.length
  · have h0 : (0 : Int) < (rs.length : Int) := by omega
    have h1 := Int.emod_lt_of_pos ((t : Int) - o) h0
    have h2 := Int.emod_nonneg ((t : Int) - o) (show (rs.length : Int) ≠ 0 by omega)
    rw [late_get (by rw [late_len]; exact ht), late_get ht, late_len, late_get (by omega)]
    congr 2
    have e1 : (((((t : Int) - o) % (rs.length : Int)).toNat : Nat) : Int) = ((t : Int) - o) % (rs.length : Int) := by omega
    rw [e1, Int.sub_emod, Int.emod_emod, ← Int.sub_emod, show (t : Int) - o - b = (t : Int) - (b + o) by omega]
  · rw [List.getElem?_eq_none (by rw [late_len, late_len]; omega), List.getElem?_eq_none (by rw [late_len]; omega)]
theorem rep_succ (k : Nat) (rs : List Int) : (List.replicate (k + 1) rs).flatten = (List.replicate k rs).flatten ++ rs := by
  rw [List.replicate_succ', List.flatten_append]
  simp
theorem rep_len (k : Nat) (rs : List Int) : ((List.replicate k rs).flatten).length = k * rs.length := by
  rw [List.length_flatten, List.map_replicate, List.sum_replicate_nat]
def sp_law {K : PySem.W.Frag} {mg : Str → Option Value} (T : Defs K mg) : Sp := fun vs H Q _ => ∃ (a : Addr) (ns : List Int), vs = [.ref a] ∧ SqL K H a (ns.map V.int) ∧ ns.length ≤ 63 ∧ (GxR.TabG H T.P_round_late ∧ True) ∧ ∀ H', Q (.bl true) H'
theorem fork_long {K : PySem.W.Frag} {c : Prop} [Decidable c] {Q : VK} {E : XK} {σ : L2.St} {H3 H4 : Hp} {b : Addr} {i : Nat} (hσ : σ[i]? = some (some (.ref b))) (B4 : Bx H4 b 1) (b4 : But b H3 H4)
    (key : ∀ (H5 : Hp) (m : Nat), But b H3 H5 → Bx H5 b 5 → 1 ≤ m → m ≤ 4096 → Q (.int (m : Nat)) H5) : if c then tC (.int 4096) σ H4 Q else tCall (sp__law_long K) [] E (tCons (tVar i) tNil) σ H4 Q :=
  ite2 (fun _ => key H4 4096 b4 (B4.mono (by omega)) (by decide) (by decide)) fun _ => ⟨.ref b, hσ, b, 1, rfl, B4, by omega, fun H5 m b5 B5 m1 m2 => key H5 m (b4.trans b5) (B5.mono (by omega)) m1 (by omega)⟩
theorem ok_law (T : Defs K mg) (TT : Tabs T base) : FnOk P w K mg base CX0 3 T.f_law T.fd_law ["_law_script"] (sp_law T) := by
  have G__law_folded : FnOk P w K mg base CX0 1 T.f__law_folded T.fd__law_folded ["_law_script", "_law_many"] (sp__law_folded K) := ok__law_folded T TT
  have G__law_box : FnOk P w K mg base CX0 1 T.f__law_box T.fd__law_box ["_law_script", "_law_k"] (sp__law_box K) := ok__law_box T TT
  have G__law_row : FnOk P w K mg base CX0 2 T.f__law_row T.fd__law_row ["_law_box_here", "_law_long_here"] (sp__law_row K) := ok__law_row T TT
  have G__law_long : FnOk P w K mg base CX0 2 T.f__law_long T.fd__law_long ["_law_box_here"] (sp__law_long K) := ok__law_long T TT
  have G__law_take : FnOk P w K mg base CX0 1 T.f__law_take T.fd__law_take ["_law_box_here", "_law_many"] (sp__law_take K) := ok__law_take T TT
  have G__law_same : FnOk P w K mg base CX0 2 T.f__law_same T.fd__law_same ["_law_found", "_law_due"] (sp__law_same K) := ok__law_same T TT
  have G_round_late : FnOk P w K mg base CX0 1 T.f_round_late T.fd_round_late ["row", "by"] (sp_round_late T) := ok_round_late T TT
  have G_again : FnOk P w K mg base CX0 1 T.f_again T.fd_again ["row", "many"] (sp_again K) := ok_again T TT
  have G_behind : FnOk P w K mg base CX0 1 T.f_behind T.fd_behind ["row", "ahead"] (sp_behind K) := ok_behind T TT
  refine T.F_law.ok sc_law (fun vs H Q E h => ?_) (fun cdv A outer s H vs Q E hr h => ?_)
  · obtain ⟨a, ns, rfl, hS, hlen, ⟨tg0, _⟩, q⟩ := h
    rfl
  · obtain ⟨a, ns, rfl, hS, hlen, ⟨tg0, _⟩, q⟩ := h
    refine ⟨_, PSs.nox (pss_cons (ps_set (i := 1) sc_law.nd rfl (.inl rfl) (pe_call G__law_folded (hr.mono (by decide)) (by rfl) T.g__law_folded T.F__law_folded.kp T.b__law_folded .nil pass0 (pa_cons (pv 0) (pa_cons pe_int pa_nil))))
    (pss_cons (ps_for PassesOwn.never rfl (pi_range1 (by rfl) T.m_range (pa_cons (pe_callB (call_max2 rfl) (by rfl) T.m_max bt_max (pa_cons pe_int (pa_cons (pe_callB call_len_seq (by rfl) T.m_len bt_len (pa_cons (pv 1) pa_nil)) pa_nil))) pa_nil)) (pg_name (i := 2) sc_law.nd rfl (.inl rfl)) (pss_cons (ps_set (i := 3) sc_law.nd rfl (.inr rfl) (pe_call G__law_box (hr.mono (by decide)) (by rfl) T.g__law_box T.F__law_box.kp T.b__law_box .nil pass0 (pa_cons (pv 1) (pa_cons (pv 2) pa_nil))))
    (pss_cons (ps_set (i := 4) sc_law.nd rfl (.inl rfl) (pe_ifExp (pt_cmpR op_eq (pe_call G__law_take (hr.mono (by decide)) (by rfl) T.g__law_take T.F__law_take.kp T.b__law_take .nil pass0 (pa_cons (pv 3) (pa_cons pe_int pa_nil))) pe_int (nomark _)) pe_int (pe_call G__law_long (hr.mono (by decide)) (by rfl) T.g__law_long T.F__law_long.kp T.b__law_long .nil pass0 (pa_cons (pv 3) pa_nil))))
    (pss_cons (ps_set (i := 5) sc_law.nd rfl (.inl rfl) (pe_call G__law_row (hr.mono (by decide)) (by rfl) T.g__law_row T.F__law_row.kp T.b__law_row .nil pass0 (pa_cons (pv 3) (pa_cons (pv 4) pa_nil))))
    (pss_one (ps_for PassesOwn.never rfl (pi_range1 (by rfl) T.m_range (pa_cons pe_int pa_nil)) (pg_name (i := 6) sc_law.nd rfl (.inl rfl)) (pss_cons (ps_set (i := 7) sc_law.nd rfl (.inl rfl) (pe_callB (call_min2 rfl) (by rfl) T.m_min bt_min (pa_cons pe_int (pa_cons (pe_op op_add (pv 4) (pe_call G__law_take (hr.mono (by decide)) (by rfl) T.g__law_take T.F__law_take.kp T.b__law_take .nil pass0 (pa_cons (pv 3) (pa_cons pe_int pa_nil)))) pa_nil))))
    (pss_cons (ps_set (i := 8) sc_law.nd rfl (.inl rfl) (pe_ix ix_list (pe_lst (pa_cons pe_int (pa_cons pe_int (pa_cons (pv 4) (pa_cons (pv 7) (pa_cons (pe_call G__law_take (hr.mono (by decide)) (by rfl) T.g__law_take T.F__law_take.kp T.b__law_take .nil pass0 (pa_cons (pv 3) (pa_cons pe_int pa_nil))) (pa_cons (pe_call G__law_take (hr.mono (by decide)) (by rfl) T.g__law_take T.F__law_take.kp T.b__law_take .nil pass0 (pa_cons (pv 3) (pa_cons pe_int pa_nil))) pa_nil))))))) (pe_call G__law_take (hr.mono (by decide)) (by rfl) T.g__law_take T.F__law_take.kp T.b__law_take .nil pass0 (pa_cons (pv 3) (pa_cons pe_int pa_nil))) (fun _ _ => rfl)))
    (pss_cons (ps_set (i := 9) sc_law.nd rfl (.inl rfl) (pe_callTy call_list_of (by rfl) T.m_list bt_list (pa_cons (pv 5) pa_nil)))
    (pss_cons (ps_for PassesOwn.never rfl (pi_range1 (by rfl) T.m_range (pa_cons (pv 4) pa_nil)) (pg_name (i := 10) sc_law.nd rfl (.inl rfl)) (pss_one (ps_asg (pe_ix ix_tup (pv 5) (pv 10) (fun _ _ => rfl)) (pg_sub (pv 9) (pe_op op_mod (pe_op op_add (pv 10) (pv 8)) (pv 4)) set_list))))
    (pss_cons (ps_if (PW.pt (pw_or (pt_not (pt_val (pe_call G__law_same (hr.mono (by decide)) (by rfl) T.g__law_same T.F__law_same.kp T.b__law_same .nil pass0 (pa_cons (pe_call G_round_late (hr.mono (by decide)) (by rfl) T.g_round_late T.F_round_late.kp T.b_round_late .nil pass0 (pa_cons (pv 5) (pa_cons (pv 8) pa_nil))) (pa_cons (pe_callTy call_tuple_of (by rfl) T.m_tuple bt_tuple (pa_cons (pv 9) pa_nil)) pa_nil))))) (pw_or1 (pt_not (pt_val (pe_call G__law_same (hr.mono (by decide)) (by rfl) T.g__law_same T.F__law_same.kp T.b__law_same .nil pass0 (pa_cons (pe_call G_round_late (hr.mono (by decide)) (by rfl) T.g_round_late T.F_round_late.kp T.b_round_late .nil pass0 (pa_cons (pv 5) (pa_cons (pv 8) pa_nil))) (pa_cons (pe_callTy call_tuple_of (by rfl) T.m_tuple bt_tuple (pa_cons (pv 9) pa_nil)) pa_nil)))))))) (pss_one (ps_ret pe_bl)) pss_nil)
    (pss_cons (ps_set (i := 11) sc_law.nd rfl (.inl rfl) (pe_call G__law_take (hr.mono (by decide)) (by rfl) T.g__law_take T.F__law_take.kp T.b__law_take .nil pass0 (pa_cons (pv 3) (pa_cons (pe_op op_sub pe_int (pv 8)) pa_nil))))
    (pss_cons (ps_if (pt_not (pt_val (pe_call G__law_same (hr.mono (by decide)) (by rfl) T.g__law_same T.F__law_same.kp T.b__law_same .nil pass0 (pa_cons (pe_call G_round_late (hr.mono (by decide)) (by rfl) T.g_round_late T.F_round_late.kp T.b_round_late .nil pass0 (pa_cons (pe_call G_round_late (hr.mono (by decide)) (by rfl) T.g_round_late T.F_round_late.kp T.b_round_late .nil pass0 (pa_cons (pv 5) (pa_cons (pv 8) pa_nil))) (pa_cons (pv 11) pa_nil))) (pa_cons (pe_call G_round_late (hr.mono (by decide)) (by rfl) T.g_round_late T.F_round_late.kp T.b_round_late .nil pass0 (pa_cons (pv 5) (pa_cons (pe_op op_add (pv 8) (pv 11)) pa_nil))) pa_nil))))) (pss_one (ps_ret pe_bl)) pss_nil)
    (pss_cons (ps_set (i := 12) sc_law.nd rfl (.inl rfl) (pe_ix ix_list (pe_lst (pa_cons pe_int (pa_cons pe_int (pa_cons (pe_callB (call_min2 rfl) (by rfl) T.m_min bt_min (pa_cons pe_int (pa_cons (pv 4) pa_nil))) (pa_cons (pe_call G__law_take (hr.mono (by decide)) (by rfl) T.g__law_take T.F__law_take.kp T.b__law_take .nil pass0 (pa_cons (pv 3) (pa_cons pe_int pa_nil))) pa_nil))))) (pe_call G__law_take (hr.mono (by decide)) (by rfl) T.g__law_take T.F__law_take.kp T.b__law_take .nil pass0 (pa_cons (pv 3) (pa_cons pe_int pa_nil))) (fun _ _ => rfl)))
    (pss_cons (ps_set (i := 13) sc_law.nd rfl (.inl rfl) (pe_callTy call_tuple_of (by rfl) T.m_tuple bt_tuple (pa_cons (pe_lc (own := [("_law_bit", 16)]) (g := gName 16) (tt := tYes) rfl sc_law.nd (pi_range1 (by rfl) T.m_range (pa_cons (pv 12) pa_nil)) (blkOk_by (N := N_law) (sc := defScope s_law) (by decide +kernel)) (fun _ _ _ _ _ => (pg_name (i := 16) sc_law.nd rfl (.inl rfl))) (fun _ _ _ _ _ => pts_nil) (fun _ _ _ _ _ => (pe_call G__law_take (hr.mono (by decide)) (by rfl) T.g__law_take T.F__law_take.kp T.b__law_take .nil pass0 (pa_cons (pv 3) (pa_cons pe_int pa_nil))))) pa_nil)))
    (pss_cons (ps_set (i := 9) sc_law.nd rfl (.inl rfl) (pe_op op_cat (pe_callTy call_list_of (by rfl) T.m_list bt_list (pa_cons (pv 13) pa_nil)) (pe_callTy call_list_of (by rfl) T.m_list bt_list (pa_cons (pv 5) pa_nil))))
    (pss_cons (ps_while PassesOwn.never (pt_cmpR op_gt (pe_callB call_len_seq (by rfl) T.m_len bt_len (pa_cons (pv 9) pa_nil)) (pv 4) (nomark _)) (pss_one (ps_expr (pe_bm0 PySem.F.plainAttrs_list PySem.F.slot_list_pop PySem.F.type_list_pop mt_pop (pv 9)))))
    (pss_cons (ps_if (PW.pt (pw_or (pt_not (pt_val (pe_call G__law_same (hr.mono (by decide)) (by rfl) T.g__law_same T.F__law_same.kp T.b__law_same .nil pass0 (pa_cons (pe_call G_behind (hr.mono (by decide)) (by rfl) T.g_behind T.F_behind.kp T.b_behind .nil pass0 (pa_cons (pv 5) (pa_cons (pv 13) pa_nil))) (pa_cons (pe_callTy call_tuple_of (by rfl) T.m_tuple bt_tuple (pa_cons (pv 9) pa_nil)) pa_nil))))) (pw_or1 (pt_not (pt_val (pe_call G__law_same (hr.mono (by decide)) (by rfl) T.g__law_same T.F__law_same.kp T.b__law_same .nil pass0 (pa_cons (pe_call G_behind (hr.mono (by decide)) (by rfl) T.g_behind T.F_behind.kp T.b_behind .nil pass0 (pa_cons (pv 5) (pa_cons (pe_tup pa_nil) pa_nil))) (pa_cons (pv 5) pa_nil)))))))) (pss_one (ps_ret pe_bl)) pss_nil)
    (pss_cons (ps_set (i := 14) sc_law.nd rfl (.inl rfl) (pe_op op_add pe_int (pe_call G__law_take (hr.mono (by decide)) (by rfl) T.g__law_take T.F__law_take.kp T.b__law_take .nil pass0 (pa_cons (pv 3) (pa_cons (pe_callB (call_min2 rfl) (by rfl) T.m_min bt_min (pa_cons pe_int (pa_cons (pe_op op_fdiv pe_int (pv 4)) pa_nil))) pa_nil)))))
    (pss_cons (ps_set (i := 9) sc_law.nd rfl (.inl rfl) (pe_lst pa_nil))
    (pss_cons (ps_for PassesOwn.never rfl (pi_range1 (by rfl) T.m_range (pa_cons (pv 14) pa_nil)) (pg_name (i := 15) sc_law.nd rfl (.inl rfl)) (pss_one (ps_expr (pe_bm PySem.F.plainAttrs_list PySem.F.slot_list_extend PySem.F.type_list_extend mt_extend (pv 9) (pa_cons (pe_callTy call_list_of (by rfl) T.m_list bt_list (pa_cons (pv 5) pa_nil)) pa_nil)))))
    (pss_one (ps_if (pt_not (pt_val (pe_call G__law_same (hr.mono (by decide)) (by rfl) T.g__law_same T.F__law_same.kp T.b__law_same .nil pass0 (pa_cons (pe_call G_again (hr.mono (by decide)) (by rfl) T.g_again T.F_again.kp T.b_again .nil pass0 (pa_cons (pv 5) (pa_cons (pv 14) pa_nil))) (pa_cons (pe_callTy call_tuple_of (by rfl) T.m_tuple bt_tuple (pa_cons (pv 9) pa_nil)) pa_nil))))) (pss_one (ps_ret pe_bl)) pss_nil)))))))))))))))))))))))
    (pss_one (ps_ret pe_bl)))), ?_⟩
    have hsl : sizeLine = 16777216 := by decide
    refine ⟨.ref a, rfl, a, ns, 4, rfl, hS, hlen, by decide, by decide, fun H1 c cs s1 nc hc lc => ?_⟩
    have tg1 : GxR.TabG H1 T.P_round_late := (Sam.of s1).tabG tg0
    have hn : (if (((cs.map V.int).length : Nat) : Int) > 2 then (((cs.map V.int).length : Nat) : Int) else 2) ≤ 4 ∧ 0 ≤ (if (((cs.map V.int).length : Nat) : Int) > 2 then (((cs.map V.int).length : Nat) : Int) else 2) := by
      rw [List.length_map]
      split <;> omega
    refine ⟨.ref c, rfl, c, _, rfl, .inl (SqL.mk hc), _, _, rfl, _, rfl, by omega, by omega, for_range (fun i σ H2 => ∃ y2 y3 y4 y5 y6 y7 y8 y9 y10 y11 y12 y13 y14 y15 y16, σ = [some (.ref a), some (.ref c), y2, y3, y4, y5, y6, y7, y8, y9, y10, y11, y12, y13, y14, y15, y16] ∧ Sam H1 H2) ⟨none, none, none, none, none, none, none, none, none, none, none, none, none, none, none, rfl, Sam.refl H1⟩ ?_ ?_⟩
    rotate_left
    · rintro σ H2 ⟨y2, y3, y4, y5, y6, y7, y8, y9, y10, y11, y12, y13, y14, y15, y16, rfl, s2⟩
      exact q _
    rintro i σ H2 hi ⟨y2, y3, y4, y5, y6, y7, y8, y9, y10, y11, y12, y13, y14, y15, y16, rfl, s2⟩
    have hi2 : i < 1000 := by omega
    refine ⟨.ref c, rfl, .int (0 + (i : Int)), rfl, c, cs, i, by rw [Int.zero_add]; rfl, SqL.mk (s2.lst hc), hi2, fun H3 b s3 nb hB => ?_⟩
    have nb1 : H1 b = none := s2.free nb
    have s13 := s2.trans (Sam.of s3)
    -- how long
    refine ⟨.ref b, rfl, b, 32, 0, rfl, hB, by decide, by decide, by omega, fun H4 r4 b4 B4 l4 u4 => ⟨rfl, _, rfl, ?_⟩⟩
    refine fork_long rfl B4 b4 fun H5 m b5 B5 m1 m2 => ?_
    clear B4 b4 l4 u4
    refine ⟨.ref b, rfl, .int (m : Nat), rfl, b, m, 5, rfl, B5, m1, m2, by omega, fun H6 r rs b6 B6 hr6 lr br => ?_⟩
    have s16 : Sam H1 H6 := bus_same nb1 s13 (Bus.of (b5.trans b6))
    have tg6 : GxR.TabG H6 T.P_round_late := s16.tabG tg1
    have hmr : rs.length = m := lr
    refine ⟨4, rfl, by decide, by decide, for_range (n := 4) (fun j σ G => ∃ y6 y7 y8 y9 y10 y11 y12 y13 y14 y15 y16, σ = [some (.ref a), some (.ref c), some (.int (0 + (i : Int))), some (.ref b), some (.int (m : Nat)), some (.ref r), y6, y7, y8, y9, y10, y11, y12, y13, y14, y15, y16] ∧ Bus b H6 G ∧ Bx G b (5005 + 200 * j)) ⟨_, _, _, _, _, _, _, _, _, _, _, rfl, Bus.refl b H6, B6⟩ ?_ ?_⟩
    rotate_left
    · rintro σ G ⟨y6, y7, y8, y9, y10, y11, y12, y13, y14, y15, y16, rfl, bG, BG⟩
      exact ⟨_, _, _, _, _, _, _, _, _, _, _, _, _, _, _, rfl, bus_same nb1 s16 bG⟩
    rintro j σ G hj ⟨y6, y7, y8, y9, y10, y11, y12, y13, y14, y15, y16, rfl, bG, BG⟩
    -- near, by
    refine ⟨.int (m : Nat), rfl, .ref b, rfl, b, 3, 5005 + 200 * j, rfl, BG, by decide, by decide, by omega, fun G1 r1 c1 B1 l1 u1 => ⟨_, _, rfl, rfl, _, _, rfl, ?_⟩⟩
    have hnear : 0 ≤ (if ((m : Int) + r1) < 4096 then ((m : Int) + r1) else 4096) ∧ (if ((m : Int) + r1) < 4096 then ((m : Int) + r1) else 4096) ≤ 4096 := by
      split <;> omega
    generalize hnr : (if ((m : Int) + r1) < 4096 then ((m : Int) + r1) else 4096) = near at hnear
    refine ⟨.int (m : Nat), rfl, _, rfl, .ref b, rfl, b, 4097, 5005 + 200 * j + 1, rfl, B1, by decide, by decide, by omega, fun G2 r2 c2 B2 l2 u2 => ?_⟩
    refine ⟨.ref b, rfl, b, 20, 5005 + 200 * j + 2, rfl, B2, by decide, by decide, by omega, fun G3 r3 c3 B3 l3 u3 => ?_⟩
    refine ⟨(show 6 ≤ sizeLine by decide), fun l nl => ?_⟩
    refine ⟨.ref b, rfl, b, 6, 5005 + 200 * j + 3, rfl, B3.new nl, by decide, by decide, by omega, fun G4 r4 c4 B4 l4 u4 => ?_⟩
    obtain ⟨v, ev, hv⟩ := at_menu (Pr := fun v => 0 ≤ v ∧ v ≤ 4096) (xs := [0, 1, (m : Int), near, r2, r3]) l4 u4 (fun x hx => by
      rcases List.mem_cons.mp hx with rfl | hx
      · omega
      rcases List.mem_cons.mp hx with rfl | hx
      · omega
      rcases List.mem_cons.mp hx with rfl | hx
      · omega
      rcases List.mem_cons.mp hx with rfl | hx
      · omega
      rcases List.mem_cons.mp hx with rfl | hx
      · omega
      rcases List.mem_cons.mp hx with rfl | hx
      · omega
      · cases hx)
    obtain ⟨bn, rfl⟩ := nat_of hv.1
    refine ⟨l, _, _, _, rfl, rfl, SqL.mk (c4 _ _ (ne_new B3 nl) upd_same), ev, ?_⟩
    have bG4 : Bus b H6 G4 := bG.trans (Bus.of ((((c1.trans c2).trans c3).new nl).trans c4))
    clear ev c1 c2 c3 c4 nl B1 B2 B3
    have hr4 := bG4.tup B6 hr6
    have tg4 := bG4.tabG B6 tg6
    -- due: the row late
    refine ⟨.ref r, rfl, r, _, rfl, .inr (SqT.mk hr4), fun d nd => ?_⟩
    have ndb := ne_new B4 nd
    have ndr : r ≠ d := ne_of_none hr4 nd
    have mz : ((m : Int)).toNat = m := Int.toNat_natCast m
    refine ⟨.int (m : Nat), rfl, (m : Nat), rfl, by omega, by omega, for_range (fun k σ G5 => ∃ y10, ∃ ds : List Int, σ = [some (.ref a), some (.ref c), some (.int (0 + (i : Int))), some (.ref b), some (.int (m : Nat)), some (.ref r), some (.int (0 + (j : Int))), some (.int near), some (.int (bn : Nat)), some (.ref d), y10, y11, y12, y13, y14, y15, y16] ∧ Bus b H6 G5 ∧ Bx G5 b (5005 + 200 * j + 4) ∧ G5 d = some (.lst (ds.map V.int)) ∧ ds.length = m ∧ ∀ p, p < k → p < m → ds[(p + bn) % m]? = rs[p]?) ⟨_, rs, rfl, bG4.new nd, B4.new nd, upd_same, hmr, fun p h1 _ => by omega⟩ ?_ ?_⟩
    · rintro k σ G5 hk ⟨y10, ds, rfl, bG5, B5', hd5, ld, hds⟩
      rw [mz] at hk
      have hr5 := bG5.tup B6 hr6
      have hkr : k < rs.length := by omega
      have hjm : (k + bn) % m < m := Nat.mod_lt _ (by omega)
      refine ⟨.ref r, rfl, _, rfl, r, _, _, .int rs[k], rfl, rfl, SqT.mk hr5, ?_, .ref d, rfl, _, rfl, .int (bn : Nat), rfl, _, _, rfl, rfl, .int (m : Nat), rfl, _, _, rfl, rfl, (show (0 : Int) < (m : Int) by omega), d, _, _, (k + bn) % m, rfl, rfl, hd5, ?_, ?_⟩
      · rw [Int.zero_add]
        exact atI_nat (by rw [List.getElem?_map, List.getElem?_eq_getElem hkr]; rfl)
      · rw [show ((0 : Int) + (k : Int) + (bn : Int)) % (m : Int) = (((k + bn) % m : Nat) : Int) by
          rw [Int.zero_add, Int.natCast_emod, Int.natCast_add]]
        exact ixn (by rw [List.length_map, ld]; exact hjm)
      · have nd6 : H6 d = none := bG4.free B6 ⟨_, B4⟩ nd
        refine ⟨_, ds.set ((k + bn) % m) rs[k], rfl, bus_newer bG5 nd6, B5'.other ndb, by rw [upd_same, List.map_set], by rw [List.length_set, ld], fun p h1 h2 => ?_⟩
        by_cases hp : p = k
        · subst hp
          rw [List.getElem?_set_self (by rw [ld]; exact hjm), List.getElem?_eq_getElem hkr]
        · have hne : (k + bn) % m ≠ (p + bn) % m := fun z => by
            exact hp (mod_inj (by omega) h2 z).symm
          rw [List.getElem?_set_ne hne]
          exact hds p (by omega) h2
    rintro σ G5 ⟨y10, ds, rfl, bG5, B5', hd5, ld, hds⟩
    rw [mz] at hds
    have eds : ds = late rs (bn : Int) := late_of (by rw [ld, hmr]) fun p hp => by
      rw [hmr] at hp ⊢
      exact hds p hp hp
    subst eds
    have hr5 := bG5.tup B6 hr6
    have tg5 := bG5.tabG B6 tg6
    -- late as due
    refine ⟨.ref r, rfl, .int (bn : Nat), rfl, r, rs, _, rfl, hr5, by omega, by omega, tg5, fun G6 p6 s6 n6 h6 => ?_⟩
    refine ⟨.ref d, rfl, d, _, rfl, .inl ⟨SqL.mk (s6.lst hd5), fun e6 ne6 => ?_⟩⟩
    refine ⟨p6, e6, late rs (bn : Int), rfl, (same_upd ne6) _ _ h6, upd_same, by rw [late_len]; omega, fun G7 s7 => ⟨_, rfl, ?_⟩⟩
    refine iteF ?_
    have s57 : Sam G5 G7 := s6.trans (Sam.of ((same_upd ne6).trans s7))
    refine ⟨.ref r, rfl, .int (bn : Nat), rfl, r, rs, _, rfl, s57.tup hr5, by omega, by omega, s57.tabG tg5, fun G8 p8 s8 n8 h8 => ?_⟩
    refine ⟨.ref d, rfl, d, _, rfl, .inl ⟨SqL.mk (s8.lst (s57.lst hd5)), fun e8 ne8 => ?_⟩⟩
    refine ⟨p8, e8, late rs (bn : Int), rfl, (same_upd ne8) _ _ h8, upd_same, by rw [late_len]; omega, fun G9 s9 => ⟨_, rfl, ?_⟩⟩
    refine iteF ?_
    have s59 : Sam G5 G9 := s57.trans (s8.trans (Sam.of ((same_upd ne8).trans s9)))
    have bG9 : Bus b H6 G9 := bG5.trans (Bus.sam s59)
    have B9 : Bx G9 b (5005 + 200 * j + 4) := B5'.sam s59
    clear s57 s6 s7 s8 s9 h6 h8 n6 n8 ne6 ne8 hds hd5
    -- late by two numbers
    refine ⟨.ref b, rfl, .int (bn : Nat), rfl, _, _, rfl, rfl, b, _, _, rfl, B9, by omega, by omega, by omega, fun G10 o c10 B10 l10 u10 => ?_⟩
    have bG10 := bG9.trans (Bus.of c10)
    have hr10 := bG10.tup B6 hr6
    have tg10 := bG10.tabG B6 tg6
    refine ⟨.ref r, rfl, .int (bn : Nat), rfl, r, rs, _, rfl, hr10, by omega, by omega, tg10, fun G11 p11 s11 n11 h11 => ?_⟩
    refine ⟨.int o, rfl, p11, late rs (bn : Int), o, rfl, h11, by rw [late_len]; omega, by rw [late_len]; omega, s11.tabG tg10, fun G12 p12 s12 n12 h12 => ?_⟩
    have s1012 := s11.trans s12
    refine ⟨.ref r, rfl, .int (bn : Nat), rfl, .int o, rfl, _, _, rfl, rfl, r, rs, _, rfl, s1012.tup hr10, by omega, by omega, s1012.tabG tg10, fun G13 p13 s13' n13 h13 => ?_⟩
    rw [late_late] at h12
    refine ⟨p12, p13, late rs ((bn : Int) + o), rfl, s13'.tup h12, h13, by rw [late_len]; omega, fun G14 s14 => ⟨_, rfl, ?_⟩⟩
    refine iteF ?_
    have s1014 : Sam G10 G14 := s1012.trans (s13'.trans (Sam.of s14))
    have bG14 := bG10.trans (Bus.sam s1014)
    have B14 := B10.sam s1014
    clear s1012 s11 s12 s13' s14 h11 h12 h13 n11 n12 n13
    -- bits ahead
    refine ⟨.int (m : Nat), rfl, _, _, rfl, .ref b, rfl, b, 65, _, rfl, B14, by decide, by decide, by omega, fun G15 r15 c15 B15 l15 u15 => ?_⟩
    have hmin : 0 ≤ (if (m : Int) < 64 then (m : Int) else 64) ∧ (if (m : Int) < 64 then (m : Int) else 64) ≤ 64 := by
      split <;> omega
    refine ⟨(show 4 ≤ sizeLine by decide), fun l' nl' => ?_⟩
    refine ⟨.ref b, rfl, b, 4, _, rfl, B15.new nl', by decide, by decide, by omega, fun G16 r16 c16 B16 l16 u16 => ?_⟩
    obtain ⟨v', ev', hv'⟩ := at_menu (Pr := fun v => 0 ≤ v ∧ v ≤ 64) (xs := [0, 1, (if (m : Int) < 64 then (m : Int) else 64), r15]) l16 u16 (fun x hx => by
      rcases List.mem_cons.mp hx with rfl | hx
      · omega
      rcases List.mem_cons.mp hx with rfl | hx
      · omega
      rcases List.mem_cons.mp hx with rfl | hx
      · omega
      rcases List.mem_cons.mp hx with rfl | hx
      · omega
      · cases hx)
    obtain ⟨mn, rfl⟩ := nat_of hv'.1
    refine ⟨l', _, _, _, rfl, rfl, SqL.mk (c16 _ _ (ne_new B15 nl') upd_same), ev', ?_⟩
    have bG16 := bG14.trans (Bus.of ((c15.new nl').trans c16))
    clear ev' c15 c16 nl' B15
    refine ⟨.int (mn : Nat), rfl, mn, rfl, by omega, by omega, fun D nD => ?_⟩
    refine lc_range (PV b D G16 (5005 + 200 * j + 4 + 1 + 1 + 1)) (pv_start nD B16) (fun k G17 hk h17 => ?_) (fun G17 h17 => ?_)
    · refine ⟨rfl, yes_ite ?_⟩
      have h17' := h17
      obtain ⟨_, _, _, _, B17, _⟩ := h17'
      refine ⟨.ref b, rfl, b, 2, _, rfl, B17, by decide, by decide, by omega, fun G18 r18 c18 B18 l18 u18 => ?_⟩
      exact pv_step nD (ne_new B16 nD) h17 c18 B18 (by omega) (by omega)
    obtain ⟨ah, la, _, c17, B17, hD⟩ := h17
    have la : ah.length = mn := by rw [la, Int.toNat_natCast]
    refine ⟨D, _, rfl, .inl ⟨SqL.mk hD, fun ad nad => ?_⟩⟩
    have bG18 := (bG16.trans (Bus.of c17)).new (o := .tup (ah.map V.int)) nad
    have B18 := (B17.new (o := .tup (ah.map V.int)) nad).mono (show _ ≤ 5005 + 200 * j + 100 by rw [Int.toNat_natCast]; omega)
    have had : (upd G17 ad (.tup (ah.map V.int))) ad = some (.tup (ah.map V.int)) := upd_same
    generalize upd G17 ad (.tup (ah.map V.int)) = G18 at *
    have hr18 := bG18.tup B6 hr6
    -- due: ahead and row, cut
    refine ⟨.ref ad, rfl, ad, _, rfl, .inr (SqT.mk had), fun e1 ne1 => ?_⟩
    have had1 := (same_upd ne1 (o := .lst (ah.map V.int))) _ _ had
    refine ⟨.ref r, rfl, r, _, rfl, .inr (SqT.mk ((same_upd ne1) _ _ hr18)), fun e2 ne2 => ?_⟩
    have h1' := (same_upd ne2 (o := .lst (rs.map V.int))) _ _ (show (upd G18 e1 (.lst (ah.map V.int))) e1 = _ from upd_same)
    refine ⟨e1, e2, _, _, rfl, rfl, h1', upd_same, by rw [List.length_map, List.length_map]; omega, fun d2 nd2 => ?_⟩
    rw [← List.map_append]
    have s18 : Same G18 (upd (upd G18 e1 (.lst (ah.map V.int))) e2 (.lst (rs.map V.int))) := (same_upd ne1).trans (same_upd ne2)
    generalize upd (upd G18 e1 (.lst (ah.map V.int))) e2 (.lst (rs.map V.int)) = G19 at *
    refine while_by (fun σ G20 => σ = [some (.ref a), some (.ref c), some (.int (0 + (i : Int))), some (.ref b), some (.int (m : Nat)), some (.ref r), some (.int (0 + (j : Int))), some (.int near), some (.int (bn : Nat)), some (.ref d2), y10, some (.int o), some (.int (mn : Nat)), some (.ref ad), y14, y15, y16] ∧ ∃ k, m ≤ k ∧ k ≤ mn + m ∧ G20 = upd G19 d2 (.lst (((ah ++ rs).take k).map V.int))) (fun _ G20 => match G20 d2 with | some (.lst xs) => xs.length | _ => 0) ⟨rfl, mn + m, by omega, by omega, by rw [List.take_of_length_le (by rw [List.length_append]; omega)]⟩ ?_ ?_
    rotate_left
    · rintro σ G20 Q1 Q2 hQ ⟨v, hv, p, ys, e1, e2, v2, hv2, i1, j1, e3, e4, k, e5, h3⟩
      exact ⟨v, hv, p, ys, e1, e2, v2, hv2, i1, j1, e3, e4, k, e5, hQ _ _ h3⟩
    rintro σ G20 ⟨rfl, k, k1, k2, rfl⟩
    have lk : (((ah ++ rs).take k).map V.int).length = k := by
      rw [List.length_map, List.length_take, List.length_append]
      omega
    refine ⟨.ref d2, rfl, d2, _, rfl, .inl (SqL.mk upd_same), .int (m : Nat), rfl, _, _, rfl, rfl, _, rfl, ite2 (fun e => ?_) (fun e => ?_)⟩
    · have hgt : (m : Int) < ((((ah ++ rs).take k).map V.int).length : Nat) := of_decide_eq_true e
      rw [lk] at hgt
      have hkk : k = (k - 1) + 1 := by omega
      have hlt : k - 1 < (ah ++ rs).length := by
        rw [List.length_append]
        omega
      have esn : ((ah ++ rs).take k).map V.int = ((ah ++ rs).take (k - 1)).map V.int ++ [.int (ah ++ rs)[k - 1]] := by
        conv => lhs; rw [hkk, List.take_add_one, List.getElem?_eq_getElem hlt]
        rw [List.map_append]
        rfl
      refine ⟨.ref d2, rfl, .inl ⟨rfl, _, SqL.mk upd_same⟩, d2, _, .int (ah ++ rs)[k - 1], rfl, rfl, upd_same, ?_, ⟨rfl, k - 1, by omega, by omega, ?_⟩, ?_⟩
      · rw [lk, List.getElem?_map, List.getElem?_take_of_lt (by omega), List.getElem?_eq_getElem hlt]
        rfl
      · rw [esn, List.dropLast_concat]
        funext z
        by_cases hz : z = d2
        · subst hz
          rw [upd_same, upd_same]
        · rw [upd_ne hz, upd_ne hz, upd_ne hz]
      · simp only [upd_same]
        rw [List.length_dropLast, lk]
        omega
    have hle : ¬ (m : Int) < ((((ah ++ rs).take k).map V.int).length : Nat) := fun z => e (decide_eq_true z)
    rw [lk] at hle
    have ek : k = m := by omega
    subst ek
    have s21 : Same G18 (upd G19 d2 (.lst (((ah ++ rs).take k).map V.int))) := s18.trans (same_upd nd2)
    have hd2 : (upd G19 d2 (.lst (((ah ++ rs).take k).map V.int))) d2 = _ := upd_same
    generalize upd G19 d2 (.lst (((ah ++ rs).take k).map V.int)) = G21 at *
    refine ⟨.ref r, rfl, .ref ad, rfl, r, ad, rs, ah, rfl, s21 _ _ hr18, s21 _ _ had, by omega, by omega, fun G22 p22 s22 h22 => ?_⟩
    refine ⟨.ref d2, rfl, d2, _, rfl, .inl ⟨SqL.mk (s22 _ _ hd2), fun e23 ne23 => ?_⟩⟩
    refine ⟨p22, e23, (ah ++ rs).take k, rfl, ?_, upd_same, by rw [List.length_take]; omega, fun G24 s24 => ⟨_, rfl, ?_⟩⟩
    · rw [← hmr]
      exact (same_upd ne23) _ _ h22
    refine iteF ?_
    have s1824 : Same G18 G24 := s21.trans (s22.trans ((same_upd ne23).trans s24))
    refine ⟨.ref r, rfl, (show 0 ≤ sizeLine by decide), fun t25 nt25 => ?_⟩
    refine ⟨r, t25, rs, [], rfl, (same_upd nt25) _ _ (s1824 _ _ hr18), upd_same, by omega, by decide, fun G26 p26 s26 h26 => ?_⟩
    rw [List.nil_append, List.take_length] at h26
    have s1826 : Same G18 G26 := s1824.trans ((same_upd nt25).trans s26)
    refine ⟨.ref r, rfl, p26, r, rs, rfl, h26, s1826 _ _ hr18, by omega, fun G27 s27 => ⟨_, rfl, ?_⟩⟩
    refine iteF ?_
    have bG27 := bG18.trans (Bus.sam (Sam.of (s1826.trans s27)))
    have B27 := B18.same (s1826.trans s27)
    clear s1824 s1826 s27 s26 s24 s22 s21 h22 h26 nt25 ne23
    -- again and again
    have hdiv : 1 ≤ (4096 : Int) / (k : Int) := by
      rw [Int.le_ediv_iff_mul_le (by omega)]
      omega
    have hdiv2 : (k : Int) * ((4096 : Int) / (k : Int)) ≤ 4096 := Int.mul_ediv_self_le (by omega)
    have hmi : 1 ≤ (if (4096 : Int) / (k : Int) < 9 then (4096 : Int) / (k : Int) else 9) ∧ (if (4096 : Int) / (k : Int) < 9 then (4096 : Int) / (k : Int) else 9) ≤ 9 := by
      split <;> omega
    refine ⟨.ref b, rfl, .int (k : Nat), rfl, _, _, rfl, rfl, ⟨by omega, by omega⟩, _, _, rfl, b, _, _, rfl, B27, by omega, by omega, by omega, fun G28 r28 c28 B28 l28 u28 => ⟨_, _, rfl, rfl, ?_⟩⟩
    obtain ⟨tm, etm⟩ := nat_of (show 0 ≤ 1 + r28 by omega)
    have htm : 1 ≤ tm ∧ tm ≤ 9 := by omega
    have bG28 := bG27.trans (Bus.of c28)
    have hr28 := bG28.tup B6 hr6
    refine ⟨Nat.zero_le _, fun d3 nd3 => ?_⟩
    refine ⟨.int (1 + r28), rfl, _, rfl, by omega, by omega, for_range (fun kk σ G29 => ∃ y15, σ = [some (.ref a), some (.ref c), some (.int (0 + (i : Int))), some (.ref b), some (.int (k : Nat)), some (.ref r), some (.int (0 + (j : Int))), some (.int near), some (.int (bn : Nat)), some (.ref d3), y10, some (.int o), some (.int (mn : Nat)), some (.ref ad), some (.int (1 + r28)), y15, y16] ∧ Same G28 G29 ∧ G29 d3 = some (.lst (((List.replicate kk rs).flatten).map V.int))) ⟨_, rfl, same_upd nd3, upd_same⟩ ?_ ?_⟩
    · rintro kk σ G29 hkk ⟨y15, rfl, s29, hd3⟩
      have hkt : kk < tm := by omega
      have hpr : kk * rs.length ≤ 9 * 4096 := Nat.mul_le_mul (by omega) (by omega)
      refine ⟨.ref d3, rfl, .inl ⟨rfl, _, SqL.mk hd3⟩, .ref r, rfl, r, _, rfl, .inr (SqT.mk (s29 _ _ hr28)), fun l3 nl3 => ?_⟩
      refine ⟨d3, l3, _, _, rfl, rfl, (same_upd nl3) _ _ hd3, upd_same, by rw [List.length_map, List.length_map, rep_len]; omega, _, rfl, same_newer (s29.trans (same_upd nl3)) nd3, ?_⟩
      rw [upd_same, rep_succ, List.map_append]
    rintro σ G29 ⟨y15, rfl, s29, hd3⟩
    have etn : (1 + r28).toNat = tm := by omega
    rw [etn] at hd3
    have hmul : rs.length * tm ≤ 9 * 4096 := by
      rw [Nat.mul_comm]
      exact Nat.mul_le_mul (by omega) (by omega)
    refine ⟨.ref r, rfl, .int (1 + r28), rfl, r, rs, tm, (by rw [etm]; rfl), s29 _ _ hr28, by omega, by omega, by omega, fun G30 p30 s30 h30 => ?_⟩
    refine ⟨.ref d3, rfl, d3, _, rfl, .inl ⟨SqL.mk (s30 _ _ hd3), fun e31 ne31 => ?_⟩⟩
    refine ⟨p30, e31, (List.replicate tm rs).flatten, rfl, (same_upd ne31) _ _ h30, upd_same, by rw [rep_len, Nat.mul_comm]; omega, fun G32 s32 => ⟨_, rfl, ?_⟩⟩
    refine iteF ?_
    have s2832 : Same G28 G32 := s29.trans (s30.trans ((same_upd ne31).trans s32))
    exact ⟨_, _, _, _, _, _, _, _, _, _, _, rfl, bG28.trans (Bus.sam (Sam.of s2832)), (B28.same s2832).mono (by omega)⟩
end
def d_round_late : He.DefD := ⟨("round_late", none), "round_late", "round_late", defArgs s_round_late, defBody s_round_late, defScope s_round_late, [], []⟩
def d_behind : He.DefD := ⟨("behind", none), "behind", "behind", defArgs s_behind, defBody s_behind, defScope s_behind, [], []⟩
def d_again : He.DefD := ⟨("again", none), "again", "again", defArgs s_again, defBody s_again, defScope s_again, [], []⟩
def d__law_box : He.DefD := ⟨("_law_box", none), "_law_box", "_law_box", defArgs s__law_box, defBody s__law_box, defScope s__law_box, [], []⟩
def d__law_take : He.DefD := ⟨("_law_take", none), "_law_take", "_law_take", defArgs s__law_take, defBody s__law_take, defScope s__law_take, [], []⟩
def d__law_folded : He.DefD := ⟨("_law_folded", none), "_law_folded", "_law_folded", defArgs s__law_folded, defBody s__law_folded, defScope s__law_folded, [], []⟩
def d__law_row : He.DefD := ⟨("_law_row", none), "_law_row", "_law_row", defArgs s__law_row, defBody s__law_row, defScope s__law_row, [], []⟩
def d__law_long : He.DefD := ⟨("_law_long", none), "_law_long", "_law_long", defArgs s__law_long, defBody s__law_long, defScope s__law_long, [], []⟩
def d__law_same : He.DefD := ⟨("_law_same", none), "_law_same", "_law_same", defArgs s__law_same, defBody s__law_same, defScope s__law_same, [], []⟩
def d_law : He.DefD := ⟨("law", none), "law", "law", defArgs s_law, defBody s_law, defScope s_law, [], []⟩
def hfn : List He.DefD := [d_round_late, d_behind, d_again, d__law_box, d__law_take, d__law_folded, d__law_row, d__law_long, d__law_same, d_law]
def hfa : List He.Fa := [.glo "round_late", .glo "behind", .glo "again", .glo "_law_box", .glo "_law_take", .glo "_law_folded", .glo "_law_row", .glo "_law_long", .glo "_law_same", .glo "law", .free "abs", .free "all", .free "bool", .free "divmod", .free "enumerate", .free "int", .free "isinstance", .free "len", .free "list", .free "max", .free "min", .free "range", .free "str", .free "tuple", .free "zip"]
def htf : List He.Defn := [("round_late", none)]
def hex : PySem.W.Frag → Bool := fun _ => true
abbrev R : PySem.W.OpenRow := PySem.W.OpenLaw.row PySem.Challenge.rw_shareones_k05_late_and_behind
abbrev hk : PySem.W.Hook := He.hookX 4 hfa hfn [] htf hex
def ob (s : PySem.W.SharedT) : He.AlX := He.obsX 4 hfa hfn [] htf hex (HandSHeadRun.getT s)
theorem ob_eq (s : PySem.W.SharedT) : ob s = hk.obs s.abs := He.obsX_eq (HandSHeadRun.getT_eq s)
def loose : List Str := ["round_late", "behind", "again", "_law_box", "_law_take", "_law_folded", "_law_row", "_law_long", "_law_same"]
theorem run (w : World) : HandSHeadRun.RunEq R (PySem.W.view R.prog [11]) hk ob 6000 loose w := by
  intro os
  kernel_rfl
theorem codeAt {K : PySem.W.Frag} {p : He.Defn} : CodeAt K (He.fAd K p) (He.cT K p).1 := fun oc od fd osl lk b e => (He.codeOf_eq lk e).symm
theorem facts {l : PySem.W.OpenLaw} {w : World} {K : PySem.W.Frag} {h : Heap} {mg : Str → Option Value} {f : Addr} (X : K.In h) (G : h.Ns mainGlobals mg) (hfa_ : mg ("law" : Str) = some (.ref f)) (cc : He.SaysX hfa hfn [] htf hex w h K) :
    LamX.LawAtS l w K CX0 3 63 "_law_script" mg f h := by
  have c : He.SaysD hfa hfn K := congrArg (fun z : He.AlT => z.1) cc.t
  obtain ⟨fd_round_late, F_round_late⟩ := c.def_ 0 (d := d_round_late) rfl
  obtain ⟨fd_behind, F_behind⟩ := c.def_ 1 (d := d_behind) rfl
  obtain ⟨fd_again, F_again⟩ := c.def_ 2 (d := d_again) rfl
  obtain ⟨fd__law_box, F__law_box⟩ := c.def_ 3 (d := d__law_box) rfl
  obtain ⟨fd__law_take, F__law_take⟩ := c.def_ 4 (d := d__law_take) rfl
  obtain ⟨fd__law_folded, F__law_folded⟩ := c.def_ 5 (d := d__law_folded) rfl
  obtain ⟨fd__law_row, F__law_row⟩ := c.def_ 6 (d := d__law_row) rfl
  obtain ⟨fd__law_long, F__law_long⟩ := c.def_ 7 (d := d__law_long) rfl
  obtain ⟨fd__law_same, F__law_same⟩ := c.def_ 8 (d := d__law_same) rfl
  obtain ⟨fd_law, F_law⟩ := c.def_ 9 (d := d_law) rfl
  have e := hfa_.symm.trans (He.glo_ok X G (c.fact 9 (f := .glo "law") rfl))
  cases e
  have b := FunD.bindsA (ps := ["_law_script"]) F_law fun _ _ _ _ _ _ us hl => match us, hl with | [_], _ => rfl
  let T : Defs K mg := ⟨_, fd_round_late, F_round_late, (He.glo_ok X G (c.fact 0 (f := .glo "round_late") rfl)), (FunD.bindsN F_round_late fun _ _ _ _ _ _ us hl => match us, hl with | [_, _], _ => rfl), _, fd_behind, F_behind, (He.glo_ok X G (c.fact 1 (f := .glo "behind") rfl)), (FunD.bindsN F_behind fun _ _ _ _ _ _ us hl => match us, hl with | [_, _], _ => rfl), _, fd_again, F_again, (He.glo_ok X G (c.fact 2 (f := .glo "again") rfl)), (FunD.bindsN F_again fun _ _ _ _ _ _ us hl => match us, hl with | [_, _], _ => rfl), _, fd__law_box, F__law_box, (He.glo_ok X G (c.fact 3 (f := .glo "_law_box") rfl)), (FunD.bindsN F__law_box fun _ _ _ _ _ _ us hl => match us, hl with | [_, _], _ => rfl), _, fd__law_take, F__law_take, (He.glo_ok X G (c.fact 4 (f := .glo "_law_take") rfl)), (FunD.bindsN F__law_take fun _ _ _ _ _ _ us hl => match us, hl with | [_, _], _ => rfl), _, fd__law_folded, F__law_folded, (He.glo_ok X G (c.fact 5 (f := .glo "_law_folded") rfl)), (FunD.bindsN F__law_folded fun _ _ _ _ _ _ us hl => match us, hl with | [_, _], _ => rfl), _, fd__law_row, F__law_row, (He.glo_ok X G (c.fact 6 (f := .glo "_law_row") rfl)), (FunD.bindsN F__law_row fun _ _ _ _ _ _ us hl => match us, hl with | [_, _], _ => rfl), _, fd__law_long, F__law_long, (He.glo_ok X G (c.fact 7 (f := .glo "_law_long") rfl)), (FunD.bindsN F__law_long fun _ _ _ _ _ _ us hl => match us, hl with | [_], _ => rfl), _, fd__law_same, F__law_same, (He.glo_ok X G (c.fact 8 (f := .glo "_law_same") rfl)), (FunD.bindsN F__law_same fun _ _ _ _ _ _ us hl => match us, hl with | [_, _], _ => rfl), _, fd_law, F_law, (He.glo_ok X G (c.fact 9 (f := .glo "law") rfl)), (FunD.bindsN F_law fun _ _ _ _ _ _ us hl => match us, hl with | [_], _ => rfl), (He.cT K ("round_late", none)).1, (He.cT K ("round_late", none)).2, codeAt, (He.free_ok X G (c.fact 10 (f := .free "abs") rfl)), (He.free_ok X G (c.fact 11 (f := .free "all") rfl)), (He.free_ok X G (c.fact 12 (f := .free "bool") rfl)), (He.free_ok X G (c.fact 13 (f := .free "divmod") rfl)), (He.free_ok X G (c.fact 14 (f := .free "enumerate") rfl)), (He.free_ok X G (c.fact 15 (f := .free "int") rfl)), (He.free_ok X G (c.fact 16 (f := .free "isinstance") rfl)), (He.free_ok X G (c.fact 17 (f := .free "len") rfl)), (He.free_ok X G (c.fact 18 (f := .free "list") rfl)), (He.free_ok X G (c.fact 19 (f := .free "max") rfl)), (He.free_ok X G (c.fact 20 (f := .free "min") rfl)), (He.free_ok X G (c.fact 21 (f := .free "range") rfl)), (He.free_ok X G (c.fact 22 (f := .free "str") rfl)), (He.free_ok X G (c.fact 23 (f := .free "tuple") rfl)), (He.free_ok X G (c.fact 24 (f := .free "zip") rfl))⟩
  refine ⟨fd_law, htf.map (He.cT K), sp_law T, fun p hp => ?_, fun p hp => ?_, fun p hp => ?_, fun s v => b s [v] rfl, fun H a ns hl _ hH hS => ⟨a, ns, rfl, hS, hl, ?_, fun _ => rfl⟩, fun base _ _ TB => ok_law T ?_⟩
  · obtain ⟨q, hq, rfl⟩ := List.mem_map.mp hp
    exact cc.empty q hq
  · obtain ⟨q, hq, rfl⟩ := List.mem_map.mp hp
    exact cc.out q hq
  · obtain ⟨q, hq, rfl⟩ := List.mem_map.mp hp
    exact PySem.W.codeHd_of_K X (cc.hd q hq)
  · exact ⟨⟨#[], hH _ (List.mem_map.mpr ⟨_, List.mem_cons_self, rfl⟩), trip0⟩, trivial⟩
  · exact ⟨⟨(TB _ (List.mem_map.mpr ⟨_, List.mem_cons_self, rfl⟩)).code, (TB _ (List.mem_map.mpr ⟨_, List.mem_cons_self, rfl⟩)).bm, (TB _ (List.mem_map.mpr ⟨_, List.mem_cons_self, rfl⟩)).gP⟩⟩
end Fq
open PySem PySem.W PySem.Calls PyProof.Rows
set_option maxHeartbeats 0 in
theorem PySem.Challenge.cw_shareones_k05_late_and_behind_holds : PySem.Challenge.rw_shareones_k05_late_and_behind.Holds := by
  w_on; o_law
  refine HandSHeadRun.head_any (r := OpenLaw.row PySem.Challenge.rw_shareones_k05_late_and_behind) (q := view (OpenLaw.row PySem.Challenge.rw_shareones_k05_late_and_behind).prog [11]) (H := Fq.hk) (ob := Fq.ob) (M := 6000) (loose := Fq.loose) (d := HandSHeadRun.topDef (OpenLaw.row PySem.Challenge.rw_shareones_k05_late_and_behind).prog 11) (kwd := []) Fq.ob_eq
    (by kernel_rfl) (fun s => by kernel_rfl) Fq.run (by kernel_rfl) (by kernel_rfl) (by kernel_rfl) (by rfl) (by first | assumption | decide +kernel) (by decide +kernel) ⟨rfl, rfl, rfl, rfl, rfl, by decide +kernel⟩ ?hw ?hc
  case hw => w_witness2
  case hc =>
    refine LamX.walk_ofTsE (l := PySem.Challenge.rw_shareones_k05_late_and_behind) (n := 63) (k := 3) (x := "_law_script") (CX := fun _ => L2.CX0) rfl (by decide) (by kernel_rfl) ⟨rfl, by decide, by decide⟩ ?F (fun _ _ _ _ _ z => z)
    intro w mg fa h Y G hmg0
    obtain ⟨K, KX, c⟩ := Y
    have hmg : mg ("law" : PySem.Str) = some (.ref fa) := by
      have e : (HandSHeadRun.topDef (OpenLaw.row PySem.Challenge.rw_shareones_k05_late_and_behind).prog 11).name = ("law" : PySem.Str) := by kernel_rfl
      rw [← e]
      exact hmg0
    exact ⟨K, KX, Fq.facts KX G hmg c⟩
