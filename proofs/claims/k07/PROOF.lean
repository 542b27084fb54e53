import PyProof.Rows.All
import Wide.All
import OpenK.AllK
import Wide.FinOn
import KE.KStateDown
import Lean
import HandS.ForMost
import HandS.Wide
import HandS.WideBits
import HandS.IsInst
import HandS.Walk
import HandS.Evl
import HandS.Style
import HandS.NoneIn
import HandS.Defaults
import HandS.Head0
import HandS.Head1
import HandS.Head2
import HandS.HeadEnd
import HandS.HeadHook1
import HandS.HeadHook2
import HandS.AnyAll
import HandS.TupAny
import HandS.TupMul
import HandS.Zip
import HandS.HeadHook3
import HandS.HeadHook4
import HandS.HeadWalk
import HandS.EndTab
import PyProof.TupleOfGen
import KE.KNest
import KE.KDictWalk
import HandS.Set
import HandS.Strs
import KE.GoesSet
import KE.GoesMore
import KE.GoesZip
import KE.GoesEnum
import PyProof.GenCompT
import PySem.Challenge.RW_shareones_k07_least_and_greatest_leans
set_option Elab.async false
set_option linter.all false
set_option maxRecDepth 100000
set_option maxHeartbeats 4000000
namespace Fq
open PySem PySem.Spec PyProof.Rows L2
section
variable {P : Program} {w : World} {K : PySem.W.Frag} {mg : Str → Option Value} {base : Heap}
def topS (i : Nat) : Stmt := PySem.Challenge.pw_shareones_k07_least_and_greatest_leans.main.body.getD i (.Pass ⟨0, 0, 0, 0⟩)
abbrev FnP (K : PySem.W.Frag) (x : Str) (st : Stmt) (f : Addr) (fd : FuncData) : Prop := FunD K x x (defArgs st) (defBody st) (defScope st) [] [] f fd
abbrev s_refuse_unlike : Stmt := topS 4
abbrev N_refuse_unlike : List Str := ["rows", "row"]
theorem sc_refuse_unlike : FnScope N_refuse_unlike ["rows"] (defScope s_refuse_unlike) := ⟨rfl, rfl, rfl, by decide +kernel, rfl, by decide +kernel, by decide +kernel⟩
abbrev s_ones : Stmt := topS 5
abbrev N_ones : List Str := ["row"]
theorem sc_ones : FnScope N_ones ["row"] (defScope s_ones) := ⟨rfl, rfl, rfl, by decide +kernel, rfl, by decide +kernel, by decide +kernel⟩
abbrev s_both : Stmt := topS 6
abbrev N_both : List Str := ["one", "other", "a", "b"]
theorem sc_both : FnScope N_both ["one", "other"] (defScope s_both) := ⟨rfl, rfl, rfl, by decide +kernel, rfl, by decide +kernel, by decide +kernel⟩
abbrev s_overlap : Stmt := topS 8
abbrev N_overlap : List Str := ["one", "other"]
theorem sc_overlap : FnScope N_overlap ["one", "other"] (defScope s_overlap) := ⟨rfl, rfl, rfl, by decide +kernel, rfl, by decide +kernel, by decide +kernel⟩
abbrev s_lean : Stmt := topS 9
abbrev N_lean : List Str := ["one", "other"]
theorem sc_lean : FnScope N_lean ["one", "other"] (defScope s_lean) := ⟨rfl, rfl, rfl, by decide +kernel, rfl, by decide +kernel, by decide +kernel⟩
abbrev s_overlap_ends : Stmt := topS 10
abbrev N_overlap_ends : List Str := ["n", "a", "b"]
theorem sc_overlap_ends : FnScope N_overlap_ends ["n", "a", "b"] (defScope s_overlap_ends) := ⟨rfl, rfl, rfl, by decide +kernel, rfl, by decide +kernel, by decide +kernel⟩
abbrev s_lean_ends : Stmt := topS 11
abbrev N_lean_ends : List Str := ["n", "a", "b", "least", "greatest"]
theorem sc_lean_ends : FnScope N_lean_ends ["n", "a", "b"] (defScope s_lean_ends) := ⟨rfl, rfl, rfl, by decide +kernel, rfl, by decide +kernel, by decide +kernel⟩
abbrev s__law_box : Stmt := topS 13
abbrev N__law_box : List Str := ["_law_script", "_law_k", "_law_cell"]
theorem sc__law_box : FnScope N__law_box ["_law_script", "_law_k"] (defScope s__law_box) := ⟨rfl, rfl, rfl, by decide +kernel, rfl, by decide +kernel, by decide +kernel⟩
abbrev s__law_take : Stmt := topS 14
abbrev N__law_take : List Str := ["_law_box_here", "_law_many", "_law_found", "_law_once"]
theorem sc__law_take : FnScope N__law_take ["_law_box_here", "_law_many"] (defScope s__law_take) := ⟨rfl, rfl, rfl, by decide +kernel, rfl, by decide +kernel, by decide +kernel⟩
abbrev s__law_folded : Stmt := topS 15
abbrev N__law_folded : List Str := ["_law_script", "_law_many", "_law_cells", "_law_k", "_law_cell"]
theorem sc__law_folded : FnScope N__law_folded ["_law_script", "_law_many"] (defScope s__law_folded) := ⟨rfl, rfl, rfl, by decide +kernel, rfl, by decide +kernel, by decide +kernel⟩
abbrev s__law_same : Stmt := topS 16
abbrev N__law_same : List Str := ["_law_found", "_law_due", "_law_one", "_law_other"]
theorem sc__law_same : FnScope N__law_same ["_law_found", "_law_due"] (defScope s__law_same) := ⟨rfl, rfl, rfl, by decide +kernel, rfl, by decide +kernel, by decide +kernel⟩
abbrev s__law_all : Stmt := topS 17
abbrev N__law_all : List Str := ["_law_long", "_law_many", "_law_found", "_law_place", "_law_row"]
theorem sc__law_all : FnScope N__law_all ["_law_long", "_law_many"] (defScope s__law_all) := ⟨rfl, rfl, rfl, by decide +kernel, rfl, by decide +kernel, by decide +kernel⟩
abbrev s__law_short_right : Stmt := topS 18
abbrev N__law_short_right : List Str := ["_law_box_here", "_law_long", "_law_a", "_law_b", "_law_one", "_law_met", "_law_due", "_law_turn", "_law_other", "_law_x", "_law_y"]
theorem sc__law_short_right : FnScope N__law_short_right ["_law_box_here"] (defScope s__law_short_right) := ⟨rfl, rfl, rfl, by decide +kernel, rfl, by decide +kernel, by decide +kernel⟩
abbrev s__law_long_right : Stmt := topS 19
abbrev N__law_long_right : List Str := ["_law_box_here", "_law_long", "_law_few", "_law_some", "_law_a", "_law_b", "_law_one", "_law_near", "_law_far"]
theorem sc__law_long_right : FnScope N__law_long_right ["_law_box_here"] (defScope s__law_long_right) := ⟨rfl, rfl, rfl, by decide +kernel, rfl, by decide +kernel, by decide +kernel⟩
abbrev s_law : Stmt := topS 20
abbrev N_law : List Str := ["_law_script", "_law_cells", "_law_k", "_law_box_here", "_law_turn"]
theorem sc_law : FnScope N_law ["_law_script"] (defScope s_law) := ⟨rfl, rfl, rfl, by decide +kernel, rfl, by decide +kernel, by decide +kernel⟩
/-- the code object of the def at f is the one at c -/
def CodeAt (K : PySem.W.Frag) (f c : Addr) : Prop := ∀ (oc : Value) (od : Option Addr) (fd : FuncData) (osl : Array (Option Value)), K.lookup f = some ⟨oc, od, .func fd, osl⟩ → ∀ b, fd.code = .ref b → b = c
theorem okC {P : Program} {w : World} {K : PySem.W.Frag} {mg : Str → Option Value} {base : Heap} {x : Str} {st : Stmt} {f c : Addr} {fd : FuncData} {N ps : List Str} {k : Nat} {sp : Sp} (F : FnP K x st f fd) (hc : CodeAt K f c) (S : FnScope N ps (defScope st)) (len : ∀ vs H Q E, sp vs H Q E → vs.length = ps.length)
    (hb : ∀ (A : Around) (outer : List Env) (s : Shared) (H : Hp) (vs : List V) (Q : VK) (E : XK), Room k (A.deeper (envOfC x (defScope st) s.heap.objs.size f (.ref c))) → sp vs H Q E →
      ∃ t, PSs (cxOf CX0 P w K mg base N x (defScope st) f (.ref c) A outer s H E) (defBody st) t ∧ t { nx := fun _ H' => Q .non H', rt := Q } (L2.start N vs) H) : FnOk P w K mg base CX0 (k + 1) f fd ps sp := by
  obtain ⟨oc, od, dV, kV, doc, pm, an, cdv, ct, osl, rfl, lk, hcd, _, _⟩ := F.ex
  obtain ⟨b, rfl⟩ := He.codeIn_ref hcd
  have e := hc oc od _ osl lk b rfl
  subst e
  exact fn_of lk hcd S len hb
structure Defs (K : PySem.W.Frag) (mg : Str → Option Value) where
  f_refuse_unlike : Addr
  fd_refuse_unlike : FuncData
  F_refuse_unlike : FnP K "refuse_unlike" s_refuse_unlike f_refuse_unlike fd_refuse_unlike
  g_refuse_unlike : mg "refuse_unlike" = some (.ref f_refuse_unlike)
  b_refuse_unlike : Binds K fd_refuse_unlike ["rows"] []
  f_ones : Addr
  fd_ones : FuncData
  F_ones : FnP K "ones" s_ones f_ones fd_ones
  g_ones : mg "ones" = some (.ref f_ones)
  b_ones : Binds K fd_ones ["row"] []
  f_both : Addr
  fd_both : FuncData
  F_both : FnP K "both" s_both f_both fd_both
  g_both : mg "both" = some (.ref f_both)
  b_both : Binds K fd_both ["one", "other"] []
  f_overlap : Addr
  fd_overlap : FuncData
  F_overlap : FnP K "overlap" s_overlap f_overlap fd_overlap
  g_overlap : mg "overlap" = some (.ref f_overlap)
  b_overlap : Binds K fd_overlap ["one", "other"] []
  f_lean : Addr
  fd_lean : FuncData
  F_lean : FnP K "lean" s_lean f_lean fd_lean
  g_lean : mg "lean" = some (.ref f_lean)
  b_lean : Binds K fd_lean ["one", "other"] []
  f_overlap_ends : Addr
  fd_overlap_ends : FuncData
  F_overlap_ends : FnP K "overlap_ends" s_overlap_ends f_overlap_ends fd_overlap_ends
  g_overlap_ends : mg "overlap_ends" = some (.ref f_overlap_ends)
  b_overlap_ends : Binds K fd_overlap_ends ["n", "a", "b"] []
  f_lean_ends : Addr
  fd_lean_ends : FuncData
  F_lean_ends : FnP K "lean_ends" s_lean_ends f_lean_ends fd_lean_ends
  g_lean_ends : mg "lean_ends" = some (.ref f_lean_ends)
  b_lean_ends : Binds K fd_lean_ends ["n", "a", "b"] []
  f__law_box : Addr
  fd__law_box : FuncData
  F__law_box : FnP K "_law_box" s__law_box f__law_box fd__law_box
  g__law_box : mg "_law_box" = some (.ref f__law_box)
  b__law_box : Binds K fd__law_box ["_law_script", "_law_k"] []
  f__law_take : Addr
  fd__law_take : FuncData
  F__law_take : FnP K "_law_take" s__law_take f__law_take fd__law_take
  g__law_take : mg "_law_take" = some (.ref f__law_take)
  b__law_take : Binds K fd__law_take ["_law_box_here", "_law_many"] []
  f__law_folded : Addr
  fd__law_folded : FuncData
  F__law_folded : FnP K "_law_folded" s__law_folded f__law_folded fd__law_folded
  g__law_folded : mg "_law_folded" = some (.ref f__law_folded)
  b__law_folded : Binds K fd__law_folded ["_law_script", "_law_many"] []
  f__law_same : Addr
  fd__law_same : FuncData
  F__law_same : FnP K "_law_same" s__law_same f__law_same fd__law_same
  g__law_same : mg "_law_same" = some (.ref f__law_same)
  b__law_same : Binds K fd__law_same ["_law_found", "_law_due"] []
  f__law_all : Addr
  fd__law_all : FuncData
  F__law_all : FnP K "_law_all" s__law_all f__law_all fd__law_all
  g__law_all : mg "_law_all" = some (.ref f__law_all)
  b__law_all : Binds K fd__law_all ["_law_long", "_law_many"] []
  f__law_short_right : Addr
  fd__law_short_right : FuncData
  F__law_short_right : FnP K "_law_short_right" s__law_short_right f__law_short_right fd__law_short_right
  g__law_short_right : mg "_law_short_right" = some (.ref f__law_short_right)
  b__law_short_right : Binds K fd__law_short_right ["_law_box_here"] []
  f__law_long_right : Addr
  fd__law_long_right : FuncData
  F__law_long_right : FnP K "_law_long_right" s__law_long_right f__law_long_right fd__law_long_right
  g__law_long_right : mg "_law_long_right" = some (.ref f__law_long_right)
  b__law_long_right : Binds K fd__law_long_right ["_law_box_here"] []
  f_law : Addr
  fd_law : FuncData
  F_law : FnP K "law" s_law f_law fd_law
  g_law : mg "law" = some (.ref f_law)
  b_law : Binds K fd_law ["_law_script"] []
  c_both : Addr
  P_both : Addr
  k_both : CodeAt K f_both c_both
  m_ValueError : mg "ValueError" = none
  m_abs : mg "abs" = none
  m_all : mg "all" = none
  m_bool : mg "bool" = none
  m_divmod : mg "divmod" = none
  m_enumerate : mg "enumerate" = none
  m_int : mg "int" = none
  m_isinstance : mg "isinstance" = none
  m_len : mg "len" = none
  m_list : mg "list" = none
  m_max : mg "max" = none
  m_min : mg "min" = none
  m_range : mg "range" = none
  m_str : mg "str" = none
  m_sum : mg "sum" = none
  m_tuple : mg "tuple" = none
  m_zip : mg "zip" = none
structure Tabs {K : PySem.W.Frag} {mg : Str → Option Value} (T : Defs K mg) (base : Heap) : Prop where
  t_both : GxR.TabB base mg T.c_both T.P_both
theorem bt_ValueError : bootBuiltins "ValueError" = some (.type "ValueError") := by decide +kernel
theorem bt_abs : bootBuiltins "abs" = some (.builtin "abs") := by decide +kernel
theorem bt_all : bootBuiltins "all" = some (.builtin "all") := by decide +kernel
theorem bt_bool : bootBuiltins "bool" = some (.type "bool") := by decide +kernel
theorem bt_divmod : bootBuiltins "divmod" = some (.builtin "divmod") := by decide +kernel
theorem bt_enumerate : bootBuiltins "enumerate" = some (.type "enumerate") := by decide +kernel
theorem bt_int : bootBuiltins "int" = some (.type "int") := by decide +kernel
theorem bt_isinstance : bootBuiltins "isinstance" = some (.builtin "isinstance") := by decide +kernel
theorem bt_len : bootBuiltins "len" = some (.builtin "len") := by decide +kernel
theorem bt_list : bootBuiltins "list" = some (.type "list") := by decide +kernel
theorem bt_max : bootBuiltins "max" = some (.builtin "max") := by decide +kernel
theorem bt_min : bootBuiltins "min" = some (.builtin "min") := by decide +kernel
theorem bt_range : bootBuiltins "range" = some (.type "range") := by decide +kernel
theorem bt_str : bootBuiltins "str" = some (.type "str") := by decide +kernel
theorem bt_sum : bootBuiltins "sum" = some (.builtin "sum") := by decide +kernel
theorem bt_tuple : bootBuiltins "tuple" = some (.type "tuple") := by decide +kernel
theorem bt_zip : bootBuiltins "zip" = some (.type "zip") := by decide +kernel
def frT (t b : Int) : Int := (b.sign * t) / (Int.gcd t b : Int)
def frB (t b : Int) : Int := (b.natAbs : Int) / (Int.gcd t b : Int)
theorem fr_ex (t : Int) {b : Int} (hb : b ≠ 0) : ∃ (g : Nat) (x y : Int), 0 < g ∧ Int.gcd t b = g ∧ t = (g : Int) * x ∧ b = (g : Int) * y ∧ y ≠ 0 ∧ Int.gcd x y = 1 := by
  have hg : 0 < Int.gcd t b := Int.gcd_pos_of_ne_zero_right t hb
  obtain ⟨x, hx⟩ := Int.gcd_dvd_left t b
  obtain ⟨y, hy⟩ := Int.gcd_dvd_right t b
  refine ⟨Int.gcd t b, x, y, hg, rfl, hx, hy, fun e => hb (by rw [hy, e, Int.mul_zero]), ?_⟩
  generalize eg : Int.gcd t b = g at hg hx hy
  have e : g = g * Int.gcd x y := by
    rw [← eg]
    conv => lhs; rw [hx, hy, Int.gcd_mul_left]
    rw [Int.natAbs_natCast, eg]
  exact Nat.eq_of_mul_eq_mul_left hg (by rw [← e, Nat.mul_one])
theorem sgn {b : Int} {g : Nat} {y : Int} (hg : 0 < g) (hb : b = (g : Int) * y) : b.sign = y.sign := by
  rw [hb, Int.sign_mul, Int.sign_eq_one_of_pos (by omega), Int.one_mul]
theorem fr_vals {t b : Int} {g : Nat} {x y : Int} (hg : 0 < g) (eg : Int.gcd t b = g) (ht : t = (g : Int) * x) (hb : b = (g : Int) * y) : frT t b = y.sign * x ∧ frB t b = (y.natAbs : Int) := by
  have g0 : (g : Int) ≠ 0 := by omega
  constructor
  · unfold frT
    rw [eg, sgn hg hb, ht, show y.sign * ((g : Int) * x) = (g : Int) * (y.sign * x) by rw [Int.mul_left_comm]]
    exact Int.mul_ediv_cancel_left _ g0
  · unfold frB
    rw [eg, hb, Int.natAbs_mul, Int.natAbs_natCast, Int.natCast_mul]
    exact Int.mul_ediv_cancel_left _ g0
theorem sgn_abs {y : Int} (hy : y ≠ 0) : y.sign.natAbs = 1 := Int.natAbs_sign_of_ne_zero hy
theorem fr_pos (t : Int) {b : Int} (hb : b ≠ 0) : 0 < frB t b := by
  obtain ⟨g, x, y, hg, eg, ht, hy, hy0, h1⟩ := fr_ex t hb
  rw [(fr_vals hg eg ht hy).2]
  omega
theorem fr_gcd (t : Int) {b : Int} (hb : b ≠ 0) : Int.gcd (frT t b) (frB t b) = 1 := by
  obtain ⟨g, x, y, hg, eg, ht, hy, hy0, h1⟩ := fr_ex t hb
  rw [(fr_vals hg eg ht hy).1, (fr_vals hg eg ht hy).2]
  show Nat.gcd (y.sign * x).natAbs ((y.natAbs : Int)).natAbs = 1
  rw [Int.natAbs_mul, sgn_abs hy0, Nat.one_mul, Int.natAbs_natCast]
  exact h1
theorem fr_eq (t : Int) {b : Int} (hb : b ≠ 0) : frT t b * b = t * frB t b := by
  obtain ⟨g, x, y, hg, eg, ht, hy, hy0, h1⟩ := fr_ex t hb
  rw [(fr_vals hg eg ht hy).1, (fr_vals hg eg ht hy).2]
  rw [ht, hy]
  have e : y * y.sign = (y.natAbs : Int) := Int.mul_sign_self y
  rw [← e]
  simp only [Int.mul_comm, Int.mul_left_comm, Int.mul_assoc]
theorem fr_absT (t : Int) {b : Int} (hb : b ≠ 0) : (frT t b).natAbs ≤ t.natAbs := by
  obtain ⟨g, x, y, hg, eg, ht, hy, hy0, h1⟩ := fr_ex t hb
  rw [(fr_vals hg eg ht hy).1, ht, Int.natAbs_mul, sgn_abs hy0, Nat.one_mul, Int.natAbs_mul, Int.natAbs_natCast]
  exact Nat.le_mul_of_pos_left _ hg
theorem fr_absB (t : Int) {b : Int} (hb : b ≠ 0) : (frB t b).natAbs ≤ b.natAbs := by
  obtain ⟨g, x, y, hg, eg, ht, hy, hy0, h1⟩ := fr_ex t hb
  rw [(fr_vals hg eg ht hy).2, hy, Int.natAbs_mul, Int.natAbs_natCast, Int.natAbs_natCast]
  exact Nat.le_mul_of_pos_left _ hg
theorem fr_negT (t b : Int) : frT (-t) (-b) = frT t b := by
  unfold frT
  rw [Int.sign_neg, Int.neg_mul_neg, Int.gcd_neg, Int.neg_gcd]
theorem fr_negB (t b : Int) : frB (-t) (-b) = frB t b := by
  unfold frB
  rw [Int.natAbs_neg, Int.gcd_neg, Int.neg_gcd]
/-- what the program's two ways reckon -/
theorem fd_pos {g : Nat} {x : Int} (hg : 0 < g) : ((g : Int) * x).fdiv (g : Int) = x := by
  rw [Int.fdiv_eq_ediv_of_nonneg _ (by omega)]
  exact Int.mul_ediv_cancel_left _ (by omega)
theorem fd_neg {g : Nat} {x : Int} (hg : 0 < g) : ((g : Int) * x).fdiv (-(g : Int)) = -x := by
  rw [show (g : Int) * x = -(g : Int) * (-x) by rw [Int.neg_mul_neg]]
  exact Int.mul_fdiv_cancel_left _ (by omega)
theorem fr_lt (t : Int) {b : Int} (hb : b < 0) : t.fdiv (-(Int.gcd t b : Int)) = frT t b ∧ b.fdiv (-(Int.gcd t b : Int)) = frB t b := by
  obtain ⟨g, x, y, hg, eg, ht, hy, hy0, h1⟩ := fr_ex t (show b ≠ 0 by omega)
  rw [(fr_vals hg eg ht hy).1, (fr_vals hg eg ht hy).2, eg]
  have yn : y < 0 := by
    rw [hy] at hb
    exact Int.neg_of_mul_neg_right hb (by omega)
  constructor
  · conv => lhs; rw [ht]
    rw [fd_neg hg, Int.sign_eq_neg_one_of_neg yn]
    omega
  · conv => lhs; rw [hy]
    rw [fd_neg hg]
    omega
theorem fr_ge (t : Int) {b : Int} (hb : 0 < b) : t.fdiv (Int.gcd t b : Int) = frT t b ∧ b.fdiv (Int.gcd t b : Int) = frB t b := by
  obtain ⟨g, x, y, hg, eg, ht, hy, hy0, h1⟩ := fr_ex t (show b ≠ 0 by omega)
  rw [(fr_vals hg eg ht hy).1, (fr_vals hg eg ht hy).2, eg]
  have yn : 0 < y := by
    rw [hy] at hb
    exact Int.pos_of_mul_pos_right hb (by omega)
  constructor
  · conv => lhs; rw [ht]
    rw [fd_pos hg, Int.sign_eq_one_of_pos yn]
    omega
  · conv => lhs; rw [hy]
    rw [fd_pos hg]
    omega
/-! sizes -/
def S (n : Nat) (x : Int) : Prop := x.natAbs < 2 ^ n
theorem S.mono {n m : Nat} {x : Int} (h : S n x) (l : n ≤ m) : S m x := Nat.lt_of_lt_of_le h (Nat.pow_le_pow_right (by decide) l)
theorem S.mul {n m : Nat} {x y : Int} (h : S n x) (k : S m y) : S (n + m) (x * y) := by
  unfold S at *
  rw [Int.natAbs_mul, Nat.pow_add]
  exact Nat.mul_lt_mul'' h k
theorem S.add {n : Nat} {x y : Int} (h : S n x) (k : S n y) : S (n + 1) (x + y) := by
  unfold S at *
  rw [Nat.pow_succ]
  omega
theorem S.sub {n : Nat} {x y : Int} (h : S n x) (k : S n y) : S (n + 1) (x - y) := by
  unfold S at *
  rw [Nat.pow_succ]
  omega
theorem S.frT {n : Nat} {t b : Int} (h : S n t) (hb : b ≠ 0) : S n (frT t b) := Nat.lt_of_le_of_lt (fr_absT t hb) h
theorem S.frB {n : Nat} {t b : Int} (h : S n b) (hb : b ≠ 0) : S n (frB t b) := Nat.lt_of_le_of_lt (fr_absB t hb) h
theorem abs_eq (i : Int) : (if i < 0 then -i else i) = (i.natAbs : Int) := by
  split <;> omega
/-! the same rules with the written part by its name: for the inside of comprehensions -/
theorem pg_tupK {X : Cx} {K : PySem.W.Frag} {es : List Expr} {k n : Nat} {pos : Pos} {t : TGs} (h : X.K = K) (hc : X.calm = true) (hg : PGs X es t) (hn : (assignEach es X.env).length = n := by rfl) (hst : (assignEach es X.env).findIdx? (·.1) = none := by rfl) : PG X (.Tuple es k pos) (gTup K n t) := by
  subst h
  exact pg_tup hc hg hn hst
theorem isiK {X : Cx} {K : PySem.W.Frag} (h : X.K = K) : CallR X (.builtin "isinstance") (rIsi K) := by
  subst h
  exact call_isi
theorem ixlK {X : Cx} {K : PySem.W.Frag} (h : X.K = K) : IxR X (rIxL K) := by
  subst h
  exact ix_list
theorem ixtK {X : Cx} {K : PySem.W.Frag} (h : X.K = K) : IxR X (rIxT K) := by
  subst h
  exact ix_tup
theorem lenK {X : Cx} {K : PySem.W.Frag} (h : X.K = K) : CallR X (.builtin "len") (fun xs H Q => ∃ p ys, xs = [.ref p] ∧ (SqL K H p ys ∨ SqT K H p ys) ∧ Q (.int ys.length) H) := by
  subst h
  exact call_len_seq
theorem sumK {X : Cx} {K : PySem.W.Frag} (h : X.K = K) (hc : X.calm = true) : CallR X (.builtin "sum") (rSum K) := by
  subst h
  exact cr_sum hc
theorem yes_ite {σ : L2.St} {H : Hp} {A B : Hp → Prop} (h : A H) : tYes σ H (fun b H3 => if b = true then A H3 else B H3) := by
  show if true = true then A H else B H
  rw [if_pos rfl]
  exact h
/-! heaps -/
theorem same_upd {H : Hp} {p : Addr} {o : HO} (h : H p = none) : Same H (upd H p o) := fun b x e => by
  rw [upd_ne (ne_of_none e h)]
  exact e
def But (p : Addr) (H H' : Hp) : Prop := ∀ b o, b ≠ p → H b = some o → H' b = some o
theorem But.trans {p : Addr} {H H1 H2 : Hp} (a : But p H H1) (b : But p H1 H2) : But p H H2 := fun c o n e => b c o n (a c o n e)
theorem But.refl (p : Addr) (H : Hp) : But p H H := fun _ _ _ e => e
theorem But.put {p : Addr} {H H' : Hp} {o : HO} (a : But p H H') : But p H (L2.upd H' p o) := fun c x n e => by
  rw [upd_ne n]
  exact a c x n e
theorem same_but {p : Addr} {H H' : Hp} (a : Same H H') : But p H H' := fun c x _ e => a c x e
theorem But.new {p q : Addr} {H H' : Hp} {o : HO} (a : But p H H') (n : H' q = none) : But p H (upd H' q o) := fun c x hn e => by
  have e2 := a c x hn e
  rw [upd_ne (ne_of_none e2 n)]
  exact e2
/-- objects made since H may change: what H has stays -/
theorem same_newer {H H' : Hp} {q : Addr} {o : HO} (a : Same H H') (n : H q = none) : Same H (upd H' q o) := fun c x e => by
  rw [upd_ne (ne_of_none e n)]
  exact a c x e
theorem But.same {p : Addr} {H H1 H2 : Hp} (n : H p = none) (a : Same H H1) (b : But p H1 H2) : Same H H2 := fun c x e =>
  b c x (ne_of_none e n) (a c x e)
/-- the box: a rest, a begin, how often -/
def Bx (H : Hp) (p : Addr) (n : Nat) : Prop := ∃ a b c : Int, H p = some (.lst [.int a, .int b, .int c]) ∧ 0 ≤ a ∧ 0 ≤ b ∧ b < 2147483647 ∧ 0 ≤ c ∧ c ≤ n
theorem Bx.same {H H' : Hp} {p : Addr} {n : Nat} (h : Bx H p n) (s : Same H H') : Bx H' p n := by
  obtain ⟨a, b, c, hp, r⟩ := h
  exact ⟨a, b, c, s _ _ hp, r⟩
theorem Bx.mono {H : Hp} {p : Addr} {n m : Nat} (h : Bx H p n) (l : n ≤ m) : Bx H p m := by
  obtain ⟨a, b, c, hp, h1, h2, h3, h4, h5⟩ := h
  exact ⟨a, b, c, hp, h1, h2, h3, h4, by omega⟩
theorem Bx.new {H : Hp} {p q : Addr} {n : Nat} {o : HO} (h : Bx H p n) (nq : H q = none) : Bx (L2.upd H q o) p n := h.same (same_upd nq)
theorem Bx.ne_tup {H : Hp} {p q : Addr} {n : Nat} {xs : List V} (h : Bx H p n) (e : H q = some (.tup xs)) : q ≠ p := by
  obtain ⟨a, b, c, hp, _⟩ := h
  exact ne_of e hp (fun z => by cases z)
/-- an item of a menu of numbers -/
theorem at_menu {Pr : Int → Prop} {xs : List Int} {r : Int} (h0 : 0 ≤ r) (h1 : r < xs.length) (hx : ∀ x, x ∈ xs → Pr x) : ∃ v, atI (xs.map V.int) r = some (V.int v) ∧ Pr v := by
  obtain ⟨j, rfl⟩ := Int.eq_ofNat_of_zero_le h0
  have hj : j < xs.length := by omega
  refine ⟨xs[j], atI_nat (by rw [List.getElem?_map, List.getElem?_eq_getElem hj]; rfl), hx _ (List.getElem_mem hj)⟩
theorem SqL.mk {K : PySem.W.Frag} {H : Hp} {a : Addr} {xs : List V} (h : H a = some (.lst xs)) : SqL K H a xs := .inl (.inl h)
theorem SqT.mk {K : PySem.W.Frag} {H : Hp} {a : Addr} {xs : List V} (h : H a = some (.tup xs)) : SqT K H a xs := .inl (.inl h)
theorem same_tup {K : PySem.W.Frag} {H H' : Hp} {a : Addr} {xs : List V} (e : Same H H') (h : SqT K H a xs) : SqT K H' a xs := by
  rcases h with (h | ⟨o, h⟩) | h
  · exact .inl (.inl (e _ _ h))
  · exact .inl (.inr ⟨o, e _ _ h⟩)
  · exact .inr h
theorem ixn {n j : Nat} (hj : j < n) : ixN n (j : Int) = some j := by
  unfold ixN
  rw [if_pos (by omega), if_pos (by omega)]
  simp
theorem cdivP {a m : Int} (h0 : 0 < m) (h1 : m < 2 ^ 60) : CDivP a m := ⟨h0, PyProof.noPylong_of_log2 (wide_div (i := a) (b := 60) h0 (by omega) (by decide) (by decide)).2⟩
theorem i01 {c : Prop} [Decidable c] : -(2 ^ 64) < (if c then (1 : Int) else 0) ∧ (if c then (1 : Int) else 0) < 2 ^ 64 := by
  split <;> decide
theorem i01n {c : Prop} [Decidable c] : 0 ≤ (if c then (1 : Int) else 0) := by
  split <;> decide
theorem absn (i : Int) : 0 ≤ (if i < 0 then -i else i) := by
  split <;> omega
/-! the box of a cell -/
def sp__law_box (K : PySem.W.Frag) : Sp := fun vs H Q _ => ∃ (a : Addr) (ns : List Int) (k : Nat), vs = [.ref a, .int (k : Nat)] ∧ SqL K H a (ns.map V.int) ∧ k < 1000 ∧
  ∀ H' p, Same H H' → H p = none → Bx H' p 0 → Q (.ref p) H'
theorem ok__law_box (T : Defs K mg) (TT : Tabs T base) : FnOk P w K mg base CX0 1 T.f__law_box T.fd__law_box ["_law_script", "_law_k"] (sp__law_box K) := by
  refine T.F__law_box.ok sc__law_box (fun vs H Q E h => ?_) (fun cdv A outer s H vs Q E hr h => ?_)
  · obtain ⟨a, ns, k, rfl, hS, hk, q⟩ := h
    rfl
  · obtain ⟨a, ns, k, rfl, hS, hk, q⟩ := h
    refine ⟨_, PSs.nox (pss_cons (ps_set (i := 2) sc__law_box.nd rfl (.inl rfl) pe_int)
    (pss_cons (ps_if (pt_cmpR op_lt (pv 1) (pe_callB call_len_seq (by rfl) T.m_len bt_len (pa_cons (pv 0) pa_nil)) (nomark _)) (pss_one (ps_set (i := 2) sc__law_box.nd rfl (.inl rfl) (pe_ix ix_list (pv 0) (pv 1) (fun _ _ => rfl)))) pss_nil)
    (pss_one (ps_ret (pe_lst (pa_cons (pe_op op_mul (pe_callB call_abs (by rfl) T.m_abs bt_abs (pa_cons (pv 2) pa_nil)) (pe_callTy call_int1 (by rfl) T.m_int bt_int (pa_cons (pe_cmpR op_ge (pe_callB call_abs (by rfl) T.m_abs bt_abs (pa_cons (pv 2) pa_nil)) (pe_op op_pow pe_int pe_int) (nomark _)) pa_nil))) (pa_cons (pe_op op_mod (pe_op op_add (pv 2) (pe_op op_mul (pe_op op_mul pe_int (pv 1)) (pv 1))) pe_int) (pa_cons pe_int pa_nil)))))))), ?_⟩
    refine ⟨.int k, rfl, .ref a, rfl, a, _, rfl, .inl hS, _, _, rfl, rfl, _, rfl, ite2 (fun e => ?_) (fun e => ?_)⟩
    · have hl : (k : Int) < ((ns.map V.int).length : Nat) := of_decide_eq_true e
      rw [List.length_map] at hl
      have hj : k < ns.length := by omega
      refine ⟨.ref a, rfl, .int k, rfl, a, _, _, .int ns[k], rfl, rfl, hS, atI_nat (by rw [List.getElem?_map, List.getElem?_eq_getElem hj]; rfl), ?_⟩
      refine ⟨_, rfl, _, rfl, _, rfl, _, rfl, _, _, rfl, rfl, ⟨by decide, by decide, by decide⟩, _, _, rfl, rfl, .inr ⟨_, rfl, _, _, rfl, rfl, .inr i01, _, rfl, .int k, rfl, _, _, rfl, rfl, .inl ⟨by decide, by decide⟩, .int k, rfl, _, _, rfl, rfl, .inr ⟨by omega, by omega⟩, _, _, rfl, rfl, _, _, rfl, rfl, (show (0 : Int) < 2147483647 by decide), (show 3 ≤ sizeLine by decide), fun p np => ?_⟩⟩
      refine q _ p (same_upd np) np ⟨_, _, _, upd_same, ?_, Int.emod_nonneg _ (by decide), Int.emod_lt_of_pos _ (by decide), Int.le_refl 0, Int.le_refl 0⟩
      exact Int.mul_nonneg (absn _) i01n
    · refine ⟨_, rfl, _, rfl, _, rfl, _, rfl, _, _, rfl, rfl, ⟨by decide, by decide, by decide⟩, _, _, rfl, rfl, .inr ⟨_, rfl, _, _, rfl, rfl, .inr i01, _, rfl, .int k, rfl, _, _, rfl, rfl, .inl ⟨by decide, by decide⟩, .int k, rfl, _, _, rfl, rfl, .inr ⟨by omega, by omega⟩, _, _, rfl, rfl, _, _, rfl, rfl, (show (0 : Int) < 2147483647 by decide), (show 3 ≤ sizeLine by decide), fun p np => ?_⟩⟩
      refine q _ p (same_upd np) np ⟨_, _, _, upd_same, ?_, Int.emod_nonneg _ (by decide), Int.emod_lt_of_pos _ (by decide), Int.le_refl 0, Int.le_refl 0⟩
      exact Int.mul_nonneg (absn _) i01n
/-! one number taken -/
def sp__law_take (K : PySem.W.Frag) : Sp := fun vs H Q _ => ∃ (p : Addr) (m : Int) (n : Nat), vs = [.ref p, .int m] ∧ Bx H p n ∧ 0 < m ∧ m < 2 ^ 60 ∧ n < 1000000000000 ∧
  ∀ H' r, But p H H' → Bx H' p (n + 1) → 0 ≤ r → r < m → Q (.int r) H'
theorem ok__law_take (T : Defs K mg) (TT : Tabs T base) : FnOk P w K mg base CX0 1 T.f__law_take T.fd__law_take ["_law_box_here", "_law_many"] (sp__law_take K) := by
  refine T.F__law_take.ok sc__law_take (fun vs H Q E h => ?_) (fun cdv A outer s H vs Q E hr h => ?_)
  · obtain ⟨p, m, n, rfl, ⟨a, b, c, hp, ha, hb, hb2, hc, hc2⟩, h0, h1, hn, q⟩ := h
    rfl
  · obtain ⟨p, m, n, rfl, ⟨a, b, c, hp, ha, hb, hb2, hc, hc2⟩, h0, h1, hn, q⟩ := h
    refine ⟨_, PSs.nox (pss_cons (ps_if (pt_cmpR op_gt (pe_ix ix_list (pv 0) pe_int (fun _ _ => rfl)) pe_int (nomark _)) (pss_cons (ps_asg (pe_callB call_divmodW (by rfl) T.m_divmod bt_divmod (pa_cons (pe_ix ix_list (pv 0) pe_int (fun _ _ => rfl)) (pa_cons (pv 1) pa_nil))) (pg_tup rfl (pgs_cons (pg_sub (pv 0) pe_int set_list) (pgs_cons (pg_name (i := 2) sc__law_take.nd rfl (.inl rfl)) pgs_nil))))
    (pss_one (ps_ret (pv 2)))) pss_nil)
    (pss_cons (ps_asg (pe_op op_add (pe_ix ix_list (pv 0) pe_int (fun _ _ => rfl)) pe_int) (pg_sub (pv 0) pe_int set_list))
    (pss_cons (ps_set (i := 3) sc__law_take.nd rfl (.inl rfl) (pe_op op_mod (pe_op op_pow (pe_op op_add (pe_ix ix_list (pv 0) pe_int (fun _ _ => rfl)) (pe_op op_mul pe_int (pe_ix ix_list (pv 0) pe_int (fun _ _ => rfl)))) pe_int) pe_int))
    (pss_one (ps_ret (pe_op op_mod (pe_op op_fdiv (pe_op op_mod (pe_op op_add (pe_op op_mul (pv 3) pe_int) (pe_op op_mul (pe_op op_mul (pe_ix ix_list (pv 0) pe_int (fun _ _ => rfl)) (pe_ix ix_list (pv 0) pe_int (fun _ _ => rfl))) pe_int)) pe_int) pe_int) (pv 1))))))), ?_⟩
    have SQ : SqL K H p [.int a, .int b, .int c] := SqL.mk hp
    refine ⟨.ref p, rfl, p, _, 0, _, rfl, rfl, SQ, atI_nat (j := 0) rfl, _, _, rfl, rfl, _, rfl, ite2 (fun e => ?_) (fun e => ?_)⟩
    · refine ⟨.ref p, rfl, p, _, 0, _, rfl, rfl, SQ, atI_nat (j := 0) rfl, .int m, rfl, a, m, rfl, cdivP h0 h1, fun t nt => ?_⟩
      have hp1 : (upd H t (.tup [.int (a / m), .int (a % m)])) p = some (.lst [.int a, .int b, .int c]) := by
        rw [upd_ne (ne_of_none hp nt)]
        exact hp
      refine ⟨t, _, rfl, SqT.mk upd_same, rfl, _, _, rfl, .ref p, rfl, p, _, 0, 0, rfl, rfl, hp1, rfl, _, _, rfl, rfl, _, rfl, ?_⟩
      refine q _ _ ((But.refl p H).new nt).put ⟨_, _, _, upd_same, Int.ediv_nonneg ha (by omega), hb, hb2, hc, by omega⟩ (Int.emod_nonneg _ (by omega)) (Int.emod_lt_of_pos _ h0)
    · refine ⟨.ref p, rfl, p, _, 2, _, rfl, rfl, SQ, atI_nat (j := 2) rfl, _, _, rfl, rfl, .ref p, rfl, p, _, 2, 2, rfl, rfl, hp, rfl, ?_⟩
      have SQ1 : SqL K (upd H p (.lst [.int a, .int b, .int (c + 1)])) p [.int a, .int b, .int (c + 1)] := SqL.mk upd_same
      refine ⟨.ref p, rfl, p, _, 1, _, rfl, rfl, SQ1, atI_nat (j := 1) rfl, .ref p, rfl, p, _, 2, _, rfl, rfl, SQ1, atI_nat (j := 2) rfl, _, _, rfl, rfl, .inl ⟨by decide, by decide⟩, _, _, rfl, rfl, _, _, rfl, rfl, ⟨by decide, by decide, by omega⟩, _, _, rfl, rfl, (show (0 : Int) < 2147483647 by decide), ?_⟩
      refine ⟨_, rfl, _, _, rfl, rfl, .inr ⟨by decide, by decide⟩, .ref p, rfl, p, _, 2, _, rfl, rfl, SQ1, atI_nat (j := 2) rfl, .ref p, rfl, p, _, 2, _, rfl, rfl, SQ1, atI_nat (j := 2) rfl, _, _, rfl, rfl, .inl ⟨by omega, by omega⟩, _, _, rfl, rfl, .inr ⟨by decide, by decide⟩, _, _, rfl, rfl, _, _, rfl, rfl, (show (0 : Int) < 2147483629 by decide), _, _, rfl, rfl, ⟨by decide, by decide⟩, .int m, rfl, _, _, rfl, rfl, h0, ?_⟩
      refine q _ _ (But.refl p H).put ⟨_, _, _, upd_same, ha, hb, hb2, by omega, by omega⟩ (Int.emod_nonneg _ (by omega)) (Int.emod_lt_of_pos _ h0)
/-! the folded cells -/
theorem cut_take (ns : List Int) (m : Nat) : cutV (ns.map V.int) none (some (m : Int)) = (ns.take m).map V.int := by
  unfold cutV
  rw [HT.sIx_none, HT.sIx_nat, List.drop_zero, List.length_map, Nat.sub_zero, ← List.map_take]
  congr 1
  by_cases h : m ≤ ns.length
  · rw [Nat.min_eq_left h]
  · rw [Nat.min_eq_right (by omega), List.take_length, List.take_of_length_le (by omega)]
theorem cut_rest (ns : List Int) (m k : Nat) : ∃ ms : List Int, cutV (ns.map V.int) (some (m : Int)) (some (k : Int)) = ms.map V.int ∧ (0 < ms.length → m < ns.length) ∧ ms.length ≤ ns.length := by
  unfold cutV
  rw [HT.sIx_nat, HT.sIx_nat, List.length_map]
  refine ⟨(ns.drop (min m ns.length)).take (min k ns.length - min m ns.length), ?_, fun h => ?_, ?_⟩
  · rw [List.map_take, List.map_drop]
  · rw [List.length_take, List.length_drop] at h
    omega
  · rw [List.length_take, List.length_drop]
    omega
def sp__law_folded (K : PySem.W.Frag) : Sp := fun vs H Q _ => ∃ (a : Addr) (ns : List Int) (m : Nat), vs = [.ref a, .int (m : Nat)] ∧ SqL K H a (ns.map V.int) ∧ ns.length ≤ 63 ∧ 0 < m ∧ m < 64 ∧
  ∀ H' p (cs : List Int), Same H H' → H p = none → H' p = some (.lst (cs.map V.int)) → cs.length ≤ m → Q (.ref p) H'
theorem ok__law_folded (T : Defs K mg) (TT : Tabs T base) : FnOk P w K mg base CX0 1 T.f__law_folded T.fd__law_folded ["_law_script", "_law_many"] (sp__law_folded K) := by
  refine T.F__law_folded.ok sc__law_folded (fun vs H Q E h => ?_) (fun cdv A outer s H vs Q E hr h => ?_)
  · obtain ⟨a, ns, m, rfl, hS, hlen, hm, hm2, q⟩ := h
    rfl
  · obtain ⟨a, ns, m, rfl, hS, hlen, hm, hm2, q⟩ := h
    refine ⟨_, PSs.nox (pss_cons (ps_set (i := 2) sc__law_folded.nd rfl (.inl rfl) (pe_callTy call_list_of (by rfl) T.m_list bt_list (pa_cons (pe_slice sl_list (pv 0) po_none (po_some (pv 1))) pa_nil)))
    (pss_cons (ps_for PassesOwn.never rfl (pi_enum (by rfl) T.m_enumerate (pa_cons (pe_slice sl_list (pv 0) (po_some (pv 1)) (po_some pe_int)) pa_nil)) (pg_tup rfl (pgs_cons (pg_name (i := 3) sc__law_folded.nd rfl (.inl rfl)) (pgs_cons (pg_name (i := 4) sc__law_folded.nd rfl (.inl rfl)) pgs_nil))) (pss_one (ps_asg (pe_op op_add (pe_ix ix_list (pv 2) (pe_op op_mod (pv 3) (pv 1)) (fun _ _ => rfl)) (pe_op op_mul (pv 4) (pe_op op_add (pv 3) pe_int))) (pg_sub (pv 2) (pe_op op_mod (pv 3) (pv 1)) set_list))))
    (pss_one (ps_ret (pv 2))))), ?_⟩
    refine ⟨.ref a, rfl, .int m, rfl, m, rfl, a, _, rfl, hS, fun c nc => ?_⟩
    rw [cut_take]
    have s1 : Same H (upd H c (.lst ((ns.take m).map V.int))) := same_upd nc
    refine ⟨c, _, rfl, .inl (SqL.mk upd_same), fun l nl => ?_⟩
    have s2 := s1.trans (same_upd nl (o := .lst ((ns.take m).map V.int)))
    refine ⟨.ref a, rfl, .int m, rfl, m, rfl, 63, rfl, a, _, rfl, s2.seq hS, fun d nd => ?_⟩
    obtain ⟨ms, em, hms, hms2⟩ := cut_rest ns m 63
    rw [show (63 : Int) = ((63 : Nat) : Int) from rfl, em]
    have nl0 : H l = none := s1.free nl
    have nd0 : H d = none := s2.free nd
    have ndl : l ≠ d := fun e => by
      rw [← e, upd_same] at nd
      cases nd
    refine ⟨d, _, rfl, SqL.mk upd_same, for_it (walk_enum (xs := ms.map V.int)) (fun i σ H3 => ∃ y3 y4, ∃ cs : List Int, σ = [some (.ref a), some (.int m), some (.ref l), y3, y4] ∧ Same H H3 ∧ H3 l = some (.lst (cs.map V.int)) ∧ cs.length = (ns.take m).length ∧ H3 d = some (.lst (ms.map V.int))) ⟨none, none, ns.take m, rfl, s2.trans (same_upd nd), ?_, rfl, upd_same⟩ ?_ ?_ ?_⟩
    · rw [upd_ne ndl, upd_same]
    · rintro i σ H3 hi ⟨y3, y4, cs, rfl, s3, hl, hc, hd⟩
      exact SqL.mk hd
    · rintro i x σ H3 H4 hi ⟨y3, y4, cs, rfl, s3, hl, hc, hd⟩ ⟨t, x1, x2, rfl, nt, rfl, e1, e2⟩
      rw [List.length_map] at hi
      have lm : m < ns.length := hms (by omega)
      have lc : cs.length = m := by
        rw [hc, List.length_take]
        omega
      have ex1 : x1 = .int (i : Nat) := (Option.some.inj e1).symm
      have ex2 : x2 = .int ms[i] := by
        have e2 : (ms.map V.int)[i]? = some x2 := e2
        rw [List.getElem?_map, List.getElem?_eq_getElem hi] at e2
        exact (Option.some.inj e2).symm
      subst ex1 ex2
      have hl1 : (upd H3 t (.tup [.int (i : Nat), .int ms[i]])) l = some (.lst (cs.map V.int)) := by
        rw [upd_ne (ne_of_none hl nt)]
        exact hl
      have him : i % m < cs.length := by
        rw [lc]
        exact Nat.mod_lt _ hm
      have eim : ((i : Int) % (m : Int)) = ((i % m : Nat) : Int) := by omega
      refine ⟨t, _, rfl, SqT.mk upd_same, rfl, _, _, rfl, _, _, rfl, rfl, ?_⟩
      refine ⟨.ref l, rfl, .int (i : Nat), rfl, .int m, rfl, _, _, rfl, rfl, (show (0 : Int) < (m : Int) by omega), l, _, _, .int cs[i % m], rfl, rfl, SqL.mk hl1, ?_, .int ms[i], rfl, .int (i : Nat), rfl, _, _, rfl, rfl, _, _, rfl, rfl, .inr ⟨by omega, by omega⟩, _, _, rfl, rfl, .ref l, rfl, .int (i : Nat), rfl, .int m, rfl, _, _, rfl, rfl, (show (0 : Int) < (m : Int) by omega), l, _, _, i % m, rfl, rfl, hl1, ?_, ?_⟩
      · rw [eim]
        exact atI_nat (by rw [List.getElem?_map, List.getElem?_eq_getElem him]; rfl)
      · rw [eim]
        exact ixn (by rw [List.length_map]; exact him)
      · refine ⟨_, _, cs.set (i % m) (cs[i % m] + ms[i] * ((i : Int) + 2)), rfl, same_newer (s3.trans (same_upd nt)) nl0, ?_, by rw [List.length_set, hc], ?_⟩
        · rw [upd_same, List.map_set]
        · rw [upd_ne ndl.symm, upd_ne (ne_of_none hd nt)]
          exact hd
    · rintro σ H3 ⟨y3, y4, cs, rfl, s3, hl, hc, hd⟩
      exact ⟨.ref l, rfl, q H3 l cs s3 nl0 hl (by rw [hc, List.length_take]; omega)⟩
/-! generator expressions: the walked thing, the element, the generator at hand -/
def SrcOk (X : Cx) (P : Addr) (s1 : Shared) (xv : Value) (n : Nat) (Pf : Nat → Value → Prop) : Prop :=
  ∃ (o : Obj) (aux : List Addr) (Z : Nat → Heap → Prop),
    (∀ Q : Value → Shared → Prop, Q (.ref s1.heap.objs.size) { s1 with heap := s1.heap.push o } → wpAny (model X.prog X.w) X.A (pyIter xv) Q X.xe s1) ∧
    (∀ b ∈ aux, b < s1.heap.objs.size ∧ b ≠ P) ∧
    (∀ B : Around, B.handled = none → Walks X.prog X.w B s1.heap.objs.size (s1.heap.objs.size :: aux) [s1.heap.objs.size] n Pf Z) ∧ Z 0 (s1.heap.push o)
def EltOk (X : Cx) (P : Addr) (scope : Scope) (x : Str) (elt : Expr) (s1 : Shared) (Pf F : Nat → Value → Prop) : Prop :=
  ∀ (cenv : Env) (B : Around) (E2 : Value → Shared → Prop) (i : Nat) (v : Value) (s2 : Shared) (m2 : Str → Option Value), cenv.scope = scope → cenv.cells = cloFrom X.env.cells scope.names [] → cenv.globals = X.env.globals → cenv.builtins = builtinsNs →
    B.handled = none → Pf i v → s2.heap.Ns cenv.locals m2 → m2 x = some v → (∀ b o, b ≠ P → s1.heap.get? b = some o → s2.heap.get? b = some o) →
    wpAny (model X.prog X.w) B (eval elt cenv) (fun y s3 => F i y ∧ Keeps s2 s3) E2 s2
def AtHand (X : Cx) (pins : List (Addr × Obj)) (σ : L2.St) (H1 : Hp) (P : Addr) (n : Nat) (F : Nat → Value → Prop) (g : Addr) (s5 : Shared) : Prop :=
  ∃ (fp wr : List Addr) (G : Array GenState → Array GenState → Prop) (F' : Nat → Value → Prop) (Z : Nat → Shared → Prop),
    WalksS X.prog X.w X.A.in4 g fp wr G n F' Z ∧ (∀ j v, F' j v → F j v) ∧ Z 0 s5 ∧ (∀ b ∈ fp, b < s5.heap.objs.size) ∧ g ∈ fp ∧ (∀ i s9, Z i s9 → s9.TypeIs (.ref g) "generator") ∧
    ∀ s', Moved wr G s5 s' → ∃ H2, GxR.Tabbed P H1 H2 ∧ Inv X pins σ H2 s'
theorem gen_one {X : Cx} {pins : List (Addr × Obj)} {σ : L2.St} {s : Shared} {c P : Addr} {elt iter : Expr} {x : Str} {px gpos : Pos} {scope : Scope} {k : Nat} {W : Value → Shared → Prop}
    (hr : Room k X.A) (TB : GxR.TabB X.base X.mg c P) (hcode : X.env.code = .ref c) (S : GxR.GenS X.env scope x) (hs : ∀ v, genFold iter X.env v = pure v)
    (h : wpAny (model X.prog X.w) X.A (eval iter X.env) (fun xv s1 => ∃ (H1 : Hp) (ps : Array Value) (n : Nat) (Pf F : Nat → Value → Prop), Inv X pins σ H1 s1 ∧ H1 P = some (.tbl ps) ∧ TriplesOk ps.toList ∧ SrcOk X P s1 xv n Pf ∧
      EltOk X P scope x elt s1 Pf F ∧ ∀ g s5, AtHand X pins σ H1 P n F g s5 → W (.ref g) s5) X.xe s) :
    wpAny (model X.prog X.w) X.A (eval (.GeneratorExp elt [⟨.Name x px, iter, [], 0⟩] scope gpos) X.env) W X.xe s := by
  have deep := hr.dp
  refine wpAny_GeneratorExp_walksQ hr.hd S.co (closure_ok S.free) S.cell S.dot S.loc S.kind (by omega) (wpAny_mono h (fun xv s1 z => ?_) fun _ _ e => e) hs
  obtain ⟨H1, ps, n, Pf, F, J1, hP, trip, ⟨o, aux, Z, go, hau, wk, z0⟩, hel, fin⟩ := z
  refine go _ ?_
  have hPs : s1.heap.get? P = some { cls := .none, data := .fields ps } := J1.hok P _ hP
  have ltP : P < s1.heap.objs.size := Heap.lt_size hPs
  have hP2 : (s1.heap.push o).get? P = some { cls := .none, data := .fields ps } := Heap.get?_push_of_some _ hPs
  have cd : PySem.W.CodeHd (s1.heap.push o) c P := TB.code.keeps fun b u e => Heap.get?_push_of_some _ (J1.bk b u e)
  have lim : (s1.heap.push o).NoLimit := J1.nolimit.push o
  have szp : (s1.heap.push o).objs.size = s1.heap.objs.size + 1 := Heap.size_push ..
  have go2 : ∀ (code : Value) (h3 : Heap) (tk : Nat) (more : Array Value), Heap.ExtBut P (s1.heap.push o) h3 → (s1.heap.push o).objs.size ≤ h3.objs.size → h3.get? P = some { cls := .none, data := .fields (ps ++ more) } → TriplesOk (ps ++ more).toList →
      wpAny (model X.prog X.w) X.A (builtinsFor X.env.globals X.env.builtins) (fun bi s4 =>
        ∃ I0 fp wr n0 Pf0 Z0 pz F0, Value.ref s1.heap.objs.size = .ref I0 ∧ (∀ B : Around, B.handled = none → Walks X.prog X.w B I0 fp wr n0 Pf0 Z0) ∧ Z0 0 s4.heap ∧ (∀ b ∈ fp, b < s4.heap.objs.size) ∧ s4.heap.NoLimit ∧ cStatics ∉ wr ∧
          (∀ hq : Heap, (∀ b o, s4.heap.get? b = some o → hq.get? b = some o) →
            QuietGen X.prog X.w (genEnv scope (cloFrom X.env.cells scope.names []) s4.heap.objs.size code bi X.env) x [] elt (List.range s4.heap.objs.size) wr Pf0 pz F0 hq) ∧
          (∀ g h5 tk5 gs, gs.bare = true → s4.heap.objs.size < g → h5.objs.size = g + 1 → (∀ b o, s4.heap.get? b = some o → h5.get? b = some o) →
            WalksS X.prog X.w X.A.in4 g (g :: s4.heap.objs.size :: List.range s4.heap.objs.size) (s4.heap.objs.size :: wr) (GenOnlyQ s4.gens.size) (passing pz n0 0).length
              (fun j y => ∃ i, (passing pz n0 0)[j]? = some i ∧ F0 i y) (GenAt X.prog X.w X.A.in4 g s4.gens.size s4.heap.objs.size (List.range s4.heap.objs.size) wr pz n0 F0) →
            GenAt X.prog X.w X.A.in4 g s4.gens.size s4.heap.objs.size (List.range s4.heap.objs.size) wr pz n0 F0 0 { s4 with gens := s4.gens.push gs, toks := tk5, heap := h5 } →
            W (.ref g) { s4 with gens := s4.gens.push gs, toks := tk5, heap := h5 })) X.xe { s1 with heap := h3, toks := tk } := by
    intro code h3 tk more hx hsz hP3 trip3
    obtain ⟨bm, ob, e1, e2, e3, e4, e5, e6, e7, e8⟩ := TB.bm
    have keep3 : ∀ b u, b ≠ P → s1.heap.get? b = some u → h3.get? b = some u := fun b u hb e => hx b u hb (Heap.get?_push_of_some _ e)
    have stP : cStatics ≠ P := fun z => by
      obtain ⟨_, ⟨o1, es, ep, ho, hd, _⟩, _⟩ := J1.nolimit
      rw [z, hPs] at ho
      cases ho
      cases hd
    have stL : cStatics < s1.heap.objs.size := by
      obtain ⟨_, hns, _⟩ := J1.nolimit
      exact hns.lt
    have newP : s1.heap.objs.size ≠ P := Nat.ne_of_gt ltP
    refine wpAny_builtinsFor (m := X.mg) (by rw [J1.ok.glob]; exact ((J1.mod.glob.keeps J1.bk).push o).extBut hx TB.gP) e1 e2 (keep3 _ _ e4 (J1.bk _ _ e5)) e6 e7 e8 ?_
    refine ⟨s1.heap.objs.size, s1.heap.objs.size :: aux, [s1.heap.objs.size], n, Pf, Z, fun _ => true, F, rfl, wk, ?_, ?_, lim.extBut hx stP, ?_, ?_, ?_⟩
    · refine (wk X.A hr.hd).frame _ _ _ z0 fun b hb u e => hx b u (fun z => ?_) e
      rcases List.mem_cons.mp hb with z2 | z2
      · exact newP (z2.symm.trans z)
      · exact (hau b z2).2 z
    · intro b hb
      show b < h3.objs.size
      have up : s1.heap.objs.size < h3.objs.size := by omega
      rcases List.mem_cons.mp hb with z2 | z2
      · rw [z2]
        exact up
      · exact Nat.lt_trans (hau b z2).1 up
    · intro z
      rcases List.mem_cons.mp z with z2 | z2
      · exact Nat.ne_of_lt stL z2
      · cases z2
    · intro hq keepq
      refine ⟨fun B E2 i v s2 m2 hB hv hn hm hk => ?_, fun B E2 i v s2 m2 hB hv _ hn hm hk => ?_⟩
      · simp only [List.forIn_nil]
        exact wpAny_pure ⟨rfl, GxR.keeps_refl _⟩
      · refine hel _ B E2 i v s2 m2 rfl rfl rfl rfl hB hv hn hm fun b u hb e => ?_
        have lb := Heap.lt_size e
        have up : s1.heap.objs.size < h3.objs.size := by omega
        refine hk b (List.mem_range.mpr (Nat.lt_trans lb up)) (fun z => ?_) u (keepq b u (keep3 b u hb e))
        rcases List.mem_cons.mp z with z2 | z2
        · exact Nat.ne_of_lt lb z2
        · cases z2
    · intro g h5 tk5 gs hgb hag hsz5 hk5 W5 gat
      simp only [GxR.passing_true, List.length_range] at W5
      refine fin g _ ⟨_, _, _, _, _, W5, fun j v hv => ?_, gat, fun b hb => ?_, List.mem_cons_self, fun i s9 h9 => h9.1.typeIs, fun s' hm => ?_⟩
      · obtain ⟨i, hij, e⟩ := hv
        obtain ⟨_, ej⟩ := List.getElem?_eq_some_iff.mp hij
        rw [List.getElem_range] at ej
        subst ej
        exact e
      · show b < h5.objs.size
        have h8 : h3.objs.size < g := hag
        have h9 : h5.objs.size = g + 1 := hsz5
        have u1 : g < h5.objs.size := by
          rw [h9]
          exact Nat.lt_succ_self g
        have u2 : h3.objs.size < h5.objs.size := Nat.lt_trans h8 u1
        rcases List.mem_cons.mp hb with z | z
        · rw [z]
          exact u1
        · rcases List.mem_cons.mp z with z | z
          · rw [z]
            exact u2
          · exact Nat.lt_trans (show b < h3.objs.size from List.mem_range.mp z) u2
      · have old : ∀ b u, s1.heap.get? b = some u → b ∉ h3.objs.size :: [s1.heap.objs.size] := fun b u e hb => by
          have lb := Heap.lt_size e
          have up : s1.heap.objs.size < h3.objs.size := by omega
          rcases List.mem_cons.mp hb with z | z
          · exact Nat.ne_of_lt (Nat.lt_trans lb up) z
          · rcases List.mem_cons.mp z with z | z
            · exact Nat.ne_of_lt lb z
            · cases z
        have R := GxR.inv_tab (more := more) (h' := s'.heap) (g' := s'.gens) (d' := s'.drawn) (t' := s'.toks) J1 hP (fun b u hb e => hm.heap b u (old b u e) (hk5 b u (keep3 b u hb e)))
          (hm.heap P _ (old P _ hPs) (hk5 P _ hP3)) (AllBare.movedS (J1.bare.push hgb) hm)
        rw [GxR.sh_eta s1 s' hm.os] at R
        exact ⟨_, ⟨⟨ps ++ more, upd_same, trip3⟩, fun b hb => upd_ne hb⟩, R⟩
  refine ⟨lim, ?_⟩
  cases hf : codeAmong gpos ps.toList with
  | none =>
    refine wpAny_genexprCodeX hcode (cd.code hP2 trip) (cd.tab hP2) hf fun c' h' tk hx hge hlt hco' _ htab' _ => ?_
    obtain ⟨o1, vs, f1, tf, fl, tg, inF, tx, tt, op, _, _, _, _, _, _, _, _, _, htr, _⟩ := hco'
    exact go2 _ h' tk _ hx (Nat.le_trans hge (Nat.le_of_lt hlt)) htab'.2 htr
  | some cv =>
    refine wpAny_genexprCode_hit hcode (cd.code hP2 trip) hf ?_
    exact go2 cv (s1.heap.push o) s1.toks #[] (Heap.ExtBut.refl _ _) (Nat.le_refl _) (by rw [Array.append_empty]; exact hP2) (by rw [Array.append_empty]; exact trip)
/-! tuple(element for x in walked) -/
structure PSrc (X : Cx) (P : Addr) (iter : Expr) (ti : L2.St → Hp → (List V → Hp → Prop) → Prop) : Prop where
  run : ∀ (pins : List (Addr × Obj)) (s : Shared) (σ : L2.St) (H : Hp) (R : List V → Hp → Prop), Inv X pins σ H s → ti σ H (fun xs H1 => GxR.TabG H1 P ∧ R xs H1) →
    wpAny (model X.prog X.w) X.A (eval iter X.env) (fun xv s1 => ∃ (H1 : Hp) (xs : List V), Inv X pins σ H1 s1 ∧ GxR.TabG H1 P ∧ R xs H1 ∧ SrcOk X P s1 xv xs.length (fun i u => ∃ y, xs[i]? = some y ∧ RelV y u)) X.xe s
/-- where the element is reckoned: the generator's own frame -/
structure InGen (X : Cx) (P : Addr) (scope : Scope) (s1 : Shared) (cenv : Env) (B : Around) (s2 : Shared) (m2 : Str → Option Value) : Prop where
  sc : cenv.scope = scope
  cells : cenv.cells = cloFrom X.env.cells scope.names []
  glob : cenv.globals = X.env.globals
  blt : cenv.builtins = builtinsNs
  hd : B.handled = none
  ns : s2.heap.Ns cenv.locals m2
  keep : ∀ b o, b ≠ P → s1.heap.get? b = some o → s2.heap.get? b = some o
structure PElt (X : Cx) (P : Addr) (scope : Scope) (x : Str) (elt : Expr) (te : L2.St → Hp → V → V → Prop) : Prop where
  run : ∀ (pins : List (Addr × Obj)) (s1 : Shared) (σ : L2.St) (H : Hp), Inv X pins σ H s1 → GxR.TabG H P → ∀ (cenv : Env) (B : Around) (E2 : Value → Shared → Prop) (s2 : Shared) (m2 : Str → Option Value) (v y : V) (u : Value),
    InGen X P scope s1 cenv B s2 m2 → RelV v u → te σ H v y → m2 x = some u → wpAny (model X.prog X.w) B (eval elt cenv) (fun z s3 => RelV y z ∧ Keeps s2 s3) E2 s2
def tTupG (P : Addr) (ti : L2.St → Hp → (List V → Hp → Prop) → Prop) (te : L2.St → Hp → V → V → Prop) : TE := fun σ H Q => ti σ H fun xs H1 => GxR.TabG H1 P ∧ xs.length ≤ sizeLine ∧ ∃ ys : List V, ys.length = xs.length ∧
  (∀ (i : Nat) (x : V), xs[i]? = some x → ∃ y, ys[i]? = some y ∧ te σ H1 x y) ∧ ∀ H2 p, GxR.Tabbed P H1 H2 → H2 p = none → Q (.ref p) (upd H2 p (.tup ys))
theorem vals_of : ∀ (ys : List V) (us : List Value), us.length = ys.length → (∀ (j : Nat) (u : Value), us[j]? = some u → ∃ y, ys[j]? = some y ∧ RelV y u) → Vals ys us
  | [], [], _, _ => .nil
  | y :: ys, u :: us, hl, h => by
    obtain ⟨y1, e1, r1⟩ := h 0 u rfl
    cases e1
    exact .cons r1 (vals_of ys us (by simpa using hl) fun j v hj => h (j + 1) v hj)
theorem pe_tupG {X : Cx} {c P : Addr} {elt iter : Expr} {x : Str} {px p pos gpos : Pos} {scope : Scope} {ti : L2.St → Hp → (List V → Hp → Prop) → Prop} {te : L2.St → Hp → V → V → Prop} {k : Nat}
    (hr : Room k X.A) (hg : Gl X "tuple") (hm : X.mg "tuple" = none) (hb : bootBuiltins "tuple" = some (.type "tuple")) (TB : GxR.TabB X.base X.mg c P) (hcode : X.env.code = .ref c) (S : GxR.GenS X.env scope x)
    (hi : PSrc X P iter ti) (hel : PElt X P scope x elt te) (hs : ∀ v, genFold iter X.env v = pure v)
    (he : starEach [.GeneratorExp elt [⟨.Name x px, iter, [], 0⟩] scope gpos] X.env = (false, eval (.GeneratorExp elt [⟨.Name x px, iter, [], 0⟩] scope gpos) X.env) :: starEach [] X.env := by rfl) :
    PE X (.Call (.Name "tuple" p) [.GeneratorExp elt [⟨.Name x px, iter, [], 0⟩] scope gpos] [] pos) (tTupG P ti te) := by
  refine ⟨fun pins s σ H Q I h => ?_⟩
  refine wpAny_Call_Name_kw (ld_blt I hg hm hb ?_)
  refine PyProof.Rows.callWith_type1 ?_ he (by rfl)
  rw [he]
  show wpAny _ _ (spliced ((false, eval (.GeneratorExp elt [⟨.Name x px, iter, [], 0⟩] scope gpos) X.env) :: backTo pos (starEach [] X.env))) _ _ s
  have h2 : ti σ H fun xs H1 => GxR.TabG H1 P ∧ (xs.length ≤ sizeLine ∧ ∃ ys : List V, ys.length = xs.length ∧ (∀ (i : Nat) (x : V), xs[i]? = some x → ∃ y, ys[i]? = some y ∧ te σ H1 x y) ∧ ∀ H2 p, GxR.Tabbed P H1 H2 → H2 p = none → Q (.ref p) (upd H2 p (.tup ys))) := h
  refine Calls.spliced_cons (gen_one (pins := pins) (σ := σ) hr TB hcode S hs (wpAny_mono (hi.run pins s σ H _ I h2) (fun xv s1 z => ?_) fun _ _ e => e))
  obtain ⟨H1, xs, J, ⟨ps, hP, trip⟩, ⟨lx, ys, ly, hys, q⟩, src⟩ := z
  refine ⟨H1, ps, xs.length, _, fun i u => ∃ y, ys[i]? = some y ∧ RelV y u, J, hP, trip, src, ?_, fun g s5 at5 => ?_⟩
  · intro cenv B E2 i v s2 m2 h1 h3 h4 h5 h6 hv h7 h8 h9
    obtain ⟨w1, ew, rw1⟩ := hv
    obtain ⟨y, ey, ty⟩ := hys i w1 ew
    exact wpAny_mono (hel.run pins s1 σ H1 J ⟨ps, hP, trip⟩ cenv B E2 s2 m2 w1 y v ⟨h1, h3, h4, h5, h6, h7, h9⟩ rw1 ty h8) (fun z s3 r => ⟨⟨y, ey, r.1⟩, r.2⟩) fun _ _ e => e
  · refine Calls.spliced_nil ?_
    obtain ⟨fp, wr, G, F', Z, W5, im, z0, hfp, hgf, hT, hinv⟩ := at5
    refine PySem.call_tuple_gen (n := xs.length) W5.in4_3 hT z0 hfp hgf (fun s' acc mv it => ?_) lx
    obtain ⟨H2, tb, J2⟩ := hinv s' mv
    have vs : Vals ys acc.toList := vals_of ys acc.toList (by rw [Array.length_toList, it.1, ly]) fun j u hj => im j u (it.2 j u (by simpa using hj))
    refine ⟨.ref s'.heap.objs.size, _, J2.laid (t' := s'.toks) (o := .tup ys) (fun b ob e => Heap.get?_push_of_some _ e) (Nat.le_refl _) ⟨by omega, acc.toList, vs, ?_⟩, rfl, q H2 _ tb (J2.hok.fresh (Nat.le_refl _))⟩
    have ea : acc.toList.toArray = acc := by simp
    rw [ea]
    exact IsTup.new _ _
/-- range(e) -/
theorem src_range {X : Cx} {P : Addr} {a : Expr} {ta : TA} {p pos : Pos} (hg : Gl X "range") (hm : X.mg "range" = none) (ha : PA X [a] ta) (hs : starEach [a] X.env = [(false, eval a X.env)] := by rfl) :
    PSrc X P (.Call (.Name "range" p) [a] [] pos) (fun σ H R => ta σ H fun vs H1 => ∃ n : Nat, vs = [.int (n : Nat)] ∧ n ≤ sizeLine ∧ R ((List.range n).map fun i => V.int (i : Nat)) H1) := by
  refine ⟨fun pins s σ H R I h => ?_⟩
  refine Call_ (ld_blt I hg hm boot_range (PyProof.Rows.callWith_type1 (thn (ha.run pos pins s σ H _ I h) fun us s1 ⟨vs, H1, J, r1, q1⟩ => ?_) hs rfl))
  obtain ⟨n, rfl, hn, tg, q⟩ := q1
  cases r1 with
  | cons r rr =>
    cases rr
    obtain ⟨t, rfl⟩ := r
    have hsl : sizeLine = 16777216 := by decide
    refine call_range_1 ⟨H1, _, J.kept fun b o e => Heap.get?_push_of_some _ e, tg, q, ?_⟩
    refine ⟨_, [], fun i h => IsRangeIter h (s1.heap.push { cls := .type "range", data := .fields #[.int 0 s1.toks, .int (n : Nat) t, .int 1 (s1.toks + 1)] }).objs.size ((0 : Int) + (i : Nat) * 1) ((n : Int) - (i : Nat)) 1, fun Q hQ => wpAny_pyIter_range (IsRange.new ..) (small_one (by omega) (by omega) (by omega) (by omega)) hQ, fun b hb => (by cases hb), fun B hB => ?_, ?_⟩
    · rw [List.length_map, List.length_range]
      have W0 := Walks.range (prog := X.prog) (w := X.w) (A := B) hB (s1.heap.push { cls := .type "range", data := .fields #[.int 0 s1.toks, .int (n : Nat) t, .int 1 (s1.toks + 1)] }).objs.size 0 1 n
      exact W0.mono_item fun i v hi hv => by
        obtain ⟨t2, rfl⟩ := hv
        refine ⟨.int (i : Nat), ?_, t2, by rw [Int.zero_add, Int.mul_one]⟩
        rw [List.getElem?_map, List.getElem?_range hi]
        rfl
    · show IsRangeIter _ _ ((0 : Int) + ((0 : Nat) : Int) * 1) ((n : Int) - ((0 : Nat) : Int)) 1
      have e2 : (n : Int) - ((0 : Nat) : Int) = Builtin.Range.rangeSize 0 (n : Int) 1 := by
        rw [rangeSize_one]
        split <;> omega
      rw [e2]
      exact Heap.get?_push_size _ rfl
theorem gs_free {cells : List (Str × Addr)} {names : List (Str × NameKind)} (h : (names.all fun y => y.2 != .free || (cells.lookup y.1).isSome) = true) : ∀ y ∈ names, y.2 = .free → ∃ c, cells.lookup y.1 = some c := fun y hy e => by
  have q := List.all_eq_true.mp h y hy
  rw [e] at q
  exact Option.isSome_iff_exists.mp (by simpa using q)
/-! elements -/
section
variable {X : Cx} {pins : List (Addr × Obj)} {σ : L2.St} {H : Hp} {s1 s2 : Shared} {P c : Addr} {scope : Scope} {cenv : Env} {B : Around} {m2 : Str → Option Value} {E2 : Value → Shared → Prop}
theorem ig_local {x : Str} {u : Value} {p : Pos} {W : Value → Shared → Prop} (g : InGen X P scope s1 cenv B s2 m2) (hk : scope.kind = .function) (hl : scope.names.lookup x = some .local) (hm : m2 x = some u) {s3 : Shared} (k3 : Keeps s2 s3) (h : W u s3)
    (hd : (x == ("__debug__" : Str)) = false := by decide) : wpAny (model X.prog X.w) B (eval (.Name x p) cenv) W E2 s3 := by
  obtain ⟨h3, tk, rfl, kp⟩ := k3
  exact wpAny_Name (wpAny_loadName_local (by rw [g.sc]; exact hk) (show cenv.scope.names.lookup x = some .local by rw [g.sc]; exact hl) (g.ns.keeps kp) hm h) hd
theorem ig_free {x : Str} {i : Nat} {v : V} {p : Pos} {W : Value → Shared → Prop} (I : Inv X pins σ H s1) (tg : GxR.TabG H P) (g : InGen X P scope s1 cenv B s2 m2) (hk : scope.kind = .function) (hl : scope.names.lookup x = some .free)
    (hN : X.N[i]? = some x) (hσ : σ[i]? = some (some v)) (hX : X.env.scope.names.lookup x = some .cell) (hcl : ∀ cells : List (Str × Addr), (cloFrom cells scope.names []).lookup x = some ((cells.lookup x).getD 0)) {s3 : Shared} (k3 : Keeps s2 s3)
    (h : ∀ u, RelV v u → W u s3) (hn : (x == ("__classdict__" : Str)) = false := by decide) (hd : (x == ("__debug__" : Str)) = false := by decide) : wpAny (model X.prog X.w) B (eval (.Name x p) cenv) W E2 s3 := by
  obtain ⟨h3, tk, rfl, kp⟩ := k3
  obtain ⟨m, _, hloc⟩ := I.loc
  obtain ⟨u, ru, lk⟩ := hloc i x v hN hσ (.inr (.inl hX))
  rcases lk with ⟨h1, _⟩ | ⟨_, cc, h2, ic⟩
  · have h1 : X.env.scope.names.lookup x = some .local := h1
    rw [hX] at h1
    cases h1
  · obtain ⟨ps, hP, _⟩ := tg
    have ncP : cc ≠ P := fun z => by
      have q := I.freeC x cc h2
      rw [z, hP] at q
      cases q
    obtain ⟨o, ho, hd2⟩ := ic
    have lk2 : cenv.cells.lookup x = some cc := by
      rw [g.cells, hcl, h2]
      rfl
    exact wpAny_Name (wpAny_loadName_free (by rw [g.sc]; exact hk) (show cenv.scope.names.lookup x = some .free by rw [g.sc]; exact hl) lk2 ⟨o, kp _ _ (g.keep _ _ ncP ho), hd2⟩ (h u ru) hn) hd
theorem ig_blt {x : Str} {u : Value} {p : Pos} {W : Value → Shared → Prop} (I : Inv X pins σ H s1) (tg : GxR.TabG H P) (TB : GxR.TabB X.base X.mg c P) (g : InGen X P scope s1 cenv B s2 m2) (hk : scope.kind = .function) (hl : scope.names.lookup x = some .globalImplicit)
    (hm : X.mg x = none) (hv : bootBuiltins x = some u) {s3 : Shared} (k3 : Keeps s2 s3) (h : W u s3) (hn : x ≠ "__name__" := by decide) (hd : (x == ("__debug__" : Str)) = false := by decide) : wpAny (model X.prog X.w) B (eval (.Name x p) cenv) W E2 s3 := by
  obtain ⟨h3, tk, rfl, kp⟩ := k3
  obtain ⟨mb, h1, h2⟩ := I.mod.blt
  obtain ⟨ps, hP, _⟩ := tg
  have hPs : s1.heap.get? P = some { cls := .none, data := .fields ps } := I.hok P _ hP
  have n1 : s1.heap.Ns mainGlobals X.mg := I.mod.glob.keeps I.bk
  have n2 : s1.heap.Ns builtinsNs mb := h1.keeps I.bk
  have up : ∀ {a : Addr} {m : Str → Option Value}, s1.heap.Ns a m → h3.Ns a m := fun {a m} ⟨o, es, ep, ho, hd1, r⟩ => by
    have na : a ≠ P := fun z => by
      rw [z, hPs] at ho
      cases ho
      cases hd1
    exact ⟨o, es, ep, kp _ _ (g.keep _ _ na ho), hd1, r⟩
  exact Calls.Name_function_global (by rw [g.sc]; exact hk) (show cenv.scope.names.lookup x = some .globalImplicit by rw [g.sc]; exact hl) (Calls.loadGlobal_builtin (by rw [g.glob, I.ok.glob]; exact up n1) hm (by rw [g.blt]; exact up n2) ((h2 x hn).trans hv) h) hd
theorem kp_tok {s3 : Shared} (k : Keeps s2 s3) (n : Nat) : Keeps s2 { s3 with toks := n } := by
  obtain ⟨h', tk, rfl, kp⟩ := k
  exact ⟨h', n, rfl, kp⟩
/-- a tracked tuple, read in the generator's frame -/
theorem ig_tup {a : Addr} {xs : List V} (I : Inv X pins σ H s1) (tg : GxR.TabG H P) (g : InGen X P scope s1 cenv B s2 m2) (ha : H a = some (.tup xs)) {s3 : Shared} (k3 : Keeps s2 s3) : ∃ its : List Value, Vals xs its ∧ IsTup s3.heap a its.toArray ∧ xs.length ≤ sizeLine := by
  obtain ⟨h3, tk, rfl, kp⟩ := k3
  obtain ⟨ps, hP, _⟩ := tg
  obtain ⟨hz, its, r, ⟨o, ho, rest⟩⟩ := I.hok a _ ha
  have naP : a ≠ P := ne_of ha hP (fun z => by cases z)
  exact ⟨its, r, ⟨o, kp _ _ (g.keep _ _ naP ho), rest⟩, hz⟩
end
/-- row[(at - by) % len(row)] -/
theorem elt_late {X : Cx} {P c : Addr} {scope : Scope} {i j : Nat} {xr xa xb : Str} {p1 p2 p3 p4 p5 p6 p7 p8 p9 : Pos} (TB : GxR.TabB X.base X.mg c P) (hk : scope.kind = .function) (l1 : scope.names.lookup xa = some .local) (l2 : scope.names.lookup xr = some .free) (l3 : scope.names.lookup xb = some .free)
    (l4 : scope.names.lookup ("len" : Str) = some .globalImplicit) (hm : X.mg "len" = none) (hNi : X.N[i]? = some xr) (hNj : X.N[j]? = some xb) (hXi : X.env.scope.names.lookup xr = some .cell) (hXj : X.env.scope.names.lookup xb = some .cell)
    (c1 : ∀ cells : List (Str × Addr), (cloFrom cells scope.names []).lookup xr = some ((cells.lookup xr).getD 0)) (c2 : ∀ cells : List (Str × Addr), (cloFrom cells scope.names []).lookup xb = some ((cells.lookup xb).getD 0))
    (n1 : (xr == ("__classdict__" : Str)) = false := by decide) (n2 : (xr == ("__debug__" : Str)) = false := by decide) (n3 : (xb == ("__classdict__" : Str)) = false := by decide) (n4 : (xb == ("__debug__" : Str)) = false := by decide) (n5 : (xa == ("__debug__" : Str)) = false := by decide) :
    PElt X P scope xa (.Subscript (.Name xr p1) (.BinOp (.BinOp (.Name xa p2) .Sub (.Name xb p3) p4) .Mod (.Call (.Name "len" p5) [.Name xr p6] [] p7) p8) p9)
      (fun σ H v y => ∃ (a : Addr) (xs : List V) (by_ : Int) (t : Nat), σ[i]? = some (some (.ref a)) ∧ H a = some (.tup xs) ∧ σ[j]? = some (some (.int by_)) ∧ v = .int (t : Nat) ∧ 0 < xs.length ∧ xs[(((t : Int) - by_) % (xs.length : Int)).toNat]? = some y) := by
  refine ⟨fun pins s1 σ H I tg cenv B E2 s2 m2 v y u g rv te hm2 => ?_⟩
  obtain ⟨a, xs, by_, t, h1, h2, h3, rfl, h4, h5⟩ := te
  obtain ⟨tk, rfl⟩ := (show ∃ tk, u = Value.int (t : Nat) tk from rv)
  refine Subscript_ (ig_free I tg g hk l2 hNi h1 hXi c1 (GxR.keeps_refl s2) (fun u1 r1 => ?_) n1 n2)
  obtain rfl : u1 = Value.ref a := r1
  refine wpAny_BinOp (wpAny_BinOp (ig_local g hk l1 hm2 (GxR.keeps_refl s2) ?_ n5))
  refine ig_free I tg g hk l3 hNj h3 hXj c2 (GxR.keeps_refl s2) (fun u2 r2 => ?_) n3 n4
  obtain ⟨tb, rfl⟩ := (show ∃ tb, u2 = Value.int by_ tb from r2)
  refine sub_int ?_
  refine wpAny_Call_Name_kw (ig_blt I tg TB g hk l4 hm PySem.boot_len (GxR.keeps_tok s2 _) ?_)
  refine PyProof.Rows.callWith_builtin1 ?_ rfl rfl
  refine Calls.spliced_cons (ig_free I tg g hk l2 hNi h1 hXi c1 (GxR.keeps_tok s2 _) (fun u3 r3 => ?_) n1 n2)
  obtain rfl : u3 = Value.ref a := r3
  refine Calls.spliced_nil ?_
  obtain ⟨its, rvs, it, hz⟩ := ig_tup I tg g h2 (GxR.keeps_tok s2 (s2.toks + 1))
  have hlen := rvs.length
  have hsl : sizeLine = 16777216 := by decide
  have hj : (((t : Int) - by_) % (xs.length : Int)).toNat < xs.length := (List.getElem?_eq_some_iff.mp h5).1
  refine len_tuple it (by simp only [List.size_toArray] <;> omega) ?_
  refine mod_int' (by rw [List.size_toArray, ← hlen]; omega) ?_
  rw [List.size_toArray, ← hlen, Int.fmod_eq_emod_of_nonneg _ (by omega)]
  have m0 := Int.emod_nonneg ((t : Int) - by_) (show (xs.length : Int) ≠ 0 by omega)
  obtain ⟨w1, ew, rw1⟩ := rvs.get h5
  have fin := GxR.keeps_tok s2 (s2.toks + 1 + 1 + 1 + 1)
  refine subscriptTail_builtinR (x := w1) it.typeIs slot_tuple_getitem.lookup (getItem_tuple (j := (((t : Int) - by_) % (xs.length : Int)).toNat) it (by omega) (by omega) ?_ (by simpa using ew) ⟨rfl, rw1, fin⟩)
  rw [List.size_toArray, ← hlen]


  exact seqIndex_of m0 (Int.emod_lt_of_pos _ (by omega))
/-! generator expressions over pairs -/
def EltOk2 (X : Cx) (P : Addr) (scope : Scope) (xa xb : Str) (elt : Expr) (s0 : Shared) (Pt : Nat → Array Value → Prop) (F : Nat → Value → Prop) : Prop :=
  ∀ (cenv : Env) (B : Around) (E2 : Value → Shared → Prop) (i : Nat) (va vb : Value) (s2 : Shared) (m2 : Str → Option Value), InGen X P scope s0 cenv B s2 m2 → Pt i #[va, vb] → m2 xa = some va → m2 xb = some vb →
    wpAny (model X.prog X.w) B (eval elt cenv) (fun y s3 => F i y ∧ Keeps s2 s3) E2 s2
structure Src2 (X : Cx) (P : Addr) (s0 s1 : Shared) (xv : Value) (n : Nat) (Pt : Nat → Array Value → Prop) : Prop where
  only : ∃ h1 t1, s1 = { s0 with heap := h1, toks := t1 }
  old : ∀ b o, s0.heap.get? b = some o → s1.heap.get? b = some o
  wk : ∃ (J : Addr) (fp wr : List Addr) (Z : Nat → Heap → Prop) (Mid : Nat → Addr → Heap → Prop), xv = .ref J ∧ (∀ Q : Value → Shared → Prop, Q (.ref J) s1 → wpAny (model X.prog X.w) X.A (pyIter xv) Q X.xe s1) ∧
    (∀ B : Around, B.handled = none → WalksU X.prog X.w B J fp wr n Pt Z Mid) ∧ Z 0 s1.heap ∧ (∀ b ∈ fp, b < s1.heap.objs.size ∧ b ≠ P) ∧ (∀ b ∈ wr, s0.heap.objs.size ≤ b)
  two : ∀ i vals, Pt i vals → ∃ va vb, vals = #[va, vb]
structure GenS2 (env : Env) (scope : Scope) (xa xb : Str) : Prop where
  a : GxR.GenS env scope xa
  lb : scope.names.lookup xb = some .local
  ne : xa ≠ xb
theorem gen_two {X : Cx} {pins : List (Addr × Obj)} {σ : L2.St} {s : Shared} {c P : Addr} {elt iter : Expr} {xa xb : Str} {pa pb pt gpos : Pos} {kt : Nat} {scope : Scope} {k : Nat} {W : Value → Shared → Prop}
    (hr : Room k X.A) (TB : GxR.TabB X.base X.mg c P) (hcode : X.env.code = .ref c) (S : GenS2 X.env scope xa xb) (hs : ∀ v, genFold iter X.env v = pure v)
    (h : wpAny (model X.prog X.w) X.A (eval iter X.env) (fun xv s1 => ∃ (s0 : Shared) (H1 : Hp) (ps : Array Value) (n : Nat) (Pt : Nat → Array Value → Prop) (F : Nat → Value → Prop), Inv X pins σ H1 s0 ∧ H1 P = some (.tbl ps) ∧ TriplesOk ps.toList ∧ Src2 X P s0 s1 xv n Pt ∧
      EltOk2 X P scope xa xb elt s0 Pt F ∧ ∀ g s5, AtHand X pins σ H1 P n F g s5 → W (.ref g) s5) X.xe s) :
    wpAny (model X.prog X.w) X.A (eval (.GeneratorExp elt [⟨.Tuple [.Name xa pa, .Name xb pb] kt pt, iter, [], 0⟩] scope gpos) X.env) W X.xe s := by
  have deep := hr.dp
  refine wpAny_GeneratorExp_walksQT hr.hd S.a.co (closure_ok S.a.free) S.a.cell S.a.dot S.a.loc S.lb S.ne S.a.kind (by omega) (wpAny_mono h (fun xv s1 z => ?_) fun _ _ e => e) hs
  obtain ⟨s0, H1, ps, n, Pt, F, J0, hP, trip, ⟨⟨h1, t1, rfl⟩, old1, ⟨J, fp, wr, Z, Mid, rfl, go, wk, z0, hfp, hwr⟩, two⟩, hel, fin⟩ := z
  refine go _ ?_
  have hPs : s0.heap.get? P = some { cls := .none, data := .fields ps } := J0.hok P _ hP
  have ltP : P < s0.heap.objs.size := Heap.lt_size hPs
  have hP2 : h1.get? P = some { cls := .none, data := .fields ps } := old1 _ _ hPs
  have cd : PySem.W.CodeHd h1 c P := TB.code.keeps fun b u e => old1 _ _ (J0.bk b u e)
  have lim : h1.NoLimit := J0.nolimit.keeps old1
  have go2 : ∀ (code : Value) (h3 : Heap) (tk : Nat) (more : Array Value), Heap.ExtBut P h1 h3 → h1.objs.size ≤ h3.objs.size → h3.get? P = some { cls := .none, data := .fields (ps ++ more) } → TriplesOk (ps ++ more).toList →
      wpAny (model X.prog X.w) X.A (builtinsFor X.env.globals X.env.builtins) (fun bi s4 =>
        ∃ I0 fp0 wr0 n0 Pt0 Z0 Mid0 pz F0, Value.ref J = .ref I0 ∧ (∀ B : Around, B.handled = none → WalksU X.prog X.w B I0 fp0 wr0 n0 Pt0 Z0 Mid0) ∧ (∀ i vals, Pt0 i vals → ∃ va vb, vals = #[va, vb]) ∧ Z0 0 s4.heap ∧ (∀ b ∈ fp0, b < s4.heap.objs.size) ∧ s4.heap.NoLimit ∧ cStatics ∉ wr0 ∧
          (∀ hq : Heap, (∀ b o, s4.heap.get? b = some o → hq.get? b = some o) →
            QuietGenT X.prog X.w (genEnv scope (cloFrom X.env.cells scope.names []) s4.heap.objs.size code bi X.env) xa xb [] elt (List.range s4.heap.objs.size) wr0 Pt0 pz F0 hq) ∧
          (∀ g h5 tk5 gs, gs.bare = true → s4.heap.objs.size < g → h5.objs.size = g + 1 → (∀ b o, s4.heap.get? b = some o → h5.get? b = some o) →
            WalksS X.prog X.w X.A.in4 g (g :: s4.heap.objs.size :: List.range s4.heap.objs.size) (s4.heap.objs.size :: wr0) (GenOnlyQ s4.gens.size) (passing pz n0 0).length
              (fun j y => ∃ i, (passing pz n0 0)[j]? = some i ∧ F0 i y) (GenAt X.prog X.w X.A.in4 g s4.gens.size s4.heap.objs.size (List.range s4.heap.objs.size) wr0 pz n0 F0) →
            GenAt X.prog X.w X.A.in4 g s4.gens.size s4.heap.objs.size (List.range s4.heap.objs.size) wr0 pz n0 F0 0 { s4 with gens := s4.gens.push gs, toks := tk5, heap := h5 } →
            W (.ref g) { s4 with gens := s4.gens.push gs, toks := tk5, heap := h5 })) X.xe { s0 with heap := h3, toks := tk } := by
    intro code h3 tk more hx hsz hP3 trip3
    obtain ⟨bm, ob, e1, e2, e3, e4, e5, e6, e7, e8⟩ := TB.bm
    have keep3 : ∀ b u, b ≠ P → s0.heap.get? b = some u → h3.get? b = some u := fun b u hb e => hx b u hb (old1 b u e)
    have stP : cStatics ≠ P := fun z => by
      obtain ⟨_, ⟨o1, es, ep, ho, hd, _⟩, _⟩ := J0.nolimit
      rw [z, hPs] at ho
      cases ho
      cases hd
    have stL : cStatics < s0.heap.objs.size := by
      obtain ⟨_, hns, _⟩ := J0.nolimit
      exact hns.lt
    refine wpAny_builtinsFor (m := X.mg) (by rw [J0.ok.glob]; exact ((J0.mod.glob.keeps J0.bk).keeps old1).extBut hx TB.gP) e1 e2 (keep3 _ _ e4 (J0.bk _ _ e5)) e6 e7 e8 ?_
    refine ⟨J, fp, wr, n, Pt, Z, Mid, fun _ => true, F, rfl, wk, two, ?_, ?_, lim.extBut hx stP, ?_, ?_, ?_⟩
    · exact (wk X.A hr.hd).frame _ _ _ z0 fun b hb u e => hx b u (hfp b hb).2 e
    · intro b hb
      exact Nat.lt_of_lt_of_le (show b < h1.objs.size from (hfp b hb).1) hsz
    · intro z
      exact Nat.lt_irrefl _ (Nat.lt_of_lt_of_le stL (hwr _ z))
    · intro hq keepq
      refine ⟨fun B E2 i va vb s2 m2 hB hv hn hma hmb hk => ?_, fun B E2 i va vb s2 m2 hB hv _ hn hma hmb hk => ?_⟩
      · simp only [List.forIn_nil]
        exact wpAny_pure ⟨rfl, GxR.keeps_refl _⟩
      · refine hel _ B E2 i va vb s2 m2 ⟨rfl, rfl, rfl, rfl, hB, hn, fun b u hb e => ?_⟩ hv hma hmb
        have lb := Heap.lt_size e
        refine hk b (List.mem_range.mpr (Nat.lt_of_lt_of_le (Heap.lt_size (old1 b u e)) hsz)) (fun z => ?_) u (keepq b u (keep3 b u hb e))
        exact Nat.lt_irrefl _ (Nat.lt_of_lt_of_le lb (hwr b z))
    · intro g h5 tk5 gs hgb hag hsz5 hk5 W5 gat
      simp only [GxR.passing_true, List.length_range] at W5
      refine fin g _ ⟨_, _, _, _, _, W5, fun j v hv => ?_, gat, fun b hb => ?_, List.mem_cons_self, fun i s9 h9 => h9.1.typeIs, fun s' hm => ?_⟩
      · obtain ⟨i, hij, e⟩ := hv
        obtain ⟨_, ej⟩ := List.getElem?_eq_some_iff.mp hij
        rw [List.getElem_range] at ej
        subst ej
        exact e
      · show b < h5.objs.size
        have v8 : h3.objs.size < g := hag
        have v9 : h5.objs.size = g + 1 := hsz5
        have u1 : g < h5.objs.size := by
          rw [v9]
          exact Nat.lt_succ_self g
        have u2 : h3.objs.size < h5.objs.size := Nat.lt_trans v8 u1
        rcases List.mem_cons.mp hb with z | z
        · rw [z]
          exact u1
        · rcases List.mem_cons.mp z with z | z
          · rw [z]
            exact u2
          · exact Nat.lt_trans (show b < h3.objs.size from List.mem_range.mp z) u2
      · have old : ∀ b u, s0.heap.get? b = some u → b ∉ h3.objs.size :: wr := fun b u e hb => by
          have lb := Heap.lt_size e
          rcases List.mem_cons.mp hb with z | z
          · exact Nat.ne_of_lt (Nat.lt_of_lt_of_le (Heap.lt_size (old1 b u e)) hsz) z
          · exact Nat.lt_irrefl _ (Nat.lt_of_lt_of_le lb (hwr b z))
        have R := GxR.inv_tab (more := more) (h' := s'.heap) (g' := s'.gens) (d' := s'.drawn) (t' := s'.toks) J0 hP (fun b u hb e => hm.heap b u (old b u e) (hk5 b u (keep3 b u hb e)))
          (hm.heap P _ (old P _ hPs) (hk5 P _ hP3)) (AllBare.movedS (J0.bare.push hgb) hm)
        rw [GxR.sh_eta s0 s' hm.os] at R
        exact ⟨_, ⟨⟨ps ++ more, upd_same, trip3⟩, fun b hb => upd_ne hb⟩, R⟩
  refine ⟨lim, ?_⟩
  cases hf : codeAmong gpos ps.toList with
  | none =>
    refine wpAny_genexprCodeX hcode (cd.code hP2 trip) (cd.tab hP2) hf fun c' h' tk hx hge hlt hco' _ htab' _ => ?_
    obtain ⟨o1, vs, f1, tf, fl, tg, inF, tx, tt, op, _, _, _, _, _, _, _, _, _, htr, _⟩ := hco'
    exact go2 _ h' tk _ hx (Nat.le_trans hge (Nat.le_of_lt hlt)) htab'.2 htr
  | some cv =>
    refine wpAny_genexprCode_hit hcode (cd.code hP2 trip) hf ?_
    exact go2 cv h1 t1 #[] (Heap.ExtBut.refl _ _) (Nat.le_refl _) (by rw [Array.append_empty]; exact hP2) (by rw [Array.append_empty]; exact trip)
structure PElt2 (X : Cx) (P : Addr) (scope : Scope) (xa xb : Str) (elt : Expr) (te : V → V → V → Prop) : Prop where
  run : ∀ (pins : List (Addr × Obj)) (s0 : Shared) (σ : L2.St) (H : Hp), Inv X pins σ H s0 → GxR.TabG H P → ∀ (cenv : Env) (B : Around) (E2 : Value → Shared → Prop) (s2 : Shared) (m2 : Str → Option Value) (v1 v2 y : V) (u1 u2 : Value),
    InGen X P scope s0 cenv B s2 m2 → RelV v1 u1 → RelV v2 u2 → te v1 v2 y → m2 xa = some u1 → m2 xb = some u2 → wpAny (model X.prog X.w) B (eval elt cenv) (fun z s3 => RelV y z ∧ Keeps s2 s3) E2 s2
def tTupZ (P : Addr) (ta : TA) (te : V → V → V → Prop) : TE := fun σ H Q => ta σ H fun vs H1 => ∃ (a b : Addr) (xs ys : List V), vs = [.ref a, .ref b] ∧ H1 a = some (.tup xs) ∧ H1 b = some (.tup ys) ∧ xs.length = ys.length ∧ GxR.TabG H1 P ∧
  ∃ zs : List V, zs.length = xs.length ∧ (∀ (i : Nat) (x y : V), xs[i]? = some x → ys[i]? = some y → ∃ z, zs[i]? = some z ∧ te x y z) ∧ ∀ H2 p, GxR.Tabbed P H1 H2 → H2 p = none → Q (.ref p) (upd H2 p (.tup zs))
/-- tuple(element for xa, xb in zip(e, e2)), two tuples of one length -/
theorem pe_tupZ {X : Cx} {c P : Addr} {elt e e2 : Expr} {xa xb : Str} {pa pb pt p p2 pos gpos zpos : Pos} {kt : Nat} {scope : Scope} {ta : TA} {te : V → V → V → Prop} {k : Nat}
    (hr : Room k X.A) (hg : Gl X "tuple") (hm : X.mg "tuple" = none) (hb : bootBuiltins "tuple" = some (.type "tuple")) (hgz : Gl X "zip") (hmz : X.mg "zip" = none) (TB : GxR.TabB X.base X.mg c P) (hcode : X.env.code = .ref c) (S : GenS2 X.env scope xa xb)
    (ha : PA X [e, e2] ta) (hel : PElt2 X P scope xa xb elt te) (hs : ∀ v, genFold (.Call (.Name "zip" p2) [e, e2] [] zpos) X.env v = pure v)
    (he : starEach [.GeneratorExp elt [⟨.Tuple [.Name xa pa, .Name xb pb] kt pt, .Call (.Name "zip" p2) [e, e2] [] zpos, [], 0⟩] scope gpos] X.env = (false, eval (.GeneratorExp elt [⟨.Tuple [.Name xa pa, .Name xb pb] kt pt, .Call (.Name "zip" p2) [e, e2] [] zpos, [], 0⟩] scope gpos) X.env) :: starEach [] X.env := by rfl)
    (hz1 : starEach [e, e2] X.env = (false, eval e X.env) :: starEach [e2] X.env := by rfl) (hz2 : (backTo zpos (starEach [e2] X.env)).any (·.1) = false := by rfl) :
    PE X (.Call (.Name "tuple" p) [.GeneratorExp elt [⟨.Tuple [.Name xa pa, .Name xb pb] kt pt, .Call (.Name "zip" p2) [e, e2] [] zpos, [], 0⟩] scope gpos] [] pos) (tTupZ P ta te) := by
  refine ⟨fun pins s σ H Q I h => ?_⟩
  refine wpAny_Call_Name_kw (ld_blt I hg hm hb ?_)
  refine PyProof.Rows.callWith_type1 ?_ he (by rfl)
  rw [he]
  show wpAny _ _ (spliced ((false, eval (.GeneratorExp elt [⟨.Tuple [.Name xa pa, .Name xb pb] kt pt, .Call (.Name "zip" p2) [e, e2] [] zpos, [], 0⟩] scope gpos) X.env) :: backTo pos (starEach [] X.env))) _ _ s
  refine Calls.spliced_cons (gen_two (pins := pins) (σ := σ) hr TB hcode S hs ?_)
  refine Call_ (ld_blt I hgz hmz PyProof.Rows.boot_zip (PyProof.Rows.callWith_type1 (thn (ha.run zpos pins s σ H _ I h) fun us s0 ⟨vs, H1, J, r1, q1⟩ => ?_) hz1 hz2))
  obtain ⟨a, b, xs, ys, rfl, hxa, hyb, hxy, tg, zs, lz, hzs, q⟩ := q1
  cases r1 with
  | cons r rr =>
    cases rr with
    | cons r' rr =>
      cases rr
      cases r
      cases r'
      obtain ⟨ix, rx, px, hz⟩ := J.tuple (show SqT X.K H1 a xs from .inl (.inl hxa))
      obtain ⟨iy, ry, py, _⟩ := J.tuple (show SqT X.K H1 b ys from .inl (.inl hyb))
      obtain ⟨ps, hP, trip⟩ := tg
      have naP : a ≠ P := ne_of hxa hP (fun z => by cases z)
      have nbP : b ≠ P := ne_of hyb hP (fun z => by cases z)
      have lta : a < s0.heap.objs.size := by
        obtain ⟨o, ho, _⟩ := px
        exact Heap.lt_size ho
      have ltb : b < s0.heap.objs.size := by
        obtain ⟨o, ho, _⟩ := py
        exact Heap.lt_size ho
      have ltP : P < s0.heap.objs.size := Heap.lt_size (J.hok P _ hP)
      have hnx := rx.length
      have hny := ry.length
      refine RZ.call_zipT (show s0.heap.IsTuple a ix.toArray from px) (show s0.heap.IsTuple b iy.toArray from py) fun h1 isz hTI hTO i1 i2 sz5 keep => ?_
      refine ⟨s0, H1, ps, xs.length, fun i vals => ∃ x1 x2, ix.toArray[i]? = some x1 ∧ iy.toArray[i]? = some x2 ∧ vals = #[x1, x2], fun i u => ∃ z, zs[i]? = some z ∧ RelV z u, J, hP, trip, ⟨⟨h1, s0.toks, rfl⟩, keep, ?_, ?_⟩, ?_, fun g s5 at5 => ?_⟩
      · have en : min ix.toArray.size iy.toArray.size = xs.length := by
          rw [List.size_toArray, List.size_toArray]
          omega
        have WW := fun (B : Around) (hB : B.handled = none) => (WalksT.zipD2 (prog := X.prog) (w := X.w) (A := B) (zip_sep2 (N := s0.heap.objs.size) (fp1 := [a]) (fp2 := [b]) (fun c hc => by rw [List.mem_singleton.mp hc]; exact lta) (fun c hc => by rw [List.mem_singleton.mp hc]; exact ltb))
          (Draws.tuple (A := B.in1) hB s0.heap.objs.size a (Nat.ne_of_lt lta) ix.toArray) (Draws.tuple (A := B.in1) hB (s0.heap.objs.size + 1) b (Nat.ne_of_lt (Nat.lt_succ_of_lt ltb)) iy.toArray)).toU
        simp only [en] at WW
        refine ⟨s0.heap.objs.size + 4, _, _, _, _, rfl, fun Q hQ => wpAny_pyIter_zip isz hQ, WW, ⟨isz, hTI, ⟨_, _, hTO⟩, ⟨i1, (show s0.heap.IsTuple a ix.toArray from px).at fun o e => keep _ o e⟩, ⟨i2, (show s0.heap.IsTuple b iy.toArray from py).at fun o e => keep _ o e⟩⟩, fun d hd => ?_, fun d hd => ?_⟩
        · show d < h1.objs.size ∧ d ≠ P
          rw [sz5]
          have up : ∀ j : Nat, j < 5 → (s0.heap.objs.size + j : Nat) < s0.heap.objs.size + 5 ∧ (s0.heap.objs.size + j : Nat) ≠ P := fun j hj => ⟨by omega, Nat.ne_of_gt (Nat.lt_of_lt_of_le ltP (Nat.le_add_right _ _))⟩
          have hd' : d = s0.heap.objs.size + 4 ∨ d = s0.heap.objs.size + 2 ∨ d = s0.heap.objs.size + 3 ∨ d = s0.heap.objs.size ∨ d = a ∨ d = s0.heap.objs.size + 1 ∨ d = b := by simpa using hd
          rcases hd' with z | z | z | z | z | z | z
          · rw [z]; exact up 4 (by decide)
          · rw [z]; exact up 2 (by decide)
          · rw [z]; exact up 3 (by decide)
          · rw [z]; exact up 0 (by decide)
          · rw [z]; exact ⟨Nat.lt_of_lt_of_le lta (Nat.le_add_right _ _), naP⟩
          · rw [z]; exact up 1 (by decide)
          · rw [z]; exact ⟨Nat.lt_of_lt_of_le ltb (Nat.le_add_right _ _), nbP⟩
        · have hd' : d = s0.heap.objs.size + 4 ∨ d = s0.heap.objs.size + 3 ∨ d = s0.heap.objs.size ∨ d = s0.heap.objs.size + 1 := by simpa using hd
          rcases hd' with z | z | z | z
          · rw [z]; exact Nat.le_add_right _ _
          · rw [z]; exact Nat.le_add_right _ _
          · rw [z]; exact Nat.le_refl _
          · rw [z]; exact Nat.le_add_right _ _
      · rintro i vals ⟨x1, x2, _, _, rfl⟩
        exact ⟨x1, x2, rfl⟩
      · intro cenv B E2 i va vb s2 m2 ig hv hma hmb
        obtain ⟨x1, x2, e1, e2', ev⟩ := hv
        have ev1 : va = x1 ∧ vb = x2 := by simpa using ev
        obtain ⟨rfl, rfl⟩ := ev1
        have hi : i < xs.length := by
          have := (Array.getElem?_eq_some_iff.mp e1).1
          rw [List.size_toArray] at this
          omega
        have gx : xs[i]? = some xs[i] := List.getElem?_eq_getElem hi
        have gy : ys[i]? = some (ys[i]'(by omega)) := List.getElem?_eq_getElem (by omega)
        obtain ⟨w1, ew1, rw1⟩ := rx.get gx
        obtain ⟨w2, ew2, rw2⟩ := ry.get gy
        have f1 : va = w1 := by
          have z : ix[i]? = some va := by simpa using e1
          rw [z] at ew1
          exact Option.some.inj ew1
        have f2 : vb = w2 := by
          have z : iy[i]? = some vb := by simpa using e2'
          rw [z] at ew2
          exact Option.some.inj ew2
        subst f1 f2
        obtain ⟨z, ez, tz⟩ := hzs i _ _ gx gy
        exact wpAny_mono (hel.run pins s0 σ H1 J ⟨ps, hP, trip⟩ cenv B E2 s2 m2 _ _ z va vb ig rw1 rw2 tz hma hmb) (fun y s3 rr => ⟨⟨z, ez, rr.1⟩, rr.2⟩) fun _ _ e => e
      · refine Calls.spliced_nil ?_
        obtain ⟨fp, wr, G, F', Z, W5, im, z0, hfp, hgf, hT, hinv⟩ := at5
        refine PySem.call_tuple_gen (n := xs.length) W5.in4_3 hT z0 hfp hgf (fun s' acc mv it => ?_) hz
        obtain ⟨H2, tb, J2⟩ := hinv s' mv
        have vs : Vals zs acc.toList := vals_of zs acc.toList (by rw [Array.length_toList, it.1, lz]) fun j u hj => im j u (it.2 j u (by simpa using hj))
        refine ⟨.ref s'.heap.objs.size, _, J2.laid (t' := s'.toks) (o := .tup zs) (fun b ob e => Heap.get?_push_of_some _ e) (Nat.le_refl _) ⟨by omega, acc.toList, vs, ?_⟩, rfl, q H2 _ tb (J2.hok.fresh (Nat.le_refl _))⟩
        have ea : acc.toList.toArray = acc := by simp
        rw [ea]
        exact IsTup.new _ _
/-! len({len(row) for row in rows}) -/
def cnt (ls : List Int) : Nat := (ls.foldl (fun (st : List Int × Nat) k => (st.1 ++ [k], if k ∈ st.1 then st.2 else st.2 + 1)) ([], 0)).2
theorem cnt_fst (ls : List Int) : ∀ (a : List Int) (n : Nat), (ls.foldl (fun (st : List Int × Nat) k => (st.1 ++ [k], if k ∈ st.1 then st.2 else st.2 + 1)) (a, n)).1 = a ++ ls := by
  induction ls with
  | nil => intro a n; rw [List.append_nil]; rfl
  | cons x r ih =>
    intro a n
    rw [List.foldl_cons, ih, List.append_assoc]
    rfl
theorem cnt_snoc (ls : List Int) (k : Int) : cnt (ls ++ [k]) = if k ∈ ls then cnt ls else cnt ls + 1 := by
  unfold cnt
  rw [List.foldl_append]
  show (if k ∈ (ls.foldl _ ([], 0)).1 then _ else _) = _
  rw [cnt_fst]
  rfl
theorem cnt_le (ls : List Int) : cnt ls ≤ ls.length := by
  rw [← List.reverse_reverse ls]
  induction ls.reverse with
  | nil => exact Nat.le_refl 0
  | cons x r ih =>
    rw [List.reverse_cons, cnt_snoc, List.length_append]
    split
    · exact Nat.le_trans ih (Nat.le_add_right _ _)
    · exact Nat.succ_le_succ ih
theorem lenB : bootBuiltins "len" = some (.builtin "len") := PySem.boot_len
theorem pe_lenSC {X : Cx} {i : Nat} {x r : Str} {scope : Scope} {p1 p2 p3 p4 p5 p6 p7 p8 : Pos} (hgl : Gl X "len") (hm : X.mg "len" = none) (hc : X.calm = true) (hN : X.N[i]? = some r) (hv : Vis X.env.scope r) (hk : scope.kind = .function)
    (hcell : ∀ y ∈ scope.names, y.2 ≠ .cell) (hnm : ∀ y ∈ scope.names, y.2 = .local → scope.names.lookup y.1 = some .local) (hfr : ∀ y ∈ scope.names, y.2 ≠ .free) (hx : scope.names.lookup x = some .local) (hl : (relabel scope X.env).names.lookup ("len" : Str) = some .globalImplicit)
    (hd : (x == ("__debug__" : Str)) = false := by decide) (hd2 : (r == ("__debug__" : Str)) = false := by decide) (hd3 : (r == ("__classdict__" : Str)) = false := by decide)
    (he : starEach [.SetComp (.Call (.Name "len" p2) [.Name x p3] [] p4) [⟨.Name x p5, .Name r p6, [], 0⟩] scope p7] X.env = (false, eval (.SetComp (.Call (.Name "len" p2) [.Name x p3] [] p4) [⟨.Name x p5, .Name r p6, [], 0⟩] scope p7) X.env) :: starEach [] X.env := by rfl) :
    PE X (.Call (.Name "len" p1) [.SetComp (.Call (.Name "len" p2) [.Name x p3] [] p4) [⟨.Name x p5, .Name r p6, [], 0⟩] scope p7] [] p8)
      (fun σ H Q => ∃ (l : Addr) (as : List (Addr × List V)), σ[i]? = some (some (.ref l)) ∧ H l = some (.lst (as.map fun q => V.ref q.1)) ∧ as.length ≤ 8 ∧ (∀ q ∈ as, H q.1 = some (.tup q.2)) ∧ Q (.int ((cnt (as.map fun q => ((q.2.length : Nat) : Int)) : Nat))) H) := by
  refine ⟨fun pins s σ H Q I h => ?_⟩
  obtain ⟨l, as, hσ, hH, hln, hts, q⟩ := h
  have hh := I.ok.hd hc
  have hsl : sizeLine = 16777216 := by decide
  have hsb : 100 < scanBound := by decide
  refine wpAny_Call_Name_kw (ld_blt I hgl hm lenB ?_)
  refine PyProof.Rows.callWith_builtin1 ?_ he (by rfl)
  rw [he]
  show wpAny _ _ (spliced ((false, eval (.SetComp (.Call (.Name "len" p2) [.Name x p3] [] p4) [⟨.Name x p5, .Name r p6, [], 0⟩] scope p7) X.env) :: backTo p8 (starEach [] X.env))) _ _ s
  refine Calls.spliced_cons (SetComp_goes (closure_ok fun y hy e => absurd e (hfr y hy)) hcell hk hnm ?_ (by intro _; rfl))
  refine thn ((pe_var (pos := p6) hN hv hd2 hd3).run pins s σ H (fun v H1 => v = .ref l ∧ H1 = H) I ⟨_, hσ, rfl, rfl⟩) fun xv s1 ⟨v, H1, I1, r1, e1, e2⟩ => ?_
  subst e1 e2
  obtain rfl : xv = Value.ref l := r1
  obtain ⟨its, rv, pl, _⟩ := I1.list (show SqL X.K H1 l _ from .inl (.inl hH))
  have hIL := pl.isList
  have hlt : l < s1.heap.objs.size := by
    obtain ⟨o, ho, _⟩ := hIL
    exact Heap.lt_size ho
  refine wpAny_pyIter_list hIL ?_
  generalize hs2 : ({ s1 with heap := s1.heap.push { cls := .type "list_iterator", data := .fields #[.ref l, .int 0 0] } } : Shared) = s2
  have k12 : ∀ b o, s1.heap.get? b = some o → s2.heap.get? b = some o := fun b o e => by
    rw [← hs2]
    exact Heap.get?_push_of_some _ e
  have hit : s2.heap.IsListIter s1.heap.objs.size l 0 := by
    rw [← hs2]
    exact ⟨_, Heap.get?_push_size _ rfl, rfl, rfl⟩
  have z2 : s2.heap.objs.size = s1.heap.objs.size + 1 := by
    rw [← hs2]
    exact Heap.size_push ..
  have os2 : s2.os = s1.os ∧ s2.gens = s1.gens ∧ s2.drawn = s1.drawn := by
    rw [← hs2]
    exact ⟨rfl, rfl, rfl⟩
  have len : its.length = as.length := by rw [← rv.length, List.length_map]
  refine ⟨s1.heap.objs.size, _, _, _, _, _, rfl, Goes.list hh s1.heap.objs.size l (Nat.ne_of_lt hlt) its.toArray, ⟨hit, hIL.at fun o e => k12 _ o e⟩, fun D C s3 hB hD => ?_⟩
  obtain ⟨⟨h3, tk3, rfl⟩, old, nD, nC, hDC, hns⟩ := hB
  let ls : List Int := as.map fun q => ((q.2.length : Nat) : Int)
  have hls : ls.length = as.length := List.length_map ..
  have ltD : s1.heap.objs.size < D := by
    have h9 : s2.heap.objs.size ≤ D := nD
    exact Nat.lt_of_lt_of_le (by rw [z2]; exact Nat.lt_succ_self _) h9
  have ltC : s1.heap.objs.size < C := by
    have h9 : s2.heap.objs.size ≤ C := nC
    exact Nat.lt_of_lt_of_le (by rw [z2]; exact Nat.lt_succ_self _) h9
  refine ⟨fun i s' => ∃ h' tk m, s' = { s2 with heap := h', toks := tk } ∧ h'.Ns C m ∧ SetR X.w h' D (fun k => decide (k ∈ ls.take i)) (cnt (ls.take i)) ∧ ∀ b o, s1.heap.get? b = some o → h'.get? b = some o, ⟨h3, tk3, _, rfl, hns, ?_, fun b o e => old b o (k12 b o e)⟩, ?_, ?_, ?_⟩
  · refine ⟨_, #[], 0, _, hD, ⟨rfl, rfl, rfl⟩, rfl, (fun e he => by simp at he), (by simp), (fun k => by simp), (by decide), (by rfl), rfl, List.Pairwise.nil, ?_⟩
    show _ ∨ (!X.w.params.followText "set-order") = true
    cases X.w.params.followText "set-order" with
    | false => exact .inr rfl
    | true => exact .inl rfl
  · rintro i s' h' tk ⟨h4, tk4, m, rfl, n4, R4, k4⟩ hk' _
    have off : ∀ b : Addr, b ≠ s1.heap.objs.size → b ∉ [s1.heap.objs.size] := fun b hb hm => hb (List.mem_singleton.mp hm)
    exact ⟨h', tk, m, rfl, n4.at' fun o e => hk' _ o (off _ (Nat.ne_of_gt ltC)) e, R4.at fun o e => hk' _ o (off _ (Nat.ne_of_gt ltD)) e, fun b o e => hk' b o (off _ (Nat.ne_of_lt (Heap.lt_size e))) (k4 b o e)⟩
  · rintro i v s' hi hv st ⟨h4, tk4, m, rfl, n4, R4, k4⟩
    have hv2 : its[i]? = some v := by simpa using hv
    have hi2 : i < as.length := by
      have := (List.getElem?_eq_some_iff.mp hv2).1
      omega
    have ga : (as.map fun q => V.ref q.1)[i]? = some (V.ref as[i].1) := by
      rw [List.getElem?_map, List.getElem?_eq_getElem hi2]
      rfl
    obtain ⟨u, hu, ru⟩ := rv.get ga
    rw [hv2] at hu
    cases hu
    obtain rfl : v = Value.ref as[i].1 := ru
    have hti := hts as[i] (List.getElem_mem hi2)
    obtain ⟨its2, rv2, it2, hz2⟩ := I1.tuple (show SqT X.K H1 as[i].1 _ from .inl (.inl hti))
    have hkx : (compEnvC scope (cloFrom X.env.cells scope.names []) C X.env).kindOf x = some .local := lookup_relabel_local hx
    have hp : ((compEnvC scope (cloFrom X.env.cells scope.names []) C X.env).scope.kind == .class || ((compEnvC scope (cloFrom X.env.cells scope.names []) C X.env).scope.kind == .module && (compEnvC scope (cloFrom X.env.cells scope.names []) C X.env).locals != (compEnvC scope (cloFrom X.env.cells scope.names []) C X.env).globals)) = false := by
      show (scope.kind == .class || (scope.kind == .module && _)) = false
      rw [hk]
      rfl
    refine wpAny_assign_Name (wpAny_storeName_local hkx n4 (fun h5 n5 s5 => ?_) hp)
    have k5 : ∀ b o, b ≠ C → h4.get? b = some o → h5.get? b = some o := fun b o hb e => (s5.2 b hb).trans e
    have k15 : ∀ b o, s1.heap.get? b = some o → h5.get? b = some o := fun b o e => k5 b o (Nat.ne_of_lt (Nat.lt_trans (Heap.lt_size e) ltC)) (k4 b o e)
    refine wpAny_tests_nil ?_
    rw [if_pos rfl]
    obtain ⟨mb, b1, b2⟩ := I1.mod.blt
    have up : ∀ {a : Addr} {m : Str → Option Value}, X.base.Ns a m → h5.Ns a m := fun n => (n.keeps I1.bk).keeps k15
    refine wpAny_Call_Name_kw (Calls.Name_function_global hk hl (Calls.loadGlobal_builtin (show h5.Ns X.env.globals X.mg by rw [I1.ok.glob]; exact up I1.mod.glob) hm (show h5.Ns X.env.builtins mb by rw [I1.ok.blt]; exact up b1) ((b2 "len" (by decide)).trans lenB) ?_))
    refine PyProof.Rows.callWith_builtin1 ?_ rfl rfl
    refine Calls.spliced_cons (wpAny_Name (wpAny_loadName_local hk hkx n5 (by rw [if_pos rfl]) ?_) hd)
    refine Calls.spliced_nil ?_
    obtain ⟨ot, hot, rest⟩ := it2
    refine len_tuple (items := its2.toArray) ⟨ot, k15 _ _ hot, rest⟩ (by simp only [List.size_toArray]; have := rv2.length; omega) ?_
    have R5 : SetR X.w h5 D (fun k => decide (k ∈ ls.take i)) (cnt (ls.take i)) := R4.at fun o e => k5 _ o hDC e
    have gl : ls[i]? = some ((its2.toArray.size : Nat) : Int) := by
      show (as.map _)[i]? = _
      rw [List.getElem?_map, List.getElem?_eq_getElem hi2, List.size_toArray, ← rv2.length]
      rfl
    refine setR_add R5 ?_ fun h6 sb6 new => ?_
    · have := cnt_le (ls.take i)
      rw [List.length_take] at this
      omega
    · have tk1 : ls.take (i + 1) = ls.take i ++ [((its2.toArray.size : Nat) : Int)] := by
        rw [List.take_add_one, gl]
        rfl
      have k6 : ∀ b o, b ≠ D → h5.get? b = some o → h6.get? b = some o := fun b o hb e => (sb6.2 b hb).trans e
      refine ⟨⟨h6, _, _, rfl, n5.at' fun o e => k6 _ o (Ne.symm hDC) e, ?_, fun b o e => k6 b o (Nat.ne_of_lt (Nat.lt_trans (Heap.lt_size e) ltD)) (k15 b o e)⟩, ?_⟩
      · rw [tk1, cnt_snoc]
        have e1 : (if decide (((its2.toArray.size : Nat) : Int) ∈ ls.take i) = true then cnt (ls.take i) else cnt (ls.take i) + 1) = (if ((its2.toArray.size : Nat) : Int) ∈ ls.take i then cnt (ls.take i) else cnt (ls.take i) + 1) := by
          by_cases z : ((its2.toArray.size : Nat) : Int) ∈ ls.take i
          · rw [if_pos z, if_pos (decide_eq_true z)]
          · rw [if_neg z, if_neg (fun y => z (of_decide_eq_true y))]
        rw [← e1]
        refine new.congr fun k => ?_
        rw [Bool.eq_iff_iff]
        simp
      · have a1 : s1.heap.objs.size ≠ C := Nat.ne_of_lt ltC
        have a2 : s1.heap.objs.size ≠ D := Nat.ne_of_lt ltD
        have a3 : l ≠ C := Nat.ne_of_lt (Nat.lt_trans hlt ltC)
        have a4 : l ≠ D := Nat.ne_of_lt (Nat.lt_trans hlt ltD)
        exact ⟨st.1.at fun o e => k6 _ o a2 (k5 _ o a1 e), st.2.at fun o e => k6 _ o a4 (k5 _ o a3 e)⟩
  · rintro s' ⟨h4, tk4, m, rfl, n4, R4, k4⟩
    refine ⟨m, n4, fun h5 sb => ?_⟩
    refine Calls.spliced_nil ?_
    have k5 : ∀ b o, b ≠ C → h4.get? b = some o → h5.get? b = some o := fun b o hb e => (sb.2 b hb).trans e
    obtain ⟨o, es, ep, t, ho, hx9, hd9, _, _, _, hb9, hf9, hn9, _⟩ := R4
    have el : ls.take its.toArray.size = ls := List.take_of_length_le (by rw [List.size_toArray, len, hls]; exact Nat.le_refl _)
    rw [el] at hn9
    have sm := cnt_le ls
    refine call_len_set (k5 _ _ hDC ho) hx9 hd9 hf9 (by omega) ?_
    subst hs2
    refine ⟨.int _, H1, I1.kept fun b u e => k5 b u (Nat.ne_of_lt (Nat.lt_trans (Heap.lt_size e) ltC)) (k4 b u e), ⟨tk4 + 1, by rw [hn9]⟩, q⟩
/-! sum(tuple) -/
theorem preSum_take (ns : List Int) : ∀ k, preSum (fun i => ns.getD i 0) k = (ns.take k).sum
  | 0 => rfl
  | k + 1 => by
    show preSum (fun i => ns.getD i 0) k + ns.getD k 0 = _
    rw [preSum_take ns k, List.take_add_one, List.getD_eq_getElem?_getD]
    cases ns[k]? with
    | none => simp
    | some x => simp
def rSumT (K : PySem.W.Frag) : List V → Hp → VK → Prop := fun vs H Q => ∃ (a : Addr) (ns : List Int), vs = [V.ref a] ∧ SqT K H a (ns.map V.int) ∧ Q (.int ns.sum) H
theorem cr_sumT {X : Cx} (hc : X.calm = true) : CallR X (.builtin "sum") (rSumT X.K) := by
  intro pins s σ H vs us Q I r h
  obtain ⟨a, ns, rfl, hs, q⟩ := h
  obtain ⟨its, rv, ht, _⟩ := I.tuple hs
  rw [Vals.ref1 r]
  have hh := I.ok.hd hc
  have lta : a < s.heap.objs.size := by
    obtain ⟨o, ho, _⟩ := ht
    exact Heap.lt_size ho
  have hl := rv.length
  rw [List.length_map] at hl
  refine call_sum_walkG (wpAny_pyIter_tuple (show s.heap.IsTuple a its.toArray from ht) ⟨s.heap.objs.size, _, _, _, _, _, fun i => ns.getD i 0, rfl, Walks.tuple (A := X.A.in1) hh s.heap.objs.size a (Nat.ne_of_lt lta) its.toArray, ⟨⟨_, Heap.get?_push_size _ rfl, rfl, rfl⟩, (show s.heap.IsTuple a its.toArray from ht).at fun o e => Heap.get?_push_of_some _ e⟩, fun b hb => ?_, fun i v hv => ?_, fun h' tk t' hk => ?_⟩)
  · show b < (s.heap.push _).objs.size
    rw [Heap.size_push]
    rcases List.mem_cons.mp hb with z | z
    · rw [z]
      exact Nat.lt_succ_self _
    · rw [List.mem_singleton.mp z]
      exact Nat.lt_succ_of_lt lta
  · have hv2 : its[i]? = some v := by simpa using hv
    have hi : i < ns.length := by
      have := (List.getElem?_eq_some_iff.mp hv2).1
      omega
    obtain ⟨u, hu, ru⟩ := rv.get (show (ns.map V.int)[i]? = some (V.int ns[i]) by rw [List.getElem?_map, List.getElem?_eq_getElem hi]; rfl)
    rw [hv2] at hu
    cases hu
    obtain ⟨t, rfl⟩ := (show ∃ t, v = Value.int ns[i] t from ru)
    exact ⟨t, by
      show Value.int ns[i] t = Value.int (ns.getD i 0) t
      rw [List.getD_eq_getElem?_getD, List.getElem?_eq_getElem hi]
      rfl⟩
  · rw [preSum_take, List.take_of_length_le (by rw [List.size_toArray]; omega)]
    refine ⟨.int _, H, I.kept fun b o e => hk b o (fun z => ?_) (Heap.get?_push_of_some _ e), ⟨_, rfl⟩, q⟩
    rw [List.mem_singleton] at z
    rw [z] at e
    exact Nat.lt_irrefl _ (Heap.lt_size e)
theorem sumTK {X : Cx} {K : PySem.W.Frag} (h : X.K = K) (hc : X.calm = true) : CallR X (.builtin "sum") (rSumT K) := by
  subst h
  exact cr_sumT hc
/-! elements -/
theorem elt_and {X : Cx} {P : Addr} {scope : Scope} {xa xb : Str} {p1 p2 p3 : Pos} (hk : scope.kind = .function) (l1 : scope.names.lookup xa = some .local) (l2 : scope.names.lookup xb = some .local)
    (n1 : (xa == ("__debug__" : Str)) = false := by decide) (n2 : (xb == ("__debug__" : Str)) = false := by decide) :
    PElt2 X P scope xa xb (.BinOp (.Name xa p1) .BitAnd (.Name xb p2) p3) (fun x y z => ∃ i j : Int, x = .int i ∧ y = .int j ∧ z = .int (Builtin.bitAnd i j)) := by
  refine ⟨fun pins s0 σ H I tg cenv B E2 s2 m2 v1 v2 y u1 u2 g r1 r2 te hma hmb => ?_⟩
  obtain ⟨i, j, rfl, rfl, rfl⟩ := te
  obtain ⟨t1, rfl⟩ := (show ∃ t, u1 = Value.int i t from r1)
  obtain ⟨t2, rfl⟩ := (show ∃ t, u2 = Value.int j t from r2)
  refine wpAny_BinOp (ig_local g hk l1 hma (GxR.keeps_refl s2) ?_ n1)
  refine ig_local g hk l2 hmb (GxR.keeps_refl s2) ?_ n2
  exact and_int ⟨⟨_, rfl⟩, GxR.keeps_tok s2 _⟩
theorem elt_or {X : Cx} {P : Addr} {scope : Scope} {xa xb : Str} {p1 p2 p3 : Pos} (hk : scope.kind = .function) (l1 : scope.names.lookup xa = some .local) (l2 : scope.names.lookup xb = some .local)
    (n1 : (xa == ("__debug__" : Str)) = false := by decide) (n2 : (xb == ("__debug__" : Str)) = false := by decide) :
    PElt2 X P scope xa xb (.BinOp (.Name xa p1) .BitOr (.Name xb p2) p3) (fun x y z => ∃ i j : Int, x = .int i ∧ y = .int j ∧ z = .int (Builtin.bitOr i j)) := by
  refine ⟨fun pins s0 σ H I tg cenv B E2 s2 m2 v1 v2 y u1 u2 g r1 r2 te hma hmb => ?_⟩
  obtain ⟨i, j, rfl, rfl, rfl⟩ := te
  obtain ⟨t1, rfl⟩ := (show ∃ t, u1 = Value.int i t from r1)
  obtain ⟨t2, rfl⟩ := (show ∃ t, u2 = Value.int j t from r2)
  refine wpAny_BinOp (ig_local g hk l1 hma (GxR.keeps_refl s2) ?_ n1)
  refine ig_local g hk l2 hmb (GxR.keeps_refl s2) ?_ n2
  exact or_int ⟨⟨_, rfl⟩, GxR.keeps_tok s2 _⟩
theorem elt_xor {X : Cx} {P : Addr} {scope : Scope} {xa xb : Str} {p1 p2 p3 : Pos} (hk : scope.kind = .function) (l1 : scope.names.lookup xa = some .local) (l2 : scope.names.lookup xb = some .local)
    (n1 : (xa == ("__debug__" : Str)) = false := by decide) (n2 : (xb == ("__debug__" : Str)) = false := by decide) :
    PElt2 X P scope xa xb (.BinOp (.Name xa p1) .BitXor (.Name xb p2) p3) (fun x y z => ∃ i j : Int, x = .int i ∧ y = .int j ∧ z = .int (Builtin.bitXor i j)) := by
  refine ⟨fun pins s0 σ H I tg cenv B E2 s2 m2 v1 v2 y u1 u2 g r1 r2 te hma hmb => ?_⟩
  obtain ⟨i, j, rfl, rfl, rfl⟩ := te
  obtain ⟨t1, rfl⟩ := (show ∃ t, u1 = Value.int i t from r1)
  obtain ⟨t2, rfl⟩ := (show ∃ t, u2 = Value.int j t from r2)
  refine wpAny_BinOp (ig_local g hk l1 hma (GxR.keeps_refl s2) ?_ n1)
  refine ig_local g hk l2 hmb (GxR.keeps_refl s2) ?_ n2
  exact xor_int ⟨⟨_, rfl⟩, GxR.keeps_tok s2 _⟩
/-! heaps with tables -/
theorem trip0 : TriplesOk (#[] : Array Value).toList := trivial
structure Sam (H H' : Hp) : Prop where
  obj : ∀ b o, (∀ ps, o ≠ .tbl ps) → H b = some o → H' b = some o
  tab : ∀ b ps, H b = some (.tbl ps) → ∃ ps', H' b = some (.tbl ps') ∧ (TriplesOk ps.toList → TriplesOk ps'.toList)
theorem Sam.of {H H' : Hp} (s : Same H H') : Sam H H' := ⟨fun b o _ e => s b o e, fun b ps e => ⟨ps, s b _ e, fun z => z⟩⟩
theorem Sam.refl (H : Hp) : Sam H H := .of (Same.refl H)
theorem Sam.trans {H H1 H2 : Hp} (a : Sam H H1) (b : Sam H1 H2) : Sam H H2 := ⟨fun c o n e => b.obj c o n (a.obj c o n e), fun c ps e => by
  obtain ⟨p1, e1, t1⟩ := a.tab c ps e
  obtain ⟨p2, e2, t2⟩ := b.tab c p1 e1
  exact ⟨p2, e2, fun z => t2 (t1 z)⟩⟩
theorem Sam.tabG {H H' : Hp} {P : Addr} (a : Sam H H') (t : GxR.TabG H P) : GxR.TabG H' P := by
  obtain ⟨ps, e, z⟩ := t
  obtain ⟨p1, e1, t1⟩ := a.tab P ps e
  exact ⟨p1, e1, t1 z⟩
theorem Sam.tup {H H' : Hp} {a : Addr} {xs : List V} (s : Sam H H') (h : H a = some (.tup xs)) : H' a = some (.tup xs) := s.obj _ _ (fun _ z => by cases z) h
theorem Sam.lst {H H' : Hp} {a : Addr} {xs : List V} (s : Sam H H') (h : H a = some (.lst xs)) : H' a = some (.lst xs) := s.obj _ _ (fun _ z => by cases z) h
theorem Sam.free {H H' : Hp} (s : Sam H H') {l : Addr} (h : H' l = none) : H l = none := by
  cases q : H l with
  | none => rfl
  | some o =>
    cases o with
    | tbl ps =>
      obtain ⟨p1, e1, _⟩ := s.tab l ps q
      rw [e1] at h
      cases h
    | _ =>
      rw [s.obj l _ (fun _ z => by cases z) q] at h
      cases h
theorem Sam.tabbed {P : Addr} {H H' : Hp} (g : GxR.TabG H P) (t : GxR.Tabbed P H H') : Sam H H' := by
  obtain ⟨⟨p1, e1, z1⟩, k⟩ := t
  obtain ⟨p0, e0, _⟩ := g
  refine ⟨fun b o n e => ?_, fun b ps e => ?_⟩
  · by_cases hb : b = P
    · rw [hb, e0] at e
      exact absurd (Option.some.inj e).symm (n p0)
    · rw [k b hb]
      exact e
  · by_cases hb : b = P
    · rw [hb]
      exact ⟨p1, e1, fun _ => z1⟩
    · exact ⟨ps, by rw [k b hb]; exact e, fun z => z⟩
theorem sam_newer {H H' : Hp} {q : Addr} {o : HO} (a : Sam H H') (n : H q = none) : Sam H (upd H' q o) := ⟨fun c x hx e => by
    rw [upd_ne (ne_of_none e n)]
    exact a.obj c x hx e, fun c ps e => by
    obtain ⟨p1, e1, t1⟩ := a.tab c ps e
    exact ⟨p1, by rw [upd_ne (ne_of_none e n)]; exact e1, t1⟩⟩
/-- all but the box stays, tables grow -/
structure Bus (p : Addr) (H H' : Hp) : Prop where
  obj : ∀ b o, b ≠ p → (∀ ps, o ≠ .tbl ps) → H b = some o → H' b = some o
  tab : ∀ b ps, b ≠ p → H b = some (.tbl ps) → ∃ ps', H' b = some (.tbl ps') ∧ (TriplesOk ps.toList → TriplesOk ps'.toList)
theorem Bus.of {p : Addr} {H H' : Hp} (s : But p H H') : Bus p H H' := ⟨fun b o n _ e => s b o n e, fun b ps n e => ⟨ps, s b _ n e, fun z => z⟩⟩
theorem Bus.sam {p : Addr} {H H' : Hp} (s : Sam H H') : Bus p H H' := ⟨fun b o _ n e => s.obj b o n e, fun b ps _ e => s.tab b ps e⟩
theorem Bus.refl (p : Addr) (H : Hp) : Bus p H H := .of (But.refl p H)
theorem Bus.trans {p : Addr} {H H1 H2 : Hp} (a : Bus p H H1) (b : Bus p H1 H2) : Bus p H H2 := ⟨fun c o h n e => b.obj c o h n (a.obj c o h n e), fun c ps h e => by
  obtain ⟨p1, e1, t1⟩ := a.tab c ps h e
  obtain ⟨p2, e2, t2⟩ := b.tab c p1 h e1
  exact ⟨p2, e2, fun z => t2 (t1 z)⟩⟩
theorem Bus.tup {p : Addr} {H H' : Hp} {n : Nat} {a : Addr} {xs : List V} (s : Bus p H H') (B : Bx H p n) (h : H a = some (.tup xs)) : H' a = some (.tup xs) := s.obj _ _ (B.ne_tup h) (fun _ z => by cases z) h
theorem Bus.lst {p : Addr} {H H' : Hp} {a : Addr} {xs : List V} (s : Bus p H H') (ne : a ≠ p) (h : H a = some (.lst xs)) : H' a = some (.lst xs) := s.obj _ _ ne (fun _ z => by cases z) h
theorem Bus.tabG {p : Addr} {H H' : Hp} {n : Nat} {P : Addr} (s : Bus p H H') (B : Bx H p n) (t : GxR.TabG H P) : GxR.TabG H' P := by
  obtain ⟨ps, e, z⟩ := t
  obtain ⟨a, b, c, hp, _⟩ := B
  obtain ⟨p1, e1, t1⟩ := s.tab P ps (ne_of e hp (fun z => by cases z)) e
  exact ⟨p1, e1, t1 z⟩
theorem Bus.new {p q : Addr} {H H' : Hp} {o : HO} (a : Bus p H H') (n : H' q = none) : Bus p H (upd H' q o) := a.trans (.of ((But.refl p H').new n))
/-- a thing made since H may change -/
theorem bus_newer {p q : Addr} {H H' : Hp} {o : HO} (a : Bus p H H') (n : H q = none) : Bus p H (upd H' q o) := ⟨fun c x h hx e => by
    rw [upd_ne (ne_of_none e n)]
    exact a.obj c x h hx e, fun c ps h e => by
    obtain ⟨p1, e1, t1⟩ := a.tab c ps h e
    exact ⟨p1, by rw [upd_ne (ne_of_none e n)]; exact e1, t1⟩⟩
theorem Bus.free {p : Addr} {H H' : Hp} {n : Nat} (s : Bus p H H') (B : Bx H p n) (B' : ∃ m, Bx H' p m) {l : Addr} (h : H' l = none) : H l = none := by
  cases q : H l with
  | none => rfl
  | some o =>
    have nl : l ≠ p := fun z => by
      obtain ⟨m, _, _, _, hp, _⟩ := B'
      rw [z, hp] at h
      cases h
    cases o with
    | tbl ps =>
      obtain ⟨p1, e1, _⟩ := s.tab l ps nl q
      rw [e1] at h
      cases h
    | _ =>
      rw [s.obj l _ nl (fun _ z => by cases z) q] at h
      cases h
theorem Bx.sam {H H' : Hp} {p : Addr} {n : Nat} (h : Bx H p n) (s : Sam H H') : Bx H' p n := by
  obtain ⟨a, b, c, hp, r⟩ := h
  exact ⟨a, b, c, s.lst hp, r⟩
theorem bus_same {p : Addr} {H H1 H2 : Hp} (n : H p = none) (a : Sam H H1) (b : Bus p H1 H2) : Sam H H2 := ⟨fun c x h e => b.obj c x (ne_of_none e n) h (a.obj c x h e), fun c ps e => by
  obtain ⟨p1, e1, t1⟩ := a.tab c ps e
  obtain ⟨p2, e2, t2⟩ := b.tab c p1 (ne_of_none e n) e1
  exact ⟨p2, e2, fun z => t2 (t1 z)⟩⟩
theorem ne_new {H : Hp} {p q : Addr} {n : Nat} (B : Bx H p n) (nq : H q = none) : q ≠ p := fun e => by
  obtain ⟨_, _, _, hp, _⟩ := B
  rw [e, hp] at nq
  cases nq
/-! a tuple so many times -/
theorem tuple_once (l : Addr) (items : Array Value) (n : Nat) (dd : Option Addr) (sl : Array (Option Value)) (u : Tok) :
    Meets (Builtin.«tuple.__mul__» ⟨[.ref l, .int 1 u], []⟩) (fun _ R s => s.heap.get? l = some { cls := .type "tuple", dict := dd, data := .seq items n, slots := sl } ∧ R (.ok (.ret (Value.ref l))) { s with toks := s.toks }) :=
  .of_wp fun prog w A R s h => by
    obtain ⟨hp, g, d, tk, os⟩ := s
    obtain ⟨hl, h⟩ := h
    have f1 := AutoSeq1.idx_int
    have c1 : (items.isEmpty || (1 : Int) == 1) = true := by simp
    wp_walk using wpAny_loadPart' hl
    repeat (first
      | (refine wpAny_ite_true (decide_eq_true c1) ?_; wp_walk using wpAny_loadPart' hl)
      | (refine wpAny_ite_false (decide_eq_false (by decide)) ?_; wp_walk using wpAny_loadPart' hl))
    exact ⟨_, rfl, h⟩
def rRepA (K : PySem.W.Frag) : R2 := fun x y H Q => ∃ (l : Addr) (k : Nat) (xs : List V), x = .ref l ∧ y = .int (k : Nat) ∧ SqT K H l xs ∧ xs ≠ [] ∧ 1 ≤ k ∧ xs.length * k ≤ 1000000 ∧ (k = 1 → Q (.ref l) H) ∧
  (2 ≤ k → ∀ p, H p = none → Q (.ref p) (upd H p (.tup (List.replicate k xs).flatten)))
theorem op_repA {X : Cx} : OpR X (binaryOp .Mult) (rRepA X.K) := by
  intro pins s σ H x y v u Q I rx ry h
  obtain ⟨l, k, xs, rfl, rfl, hT, hne, h1, hz, q1, q2⟩ := h
  cases rx
  obtain ⟨t, rfl⟩ := ry
  obtain ⟨its, r, ⟨⟨cls, dd, data, sl⟩, ho, hc, n, hd⟩, hs⟩ := I.tuple hT
  simp only at hc hd
  subst hc hd
  have lx : 0 < xs.length := List.length_pos_iff.mpr hne
  have le : its.length = xs.length := r.length.symm
  have ke : k * xs.length ≤ 1000000 := by
    rw [Nat.mul_comm]
    exact hz
  have kl : k ≤ 1000000 := Nat.le_trans (Nat.le_mul_of_pos_right k lx) ke
  have ne : its.toArray.isEmpty = false := by
    cases its with
    | nil =>
      rw [← le] at lx
      cases lx
    | cons a b => rfl
  by_cases k1 : k = 1
  · subst k1
    refine wpAny_binaryOp_repeat_ref (T := "tuple") (U := "int") (by decide) ⟨_, ho, rfl⟩ (fun s' => typeIs_int s' _ t) noFill_tuple_mul F.fills_int_mul F.slot_int_rmul repeat_tuple F.slot_int_index.lookup
      (call_meets F.slot_int_rmul (typeIs_int s _ t) F.entry_int_rmul (F.args_int_rmul_2 _ _) (int_rmul_tuple _ t l its.toArray n dd sl)
        ⟨ho, rfl, ⟨_, ho, rfl⟩, call_meets F.slot_tuple_mul ⟨_, ho, rfl⟩ F.entry_tuple_mul (F.args_tuple_mul_2 _ _) (tuple_once l its.toArray n dd sl t) ⟨ho, ?_⟩⟩)
    exact ⟨.ref l, H, I, rfl, q1 rfl⟩
  · have k2 : 2 ≤ k := by omega
    have sz : its.toArray.size = xs.length := by rw [List.size_toArray, le]
    have pr : ((its.toArray.size : Nat) : Int) * (k : Int) ≤ 1000000 := by
      rw [sz, ← Int.natCast_mul]
      omega
    have fl : (List.replicate k its).flatten.length ≤ sizeLine := by
      rw [PyProof.Rows.lm_len_rep_flat, le, sizeLine_eq]
      omega
    have d0 : (decide ((k : Int) < -(2 ^ 63)) || decide ((k : Int) ≥ 2 ^ 63)) = false := by
      rw [decide_eq_false (show ¬ (k : Int) < -(2 ^ 63) by omega), decide_eq_false (show ¬ (k : Int) ≥ 2 ^ 63 by omega)] <;> rfl
    have d1 : (its.toArray.isEmpty || (k : Int) == 1) = false := by
      rw [ne, Bool.false_or]
      exact beq_eq_false_iff_ne.mpr (by omega)
    have d2 : (decide ((k : Int) ≤ 0) || its.toArray.isEmpty) = false := by
      rw [ne, Bool.or_false]
      exact decide_eq_false (by omega)
    have d4 : Builtin.Tuple.tupleTooMany (((its.toArray.size : Nat) : Int) * (k : Int)) = false := by
      unfold Builtin.Tuple.tupleTooMany
      rw [sizeLine_eq]
      exact decide_eq_false (by omega)
    refine wpAny_binaryOp_repeat_ref (T := "tuple") (U := "int") (by decide) ⟨_, ho, rfl⟩ (fun s' => typeIs_int s' _ t) noFill_tuple_mul F.fills_int_mul F.slot_int_rmul repeat_tuple F.slot_int_index.lookup
      (call_meets F.slot_int_rmul (typeIs_int s _ t) F.entry_int_rmul (F.args_int_rmul_2 _ _) (int_rmul_tuple _ t l its.toArray n dd sl)
        ⟨ho, rfl, ⟨_, ho, rfl⟩, call_meets F.slot_tuple_mul ⟨_, ho, rfl⟩ F.entry_tuple_mul (F.args_tuple_mul_2 _ _) (tuple_mulW l its.toArray n dd sl (k : Int) t d0 d1 d2 (by omega) d4 (by rw [Int.toNat_natCast, size_rep, List.size_toArray]; exact fl)) ⟨ho, ?_⟩⟩)
    rw [Int.toNat_natCast, size_rep]
    refine ⟨.ref s.heap.objs.size, _, I.laid (t' := s.toks) (o := .tup (List.replicate k xs).flatten) (fun b ob q => Heap.get?_push_of_some _ q) (Nat.le_refl _) ⟨?_, _, r.rep k, IsTup.new _ _⟩, rfl, q2 k2 _ (I.hok.fresh (Nat.le_refl _))⟩
    rw [PyProof.Rows.lm_len_rep_flat, sizeLine_eq]
    omega
/-! the law's own rows -/
def Bits (rs : List Int) : Prop := ∀ x, x ∈ rs → x = 0 ∨ x = 1
theorem Bits.snoc {rs : List Int} {x : Int} (h : Bits rs) (hx : x = 0 ∨ x = 1) : Bits (rs ++ [x]) := fun y hy => by
  rcases List.mem_append.mp hy with hy | hy
  · exact h y hy
  · rw [List.mem_singleton] at hy
    rw [hy]
    exact hx
theorem but_newer {p q : Addr} {H H' : Hp} {o : HO} (a : But p H H') (n : H q = none) : But p H (upd H' q o) := fun c x hn e => by
  rw [upd_ne (ne_of_none e n)]
  exact a c x hn e
theorem Bx.other {H : Hp} {p q : Addr} {n : Nat} {o : HO} (h : Bx H p n) (nq : q ≠ p) : Bx (L2.upd H q o) p n := by
  obtain ⟨a, b, c, hp, r⟩ := h
  exact ⟨a, b, c, by rw [upd_ne (Ne.symm nq)]; exact hp, r⟩
def PV (p D : Addr) (HX : Hp) (k i : Nat) (H1 : Hp) : Prop := ∃ rs : List Int, rs.length = i ∧ Bits rs ∧ But p HX H1 ∧ Bx H1 p (k + i) ∧ H1 D = some (.lst (rs.map V.int))
theorem pv_start {p D : Addr} {HX : Hp} {k : Nat} (nD : HX D = none) (B : Bx HX p k) : PV p D HX k 0 (upd HX D (.lst [])) := ⟨[], rfl, fun _ h => (by cases h), (But.refl p HX).new nD, B.new nD, upd_same⟩
theorem pv_step {p D : Addr} {HX H1 H4 : Hp} {k i : Nat} {x : Int} (nD : HX D = none) (Dp : D ≠ p) (h : PV p D HX k i H1) (b : But p H1 H4) (B : Bx H4 p (k + (i + 1))) (hi : i < 100000) (hx : x = 0 ∨ x = 1) :
    ∃ acc, H4 D = some (.lst acc) ∧ acc.length < sizeLine ∧ PV p D HX k (i + 1) (upd H4 D (.lst (acc ++ [.int x]))) := by
  obtain ⟨rs, hl, hb, b1, _, hD⟩ := h
  have hsl : sizeLine = 16777216 := by decide
  refine ⟨_, b _ _ Dp hD, by rw [List.length_map]; omega, rs ++ [x], by rw [List.length_append, hl]; rfl, hb.snoc hx, but_newer (b1.trans b) nD, B.other Dp, ?_⟩
  rw [upd_same, List.map_append]
  rfl
theorem rep_one (m : Nat) (x : Int) : (List.replicate m [V.int x]).flatten = (List.replicate m x).map V.int := by
  rw [List.map_replicate]
  induction m with
  | zero => rfl
  | succ m ih => rw [List.replicate_succ, List.flatten_cons, ih, List.replicate_succ]; rfl
/-! a tuple no times, too -/
theorem tuple_nought (l : Addr) (items : Array Value) (n : Nat) (dd : Option Addr) (sl : Array (Option Value)) (u : Tok) (hi : items.isEmpty = false) :
    Meets (Builtin.«tuple.__mul__» ⟨[.ref l, .int 0 u], []⟩) (fun _ R s => s.heap.get? l = some { cls := .type "tuple", dict := dd, data := .seq items n, slots := sl } ∧ R (.ok (.ret (Value.ref s.heap.objs.size))) { s with heap := s.heap.push { cls := Value.type "tuple", data := Data.seq #[] }, toks := s.toks }) :=
  .of_wp fun prog w A R s h => by
    obtain ⟨hp, g, d, tk, os⟩ := s
    obtain ⟨hl, h⟩ := h
    have f1 := AutoSeq1.idx_int
    have c1 : (items.isEmpty || (0 : Int) == 1) = false := by rw [hi]; rfl
    have c2 : (decide ((0 : Int) ≤ 0) || items.isEmpty) = true := by simp
    wp_walk using wpAny_loadPart' hl
    repeat (first
      | (refine wpAny_ite_false (decide_eq_false (by rw [c1]; exact Bool.false_ne_true)) ?_; wp_walk using wpAny_loadPart' hl)
      | (refine wpAny_ite_true (decide_eq_true c2) ?_; wp_walk using wpAny_loadPart' hl)
      | (refine wpAny_ite_false (decide_eq_false (by decide)) ?_; wp_walk using wpAny_loadPart' hl))
    exact ⟨_, rfl, h⟩
def rRepB (K : PySem.W.Frag) : R2 := fun x y H Q => ∃ (l : Addr) (k : Nat) (xs : List V), x = .ref l ∧ y = .int (k : Nat) ∧ SqT K H l xs ∧ xs ≠ [] ∧ xs.length * k ≤ 1000000 ∧ (k = 1 → Q (.ref l) H) ∧
  (k ≠ 1 → ∀ p, H p = none → Q (.ref p) (upd H p (.tup (List.replicate k xs).flatten)))
theorem op_repB {X : Cx} : OpR X (binaryOp .Mult) (rRepB X.K) := by
  intro pins s σ H x y v u Q I rx ry h
  obtain ⟨l, k, xs, rfl, rfl, hT, hne, hz, q1, q2⟩ := h
  by_cases k0 : k = 0
  · subst k0
    cases rx
    obtain ⟨t, rfl⟩ := ry
    obtain ⟨its, r, ⟨⟨cls, dd, data, sl⟩, ho, hc, n, hd⟩, hs⟩ := I.tuple hT
    simp only at hc hd
    subst hc hd
    have le : its.length = xs.length := r.length.symm
    have ne : its.toArray.isEmpty = false := by
      cases its with
      | nil => exact absurd (List.eq_nil_of_length_eq_zero le.symm) hne
      | cons a b => rfl
    refine wpAny_binaryOp_repeat_ref (T := "tuple") (U := "int") (by decide) ⟨_, ho, rfl⟩ (fun s' => typeIs_int s' _ t) noFill_tuple_mul F.fills_int_mul F.slot_int_rmul repeat_tuple F.slot_int_index.lookup
      (call_meets F.slot_int_rmul (typeIs_int s _ t) F.entry_int_rmul (F.args_int_rmul_2 _ _) (int_rmul_tuple _ t l its.toArray n dd sl)
        ⟨ho, rfl, ⟨_, ho, rfl⟩, call_meets F.slot_tuple_mul ⟨_, ho, rfl⟩ F.entry_tuple_mul (F.args_tuple_mul_2 _ _) (tuple_nought l its.toArray n dd sl t ne) ⟨ho, ?_⟩⟩)
    exact ⟨.ref s.heap.objs.size, _, I.laid (t' := s.toks) (o := .tup []) (fun b ob q => Heap.get?_push_of_some _ q) (Nat.le_refl _) ⟨Nat.zero_le _, [], .nil, IsTup.new _ _⟩, rfl, q2 (by decide) _ (I.hok.fresh (Nat.le_refl _))⟩
  · exact op_repA pins s σ H _ _ v u Q I rx ry ⟨l, k, xs, rfl, rfl, hT, hne, by omega, hz, q1, fun z => q2 (by omega)⟩
/-- (x,) so many times -/
theorem rep_go {K : PySem.W.Frag} {H : Hp} {t : Addr} {x v : Int} {k : Nat} {Q : VK} (hv : v = (k : Nat)) (ht : H t = some (.tup [.int x])) (hk : k ≤ 100000) (q : ∀ H' p, Same H H' → H' p = some (.tup ((List.replicate k x).map V.int)) → Q (.ref p) H') : rRepB K (.ref t) (.int v) H Q := by
  subst hv
  refine ⟨t, k, _, rfl, rfl, SqT.mk ht, by simp, (show 1 * k ≤ 1000000 by omega), fun z => ?_, fun z p np => ?_⟩
  · subst z
    exact q H t (Same.refl H) ht
  · exact q _ p (same_upd np) (by rw [upd_same, rep_one])
theorem cat_go {K : PySem.W.Frag} {H : Hp} {a b : Addr} {rs ss : List Int} {Q : VK} (ha : H a = some (.tup (rs.map V.int))) (hb : H b = some (.tup (ss.map V.int))) (hl : rs.length + ss.length ≤ 100000)
    (q : ∀ H' p, Same H H' → H' p = some (.tup ((rs ++ ss).map V.int)) → Q (.ref p) H') : rCatA K (.ref a) (.ref b) H Q := by
  have hsl : sizeLine = 16777216 := by decide
  refine ⟨a, b, _, _, rfl, rfl, SqT.mk ha, SqT.mk hb, by rw [List.length_map, List.length_map]; omega, fun z => ?_, fun _ z => ?_, fun _ _ p np => ?_⟩
  · rw [List.map_eq_nil_iff.mp z] at q
    exact q H b (Same.refl H) hb
  · rw [List.map_eq_nil_iff.mp z] at q
    exact q H a (Same.refl H) (by rw [List.append_nil]; exact ha)
  · exact q _ p (same_upd np) (by rw [upd_same, List.map_append])
theorem catK {X : Cx} {K : PySem.W.Frag} (h : X.K = K) : OpR X (binaryOp .Add) (rCatA K) := by
  subst h
  exact op_catA
theorem zipAK {X : Cx} {K : PySem.W.Frag} {e e2 : Expr} {ta : TA} {p pos tpos : Pos} {elts : List Expr} {kk : Nat} (h : X.K = K) (hg : Gl X "zip") (hm : X.mg "zip" = none) (ha : PA X [e, e2] ta)
    (hs : starEach [e, e2] X.env = (false, eval e X.env) :: starEach [e2] X.env := by rfl) (hpl : (backTo pos (starEach [e2] X.env)).any (·.1) = false := by rfl) :
    PI X (.Tuple elts kk tpos) (.Call (.Name "zip" p) [e, e2] [] pos) (RZ.iZipA K ta) := by
  subst h
  exact RZ.pi_zipA hg hm ha hs hpl
def dot (rs ss : List Int) : Int := (List.zipWith (fun x y => x * y) rs ss).sum
def allRows : Nat → List (List Int)
  | 0 => [[]]
  | k + 1 => (allRows k).map (· ++ [0]) ++ (allRows k).map (· ++ [1])
theorem all_sound : ∀ (k : Nat) (r : List Int), r ∈ allRows k → r.length = k ∧ Bits r
  | 0, r, h => by
    rw [show r = [] from List.mem_singleton.mp h]
    exact ⟨rfl, fun x hx => by cases hx⟩
  | k + 1, r, h => by
    have aux : ∀ (b : Int), (b = 0 ∨ b = 1) → r ∈ (allRows k).map (· ++ [b]) → r.length = k + 1 ∧ Bits r := fun b hb hm => by
      obtain ⟨q, hq, rfl⟩ := List.mem_map.mp hm
      obtain ⟨h1, h2⟩ := all_sound k q hq
      refine ⟨by rw [List.length_append, h1]; rfl, fun x hx => ?_⟩
      rcases List.mem_append.mp hx with hx | hx
      · exact h2 x hx
      · rw [List.mem_singleton.mp hx]
        exact hb
    rcases List.mem_append.mp h with h | h
    · exact aux 0 (.inl rfl) h
    · exact aux 1 (.inr rfl) h
theorem all_full : ∀ (k : Nat) (r : List Int), r.length = k → Bits r → r ∈ allRows k
  | 0, r, h, _ => by
    rw [List.eq_nil_of_length_eq_zero h]
    exact List.mem_singleton.mpr rfl
  | k + 1, r, h, hb => by
    have hne : r ≠ [] := fun z => by
      rw [z] at h
      cases h
    have e := List.dropLast_concat_getLast hne
    have m1 : r.dropLast ∈ allRows k := all_full k _ (by rw [List.length_dropLast, h]; rfl) fun x hx => hb x (List.dropLast_subset r hx)
    rcases hb _ (List.getLast_mem hne) with z | z
    · rw [z] at e
      exact List.mem_append.mpr (.inl (List.mem_map.mpr ⟨_, m1, e⟩))
    · rw [z] at e
      exact List.mem_append.mpr (.inr (List.mem_map.mpr ⟨_, m1, e⟩))
theorem all_len : ∀ k, (allRows k).length = 2 ^ k
  | 0 => rfl
  | k + 1 => by
    show ((allRows k).map (· ++ [0]) ++ (allRows k).map (· ++ [1])).length = _
    rw [List.length_append, List.length_map, List.length_map, all_len k, Nat.pow_succ]
    omega
theorem bits_sum : ∀ (r : List Int), Bits r → 0 ≤ r.sum ∧ r.sum ≤ r.length
  | [], _ => ⟨Int.le_refl 0, Int.le_refl 0⟩
  | x :: r, h => by
    have ih := bits_sum r fun y hy => h y (List.mem_cons_of_mem _ hy)
    have hx := h x List.mem_cons_self
    rw [List.sum_cons, List.length_cons]
    omega
theorem sum_rep (k : Nat) (x : Int) : (List.replicate k x).sum = k * x := by
  induction k with
  | zero => simp
  | succ k ih =>
    rw [List.replicate_succ, List.sum_cons, ih, Int.natCast_add, Int.add_mul]
    omega
theorem sum_split (r : List Int) (a : Nat) : r.sum = (r.take a).sum + (r.drop a).sum := by
  conv => lhs; rw [← List.take_append_drop a r, List.sum_append]
theorem dot_zero (k : Nat) : ∀ r : List Int, dot (List.replicate k 0) r = 0 := by
  unfold dot
  induction k with
  | zero => intro r; simp
  | succ k ih =>
    intro r
    cases r with
    | nil => simp
    | cons x r =>
      rw [List.replicate_succ, List.zipWith_cons_cons, List.sum_cons, ih]
      omega
theorem dot_one : ∀ (a k : Nat) (r : List Int), r.length = a + k → dot (List.replicate a 1 ++ List.replicate k 0) r = (r.take a).sum
  | 0, k, r, _ => by
    rw [List.replicate_zero, List.nil_append, dot_zero]
    rfl
  | a + 1, k, [], h => by
    simp at h
    omega
  | a + 1, k, x :: r, h => by
    have ih := dot_one a k r (by rw [List.length_cons] at h; omega)
    unfold dot at *
    rw [List.replicate_succ, List.cons_append, List.zipWith_cons_cons, List.sum_cons, ih, List.take_succ_cons, List.sum_cons]
    omega
def nearR (n b : Nat) : List Int := List.replicate b 1 ++ List.replicate (n - b) 0
def farR (n b : Nat) : List Int := List.replicate (n - b) 0 ++ List.replicate b 1
theorem near_bits (n b : Nat) : Bits (nearR n b) := fun x hx => by
  rcases List.mem_append.mp hx with h | h
  · exact .inr (List.eq_of_mem_replicate h)
  · exact .inl (List.eq_of_mem_replicate h)
theorem far_bits (n b : Nat) : Bits (farR n b) := fun x hx => by
  rcases List.mem_append.mp hx with h | h
  · exact .inl (List.eq_of_mem_replicate h)
  · exact .inr (List.eq_of_mem_replicate h)
theorem near_len {n b : Nat} (h : b ≤ n) : (nearR n b).length = n := by
  unfold nearR
  rw [List.length_append, List.length_replicate, List.length_replicate]
  omega
theorem far_len {n b : Nat} (h : b ≤ n) : (farR n b).length = n := by
  unfold farR
  rw [List.length_append, List.length_replicate, List.length_replicate]
  omega
theorem near_sum (n b : Nat) : (nearR n b).sum = b := by
  unfold nearR
  rw [List.sum_append, sum_rep, sum_rep]
  omega
theorem far_sum (n b : Nat) : (farR n b).sum = b := by
  unfold farR
  rw [List.sum_append, sum_rep, sum_rep]
  omega
theorem near_take (n a b : Nat) : ((nearR n b).take a).sum = (min a b : Nat) := by
  unfold nearR
  rw [List.take_append, List.sum_append, List.take_replicate, List.take_replicate, sum_rep, sum_rep]
  omega
theorem far_take {n a b : Nat} (hb : b ≤ n) (ha : a ≤ n) : ((farR n b).take a).sum = (a + b - n : Nat) := by
  unfold farR
  rw [List.take_append, List.sum_append, List.take_replicate, List.take_replicate, sum_rep, sum_rep, List.length_replicate]
  omega
/-- how far the first a bits of a row may go -/
theorem take_ends {n a b : Nat} {r : List Int} (hl : r.length = n) (hb : Bits r) (hs : r.sum = b) (ha : a ≤ n) : (a + b - n : Nat) ≤ (r.take a).sum ∧ (r.take a).sum ≤ (min a b : Nat) := by
  have e := sum_split r a
  have h1 := bits_sum (r.take a) fun x hx => hb x (List.mem_of_mem_take hx)
  have h2 := bits_sum (r.drop a) fun x hx => hb x (List.mem_of_mem_drop hx)
  rw [List.length_take] at h1
  rw [List.length_drop] at h2
  omega
/-! the program -/
theorem cnt_same {ls : List Int} {c : Int} (h : ∀ x, x ∈ ls → x = c) (hne : ls ≠ []) : cnt ls = 1 := by
  have aux : ∀ (rs : List Int), (∀ x, x ∈ rs → x = c) → rs ≠ [] → cnt rs.reverse = 1 := by
    intro rs
    induction rs with
    | nil => intro _ z; exact absurd rfl z
    | cons x r ih =>
      intro hr _
      rw [List.reverse_cons, cnt_snoc]
      by_cases z : r = []
      · subst z
        rfl
      · have hx : x = c := hr x List.mem_cons_self
        have h1 : ∀ y, y ∈ r → y = c := fun y hy => hr y (List.mem_cons_of_mem _ hy)
        obtain ⟨y, t, e⟩ : ∃ y t, r = y :: t := by
          cases r with
          | nil => exact absurd rfl z
          | cons y t => exact ⟨y, t, rfl⟩
        have hm : x ∈ r.reverse := by
          rw [List.mem_reverse, e, hx, ← h1 y (by rw [e]; exact List.mem_cons_self)]
          exact List.mem_cons_self
        rw [if_pos hm]
        exact ih h1 z
  have := aux ls.reverse (fun x hx => h x (List.mem_reverse.mp hx)) (fun z => hne (List.reverse_eq_nil_iff.mp z))
  rw [List.reverse_reverse] at this
  exact this
def sp_refuse_unlike (_ : PySem.W.Frag) : Sp := fun vs H Q _ => ∃ (l : Addr) (as : List (Addr × List V)) (n : Nat), vs = [.ref l] ∧ H l = some (.lst (as.map fun q => V.ref q.1)) ∧ as.length ≤ 8 ∧ as ≠ [] ∧ (∀ q ∈ as, H q.1 = some (.tup q.2)) ∧ (∀ q ∈ as, q.2.length = n) ∧ Q .non H
theorem ok_refuse_unlike (T : Defs K mg) (TT : Tabs T base) : FnOk P w K mg base CX0 1 T.f_refuse_unlike T.fd_refuse_unlike ["rows"] (sp_refuse_unlike K) := by
  refine T.F_refuse_unlike.ok sc_refuse_unlike (fun vs H Q E h => ?_) (fun cdv A outer s H vs Q E hr h => ?_)
  · obtain ⟨l, as, n, rfl, hl, hn, hne, hts, heq, q⟩ := h
    rfl
  · obtain ⟨l, as, n, rfl, hl, hn, hne, hts, heq, q⟩ := h
    refine ⟨_, PSs.nox (pss_one (ps_if (pt_cmpR op_gt (pe_lenSC (i := 0) (by rfl) T.m_len rfl rfl (.inl rfl) rfl (by decide +kernel) (by decide +kernel) (by decide +kernel) rfl rfl) pe_int (nomark _)) (pss_one ps_never) pss_nil)), ?_⟩
    refine ⟨l, as, rfl, hl, hn, hts, _, _, rfl, rfl, _, rfl, ?_⟩
    rw [cnt_same (c := (n : Int)) (fun x hx => by
      obtain ⟨p, hp, rfl⟩ := List.mem_map.mp hx
      rw [heq p hp]) (fun z => hne (List.map_eq_nil_iff.mp z))]
    exact iteF q
def sp_ones (_ : PySem.W.Frag) : Sp := fun vs H Q _ => ∃ (a : Addr) (rs : List Int), vs = [.ref a] ∧ H a = some (.tup (rs.map V.int)) ∧ Q (.int rs.sum) H
theorem ok_ones (T : Defs K mg) (TT : Tabs T base) : FnOk P w K mg base CX0 1 T.f_ones T.fd_ones ["row"] (sp_ones K) := by
  refine T.F_ones.ok sc_ones (fun vs H Q E h => ?_) (fun cdv A outer s H vs Q E hr h => ?_)
  · obtain ⟨a, rs, rfl, ha, q⟩ := h
    rfl
  · obtain ⟨a, rs, rfl, ha, q⟩ := h
    refine ⟨_, PSs.nox (pss_one (ps_ret (pe_callB (cr_sumT rfl) (by rfl) T.m_sum bt_sum (pa_cons (pv 0) pa_nil)))), ?_⟩
    exact ⟨.ref a, rfl, a, rs, rfl, SqT.mk ha, q⟩
theorem and_bits {x y : Int} (hx : x = 0 ∨ x = 1) (hy : y = 0 ∨ y = 1) : Builtin.bitAnd x y = x * y := by
  rcases hx with rfl | rfl <;> rcases hy with rfl | rfl <;> decide
def sp_both {K : PySem.W.Frag} {mg : Str → Option Value} (T : Defs K mg) : Sp := fun vs H Q _ => ∃ (a b : Addr) (rs ss : List Int), vs = [.ref a, .ref b] ∧ H a = some (.tup (rs.map V.int)) ∧ H b = some (.tup (ss.map V.int)) ∧ rs.length = ss.length ∧ Bits rs ∧ Bits ss ∧ GxR.TabG H T.P_both ∧
  ∀ H' p, Sam H H' → H p = none → H' p = some (.tup ((List.zipWith (fun x y => x * y) rs ss).map V.int)) → Q (.ref p) H'
theorem ok_both (T : Defs K mg) (TT : Tabs T base) : FnOk P w K mg base CX0 2 T.f_both T.fd_both ["one", "other"] (sp_both T) := by
  have G_refuse_unlike : FnOk P w K mg base CX0 1 T.f_refuse_unlike T.fd_refuse_unlike ["rows"] (sp_refuse_unlike K) := ok_refuse_unlike T TT
  refine okC T.F_both T.k_both sc_both (fun vs H Q E h => ?_) (fun A outer s H vs Q E hr h => ?_)
  · obtain ⟨a, b, rs, ss, rfl, ha, hb, hl, br, bs, tg, q⟩ := h
    rfl
  · obtain ⟨a, b, rs, ss, rfl, ha, hb, hl, br, bs, tg, q⟩ := h
    refine ⟨_, PSs.nox (pss_cons (ps_expr (pe_call G_refuse_unlike (hr.mono (by decide)) (by rfl) T.g_refuse_unlike T.F_refuse_unlike.kp T.b_refuse_unlike .nil pass0 (pa_cons (pe_lst (pa_cons (pv 0) (pa_cons (pv 1) pa_nil))) pa_nil)))
    (pss_one (ps_ret (pe_tupZ hr (by rfl) T.m_tuple bt_tuple (by rfl) T.m_zip TT.t_both rfl ⟨⟨rfl, rfl, by decide +kernel, rfl, rfl, gs_free rfl⟩, rfl, by decide⟩ (pa_cons (pv 0) (pa_cons (pv 1) pa_nil)) (elt_and rfl rfl rfl) (fun _ => rfl))))), ?_⟩
    refine ⟨.ref a, rfl, .ref b, rfl, (show 2 ≤ sizeLine by decide), fun l nl => ?_⟩
    have s1 : Same H (upd H l (.lst [.ref a, .ref b])) := same_upd nl
    refine ⟨l, [(a, rs.map V.int), (b, ss.map V.int)], rs.length, rfl, upd_same, (show 2 ≤ 8 by decide), by simp, ?_, ?_, ?_⟩
    · intro p hp
      rcases List.mem_cons.mp hp with rfl | hp
      · exact s1 _ _ ha
      · rw [List.mem_singleton.mp hp]
        exact s1 _ _ hb
    · intro p hp
      rcases List.mem_cons.mp hp with rfl | hp
      · exact List.length_map ..
      · rw [List.mem_singleton.mp hp, hl]
        exact List.length_map ..
    have tg1 := (Sam.of s1).tabG tg
    refine ⟨.ref a, rfl, .ref b, rfl, a, b, _, _, rfl, s1 _ _ ha, s1 _ _ hb, by rw [List.length_map, List.length_map, hl], tg1, (List.zipWith (fun x y => x * y) rs ss).map V.int, ?_, ?_, ?_⟩
    · rw [List.length_map, List.length_map, List.length_zipWith]
      omega
    · intro i x y hx hy
      rw [List.getElem?_map] at hx hy
      have hi : i < rs.length := by
        by_cases z : i < rs.length
        · exact z
        · rw [List.getElem?_eq_none (by omega)] at hx
          cases hx
      rw [List.getElem?_eq_getElem hi] at hx
      rw [List.getElem?_eq_getElem (show i < ss.length by omega)] at hy
      cases hx
      cases hy
      refine ⟨.int (rs[i] * ss[i]), ?_, rs[i], ss[i], rfl, rfl, ?_⟩
      · rw [List.getElem?_map, List.getElem?_zipWith, List.getElem?_eq_getElem hi, List.getElem?_eq_getElem (show i < ss.length by omega)]
        rfl
      · rw [and_bits (br _ (List.getElem_mem hi)) (bs _ (List.getElem_mem _))]
    · intro H2 p tb np
      have s2 := Sam.tabbed tg1 tb
      have s3 := (Sam.of s1).trans s2
      exact q _ p (sam_newer s3 (s3.free np)) (s3.free np) upd_same
def sp_overlap {K : PySem.W.Frag} {mg : Str → Option Value} (T : Defs K mg) : Sp := fun vs H Q _ => ∃ (a b : Addr) (rs ss : List Int), vs = [.ref a, .ref b] ∧ H a = some (.tup (rs.map V.int)) ∧ H b = some (.tup (ss.map V.int)) ∧ rs.length = ss.length ∧ Bits rs ∧ Bits ss ∧ GxR.TabG H T.P_both ∧
  ∀ H', Sam H H' → Q (.int (dot rs ss)) H'
theorem ok_overlap (T : Defs K mg) (TT : Tabs T base) : FnOk P w K mg base CX0 3 T.f_overlap T.fd_overlap ["one", "other"] (sp_overlap T) := by
  have G_ones : FnOk P w K mg base CX0 1 T.f_ones T.fd_ones ["row"] (sp_ones K) := ok_ones T TT
  have G_both : FnOk P w K mg base CX0 2 T.f_both T.fd_both ["one", "other"] (sp_both T) := ok_both T TT
  refine T.F_overlap.ok sc_overlap (fun vs H Q E h => ?_) (fun cdv A outer s H vs Q E hr h => ?_)
  · obtain ⟨a, b, rs, ss, rfl, ha, hb, hl, br, bs, tg, q⟩ := h
    rfl
  · obtain ⟨a, b, rs, ss, rfl, ha, hb, hl, br, bs, tg, q⟩ := h
    refine ⟨_, PSs.nox (pss_one (ps_ret (pe_call G_ones (hr.mono (by decide)) (by rfl) T.g_ones T.F_ones.kp T.b_ones .nil pass0 (pa_cons (pe_call G_both (hr.mono (by decide)) (by rfl) T.g_both T.F_both.kp T.b_both .nil pass0 (pa_cons (pv 0) (pa_cons (pv 1) pa_nil))) pa_nil)))), ?_⟩
    refine ⟨.ref a, rfl, .ref b, rfl, a, b, rs, ss, rfl, ha, hb, hl, br, bs, tg, fun H1 p s1 np hp => ?_⟩
    exact ⟨p, _, rfl, hp, q H1 s1⟩
def sp_lean {K : PySem.W.Frag} {mg : Str → Option Value} (T : Defs K mg) : Sp := fun vs H Q _ => ∃ (a b : Addr) (rs ss : List Int), vs = [.ref a, .ref b] ∧ H a = some (.tup (rs.map V.int)) ∧ H b = some (.tup (ss.map V.int)) ∧ rs.length = ss.length ∧ rs.length ≤ 100000 ∧ Bits rs ∧ Bits ss ∧ GxR.TabG H T.P_both ∧
  ∀ H', Sam H H' → Q (.int (rs.length * dot rs ss - rs.sum * ss.sum)) H'
theorem ok_lean (T : Defs K mg) (TT : Tabs T base) : FnOk P w K mg base CX0 4 T.f_lean T.fd_lean ["one", "other"] (sp_lean T) := by
  have G_overlap : FnOk P w K mg base CX0 3 T.f_overlap T.fd_overlap ["one", "other"] (sp_overlap T) := ok_overlap T TT
  have G_ones : FnOk P w K mg base CX0 1 T.f_ones T.fd_ones ["row"] (sp_ones K) := ok_ones T TT
  refine T.F_lean.ok sc_lean (fun vs H Q E h => ?_) (fun cdv A outer s H vs Q E hr h => ?_)
  · obtain ⟨a, b, rs, ss, rfl, ha, hb, hl, hz, br, bs, tg, q⟩ := h
    rfl
  · obtain ⟨a, b, rs, ss, rfl, ha, hb, hl, hz, br, bs, tg, q⟩ := h
    refine ⟨_, PSs.nox (pss_one (ps_ret (pe_op op_sub (pe_op op_mul (pe_callB call_len_seq (by rfl) T.m_len bt_len (pa_cons (pv 0) pa_nil)) (pe_call G_overlap (hr.mono (by decide)) (by rfl) T.g_overlap T.F_overlap.kp T.b_overlap .nil pass0 (pa_cons (pv 0) (pa_cons (pv 1) pa_nil)))) (pe_op op_mul (pe_call G_ones (hr.mono (by decide)) (by rfl) T.g_ones T.F_ones.kp T.b_ones .nil pass0 (pa_cons (pv 0) pa_nil)) (pe_call G_ones (hr.mono (by decide)) (by rfl) T.g_ones T.F_ones.kp T.b_ones .nil pass0 (pa_cons (pv 1) pa_nil)))))), ?_⟩
    have b1 := bits_sum rs br
    refine ⟨.ref a, rfl, a, _, rfl, .inr (SqT.mk ha), .ref a, rfl, .ref b, rfl, a, b, rs, ss, rfl, ha, hb, hl, br, bs, tg, fun H1 s1 => ?_⟩
    refine ⟨_, _, rfl, rfl, .inl ⟨by rw [List.length_map]; omega, by rw [List.length_map]; omega⟩, .ref a, rfl, a, rs, rfl, s1.tup ha, .ref b, rfl, b, ss, rfl, s1.tup hb, _, _, rfl, rfl, .inl ⟨by omega, by omega⟩, _, _, rfl, rfl, ?_⟩
    rw [List.length_map]
    exact q H1 s1
def sp_overlap_ends (_ : PySem.W.Frag) : Sp := fun vs H Q _ => ∃ (n a b : Nat), vs = [.int (n : Nat), .int (a : Nat), .int (b : Nat)] ∧ ∀ H' p, Same H H' → H' p = some (.tup [.int ((a + b - n : Nat) : Int), .int ((min a b : Nat) : Int)]) → Q (.ref p) H'
theorem ok_overlap_ends (T : Defs K mg) (TT : Tabs T base) : FnOk P w K mg base CX0 1 T.f_overlap_ends T.fd_overlap_ends ["n", "a", "b"] (sp_overlap_ends K) := by
  refine T.F_overlap_ends.ok sc_overlap_ends (fun vs H Q E h => ?_) (fun cdv A outer s H vs Q E hr h => ?_)
  · obtain ⟨n, a, b, rfl, q⟩ := h
    rfl
  · obtain ⟨n, a, b, rfl, q⟩ := h
    refine ⟨_, PSs.nox (pss_one (ps_ret (pe_tup (pa_cons (pe_callB (call_max2 rfl) (by rfl) T.m_max bt_max (pa_cons pe_int (pa_cons (pe_op op_sub (pe_op op_add (pv 1) (pv 2)) (pv 0)) pa_nil))) (pa_cons (pe_callB (call_min2 rfl) (by rfl) T.m_min bt_min (pa_cons (pv 1) (pa_cons (pv 2) pa_nil))) pa_nil))))), ?_⟩
    refine ⟨_, rfl, _, rfl, _, _, rfl, rfl, _, rfl, _, _, rfl, rfl, _, _, rfl, _, rfl, _, rfl, _, _, rfl, (show 2 ≤ sizeLine by decide), fun p np => ?_⟩
    refine q _ p (same_upd np) ?_
    rw [upd_same]
    have e1 : (if (a : Int) + (b : Int) - (n : Int) > 0 then (a : Int) + (b : Int) - (n : Int) else 0) = ((a + b - n : Nat) : Int) := by
      split <;> omega
    have e2 : (if (b : Int) < (a : Int) then (b : Int) else (a : Int)) = ((min a b : Nat) : Int) := by
      split <;> omega
    rw [← e1, ← e2]
def sp_lean_ends (_ : PySem.W.Frag) : Sp := fun vs H Q _ => ∃ (n a b : Nat), vs = [.int (n : Nat), .int (a : Nat), .int (b : Nat)] ∧ n ≤ 100000 ∧ a ≤ 100000 ∧
  ∀ H' p, Same H H' → H' p = some (.tup (([n * ((a + b - n : Nat) : Int) - a * b, n * ((min a b : Nat) : Int) - a * b] : List Int).map V.int)) → Q (.ref p) H'
theorem ok_lean_ends (T : Defs K mg) (TT : Tabs T base) : FnOk P w K mg base CX0 2 T.f_lean_ends T.fd_lean_ends ["n", "a", "b"] (sp_lean_ends K) := by
  have G_overlap_ends : FnOk P w K mg base CX0 1 T.f_overlap_ends T.fd_overlap_ends ["n", "a", "b"] (sp_overlap_ends K) := ok_overlap_ends T TT
  refine T.F_lean_ends.ok sc_lean_ends (fun vs H Q E h => ?_) (fun cdv A outer s H vs Q E hr h => ?_)
  · obtain ⟨n, a, b, rfl, hn, ha, q⟩ := h
    rfl
  · obtain ⟨n, a, b, rfl, hn, ha, q⟩ := h
    refine ⟨_, PSs.nox (pss_cons (ps_asg (pe_call G_overlap_ends (hr.mono (by decide)) (by rfl) T.g_overlap_ends T.F_overlap_ends.kp T.b_overlap_ends .nil pass0 (pa_cons (pv 0) (pa_cons (pv 1) (pa_cons (pv 2) pa_nil)))) (pg_tup rfl (pgs_cons (pg_name (i := 3) sc_lean_ends.nd rfl (.inl rfl)) (pgs_cons (pg_name (i := 4) sc_lean_ends.nd rfl (.inl rfl)) pgs_nil))))
    (pss_one (ps_ret (pe_tup (pa_cons (pe_op op_sub (pe_op op_mul (pv 0) (pv 3)) (pe_op op_mul (pv 1) (pv 2))) (pa_cons (pe_op op_sub (pe_op op_mul (pv 0) (pv 4)) (pe_op op_mul (pv 1) (pv 2))) pa_nil)))))), ?_⟩
    refine ⟨_, rfl, _, rfl, _, rfl, n, a, b, rfl, fun H1 p s1 hp => ?_⟩
    refine ⟨p, _, rfl, SqT.mk hp, rfl, _, _, rfl, _, _, rfl, rfl, ?_⟩
    have bn : -(2 ^ 64) < (n : Int) ∧ (n : Int) < 2 ^ 64 := ⟨by omega, by omega⟩
    have ba : -(2 ^ 64) < (a : Int) ∧ (a : Int) < 2 ^ 64 := ⟨by omega, by omega⟩
    refine ⟨_, rfl, _, rfl, _, _, rfl, rfl, .inl bn, _, rfl, _, rfl, _, _, rfl, rfl, .inl ba, _, _, rfl, rfl, _, rfl, _, rfl, _, _, rfl, rfl, .inl bn, _, rfl, _, rfl, _, _, rfl, rfl, .inl ba, _, _, rfl, rfl, (show 2 ≤ sizeLine by decide), fun r nr => ?_⟩
    exact q _ r (s1.trans (same_upd nr)) upd_same
/-! the law's look at two things alike -/
theorem walk_zipT {K : PySem.W.Frag} {a b : Addr} {xs ys : List V} {n : Nat} (hn : n = min xs.length ys.length) : Walk (RZ.ItzT K a b) n (fun H => SqT K H a xs ∧ SqT K H b ys) (YPair (fun i => xs[i]?) (fun i => ys[i]?)) := by
  subst hn
  refine ⟨fun i H hi q => ?_, fun H q => ⟨xs, ys, q.1, q.2, by omega⟩, fun i H v H' _ q y => ?_⟩
  · exact ⟨xs, ys, xs[i]'(by omega), ys[i]'(by omega), q.1, q.2, List.getElem?_eq_getElem _, List.getElem?_eq_getElem _⟩
  · obtain ⟨T, x, y, e1, e2, e3, f1, f2⟩ := y
    exact ⟨T, x, y, e1, e2, e3, f1 _ q.1, f2 _ q.2⟩
theorem ki2 : PySem.W.kitAny K (.type "int") [.type "list", .type "tuple"] = some false := kitAny_cons (kit_ty (r := false) (by decide +kernel)) (fun _ => kitAny_cons (kit_ty (r := false) (by decide +kernel)) (fun _ => rfl) (fun z => by cases z)) (fun z => by cases z)
theorem kt2 : PySem.W.kitAny K (.type "tuple") [.type "list", .type "tuple"] = some true := kitAny_cons (kit_ty (r := false) (by decide +kernel)) (fun _ => kitAny_cons (r := true) (kit_ty (r := true) (by decide +kernel)) (fun z => by cases z) (fun _ => rfl)) (fun z => by cases z)
theorem kIn {a b : String} {r : Bool} (h : kitB a b = some r) : PySem.W.kitOne K (.type a) (.type b) = some r := kit_ty h
theorem k_is : kitB "int" "str" = some false := by decide +kernel
theorem k_ib : kitB "int" "bool" = some false := by decide +kernel
theorem k_ii : kitB "int" "int" = some true := by decide +kernel
theorem k_tl : kitB "tuple" "list" = some false := by decide +kernel
theorem k_tt : kitB "tuple" "tuple" = some true := by decide +kernel
def sp_same0 (_ : PySem.W.Frag) : Sp := fun vs H Q _ => ∃ x y : Int, vs = [.int x, .int y] ∧ ∀ H', Same H H' → Q (.bl (decide (x = y))) H'
theorem ok_same0 (T : Defs K mg) (TT : Tabs T base) : FnOk P w K mg base CX0 1 T.f__law_same T.fd__law_same ["_law_found", "_law_due"] (sp_same0 K) := by
  have G__law_same : FnOk P w K mg base CX0 0 T.f__law_same T.fd__law_same ["_law_found", "_law_due"] (fun _ _ _ _ => False) := ⟨fun _ _ _ _ z => z.elim, fun _ _ _ _ _ _ _ _ _ _ _ _ _ z => z.elim⟩
  refine T.F__law_same.ok sc__law_same (fun vs H Q E h => ?_) (fun cdv A outer s H vs Q E hr h => ?_)
  · obtain ⟨x, y, rfl, q⟩ := h
    rfl
  · obtain ⟨x, y, rfl, q⟩ := h
    refine ⟨_, PSs.nox (pss_cons (ps_if (pt_val (pe_callB call_isiT (by rfl) T.m_isinstance bt_isinstance (pa_cons (pv 1) (pa_cons (pe_tup (pa_cons (pe_bltn (v := .ty "list") (by rfl) T.m_list bt_list rfl) (pa_cons (pe_bltn (v := .ty "tuple") (by rfl) T.m_tuple bt_tuple rfl) pa_nil))) pa_nil)))) (pss_cons (ps_if (PW.pt (pw_or (pt_cmpR op_ne (pe_callB call_isi (by rfl) T.m_isinstance bt_isinstance (pa_cons (pv 0) (pa_cons (pe_bltn (v := .ty "list") (by rfl) T.m_list bt_list rfl) pa_nil))) (pe_callB call_isi (by rfl) T.m_isinstance bt_isinstance (pa_cons (pv 1) (pa_cons (pe_bltn (v := .ty "list") (by rfl) T.m_list bt_list rfl) pa_nil))) (nomark _)) (pw_or1 (pt_cmpR op_ne (pe_callB call_isi (by rfl) T.m_isinstance bt_isinstance (pa_cons (pv 0) (pa_cons (pe_bltn (v := .ty "tuple") (by rfl) T.m_tuple bt_tuple rfl) pa_nil))) (pe_callB call_isi (by rfl) T.m_isinstance bt_isinstance (pa_cons (pv 1) (pa_cons (pe_bltn (v := .ty "tuple") (by rfl) T.m_tuple bt_tuple rfl) pa_nil))) (nomark _))))) (pss_one (ps_ret pe_bl)) pss_nil)
    (pss_one (ps_ret (pe_and (pe_cmpR op_eq (pe_callB call_len_seq (by rfl) T.m_len bt_len (pa_cons (pv 0) pa_nil)) (pe_callB call_len_seq (by rfl) T.m_len bt_len (pa_cons (pv 1) pa_nil)) (nomark _)) (pe_one (pe_callB (cr_all rfl) (by rfl) T.m_all bt_all (pa_cons (pe_lc (own := [("_law_one", 2), ("_law_other", 3)]) (g := gTup K 2 (gCons (gName 2) (gCons (gName 3) gNil))) (tt := tYes) rfl sc__law_same.nd (RZ.pi_zipA (by rfl) T.m_zip (pa_cons (pv 0) (pa_cons (pv 1) pa_nil))) (blkOk_by (N := N__law_same) (sc := defScope s__law_same) (by decide +kernel)) (fun _ _ _ _ _ => (pg_tupK (K := K) rfl rfl (pgs_cons (pg_name (i := 2) sc__law_same.nd rfl (.inl rfl)) (pgs_cons (pg_name (i := 3) sc__law_same.nd rfl (.inl rfl)) pgs_nil)))) (fun _ _ _ _ _ => pts_nil) (fun _ _ _ _ _ => (pe_call G__law_same (hr.mono (by decide)) (by rfl) T.g__law_same T.F__law_same.kp T.b__law_same .nil pass0 (pa_cons (pv 2) (pa_cons (pv 3) pa_nil))))) pa_nil))))))) pss_nil)
    (pss_cons (ps_if (pt_cmpR op_isN (pv 1) pe_non (nomark _)) (pss_one (ps_ret (pe_cmpR op_isN (pv 0) pe_non (nomark _)))) pss_nil)
    (pss_cons (ps_if (pt_val (pe_callB call_isi (by rfl) T.m_isinstance bt_isinstance (pa_cons (pv 1) (pa_cons (pe_bltn (v := .ty "str") (by rfl) T.m_str bt_str rfl) pa_nil)))) (pss_one (ps_ret (pe_and (pe_callB call_isi (by rfl) T.m_isinstance bt_isinstance (pa_cons (pv 0) (pa_cons (pe_bltn (v := .ty "str") (by rfl) T.m_str bt_str rfl) pa_nil))) (pe_one (pe_cmpR op_eq (pv 0) (pv 1) (nomark _)))))) pss_nil)
    (pss_cons (ps_if (pt_val (pe_callB call_isi (by rfl) T.m_isinstance bt_isinstance (pa_cons (pv 1) (pa_cons (pe_bltn (v := .ty "bool") (by rfl) T.m_bool bt_bool rfl) pa_nil)))) (pss_one (ps_ret (pe_and (pe_callB call_isi (by rfl) T.m_isinstance bt_isinstance (pa_cons (pv 0) (pa_cons (pe_bltn (v := .ty "bool") (by rfl) T.m_bool bt_bool rfl) pa_nil))) (pe_one (pe_cmpR op_eq (pv 0) (pv 1) (nomark _)))))) pss_nil)
    (pss_one (ps_ret (pe_and (pe_callB call_isi (by rfl) T.m_isinstance bt_isinstance (pa_cons (pv 0) (pa_cons (pe_bltn (v := .ty "int") (by rfl) T.m_int bt_int rfl) pa_nil))) (pe_and (pe_not (pe_callB call_isi (by rfl) T.m_isinstance bt_isinstance (pa_cons (pv 0) (pa_cons (pe_bltn (v := .ty "bool") (by rfl) T.m_bool bt_bool rfl) pa_nil)))) (pe_one (pe_cmpR op_eq (pv 0) (pv 1) (nomark _))))))))))), ?_⟩
    refine ⟨.int y, rfl, (show 2 ≤ sizeLine by decide), fun tp np => ?_⟩
    have s1 : Same H (upd H tp (.tup [.ty "list", .ty "tuple"])) := same_upd np
    refine ⟨_, tp, _, _, _, _, rfl, upd_same, .cons (.ty "list") (.cons (.ty "tuple") .nil), .base (.int y), ki2, _, rfl, ?_⟩
    refine iteF ?_
    refine ⟨.int y, rfl, rfl, _, rfl, ?_⟩
    refine iteF ?_
    refine ⟨.int y, rfl, _, _, _, _, _, rfl, .ty "str", .base (.int y), kIn k_is, _, rfl, ?_⟩
    refine iteF ?_
    refine ⟨.int y, rfl, _, _, _, _, _, rfl, .ty "bool", .base (.int y), kIn k_ib, _, rfl, ?_⟩
    refine iteF ?_
    refine ⟨.int x, rfl, _, _, _, _, _, rfl, .ty "int", .base (.int x), kIn k_ii, _, rfl, ?_⟩
    refine iteT ?_
    refine ⟨.int x, rfl, _, _, _, _, _, rfl, .ty "bool", .base (.int x), kIn k_ib, _, rfl, _, rfl, ?_⟩
    refine iteT ?_
    refine ⟨.int x, rfl, .int y, rfl, rfl, ?_⟩
    have e : decide (V.int x = V.int y) = decide (x = y) := decide_eq_decide.mpr ⟨V.int.inj, fun z => by rw [z]⟩
    rw [e]
    exact q _ s1
def sp__law_same (_ : PySem.W.Frag) : Sp := fun vs H Q _ => ∃ (a b : Addr) (rs : List Int), vs = [.ref a, .ref b] ∧ H a = some (.tup (rs.map V.int)) ∧ H b = some (.tup (rs.map V.int)) ∧ rs.length ≤ 100000 ∧ ∀ H', Same H H' → Q (.bl true) H'
theorem ok__law_same (T : Defs K mg) (TT : Tabs T base) : FnOk P w K mg base CX0 2 T.f__law_same T.fd__law_same ["_law_found", "_law_due"] (sp__law_same K) := by
  have G__law_same : FnOk P w K mg base CX0 1 T.f__law_same T.fd__law_same ["_law_found", "_law_due"] (sp_same0 K) := ok_same0 T TT
  refine T.F__law_same.ok sc__law_same (fun vs H Q E h => ?_) (fun cdv A outer s H vs Q E hr h => ?_)
  · obtain ⟨a, b, rs, rfl, ha, hb, hl, q⟩ := h
    rfl
  · obtain ⟨a, b, rs, rfl, ha, hb, hl, q⟩ := h
    refine ⟨_, PSs.nox (pss_cons (ps_if (pt_val (pe_callB call_isiT (by rfl) T.m_isinstance bt_isinstance (pa_cons (pv 1) (pa_cons (pe_tup (pa_cons (pe_bltn (v := .ty "list") (by rfl) T.m_list bt_list rfl) (pa_cons (pe_bltn (v := .ty "tuple") (by rfl) T.m_tuple bt_tuple rfl) pa_nil))) pa_nil)))) (pss_cons (ps_if (PW.pt (pw_or (pt_cmpR op_ne (pe_callB call_isi (by rfl) T.m_isinstance bt_isinstance (pa_cons (pv 0) (pa_cons (pe_bltn (v := .ty "list") (by rfl) T.m_list bt_list rfl) pa_nil))) (pe_callB call_isi (by rfl) T.m_isinstance bt_isinstance (pa_cons (pv 1) (pa_cons (pe_bltn (v := .ty "list") (by rfl) T.m_list bt_list rfl) pa_nil))) (nomark _)) (pw_or1 (pt_cmpR op_ne (pe_callB call_isi (by rfl) T.m_isinstance bt_isinstance (pa_cons (pv 0) (pa_cons (pe_bltn (v := .ty "tuple") (by rfl) T.m_tuple bt_tuple rfl) pa_nil))) (pe_callB call_isi (by rfl) T.m_isinstance bt_isinstance (pa_cons (pv 1) (pa_cons (pe_bltn (v := .ty "tuple") (by rfl) T.m_tuple bt_tuple rfl) pa_nil))) (nomark _))))) (pss_one (ps_ret pe_bl)) pss_nil)
    (pss_one (ps_ret (pe_and (pe_cmpR op_eq (pe_callB call_len_seq (by rfl) T.m_len bt_len (pa_cons (pv 0) pa_nil)) (pe_callB call_len_seq (by rfl) T.m_len bt_len (pa_cons (pv 1) pa_nil)) (nomark _)) (pe_one (pe_callB (cr_all rfl) (by rfl) T.m_all bt_all (pa_cons (pe_lc (own := [("_law_one", 2), ("_law_other", 3)]) (g := gTup K 2 (gCons (gName 2) (gCons (gName 3) gNil))) (tt := tYes) rfl sc__law_same.nd (RZ.pi_zipA (by rfl) T.m_zip (pa_cons (pv 0) (pa_cons (pv 1) pa_nil))) (blkOk_by (N := N__law_same) (sc := defScope s__law_same) (by decide +kernel)) (fun _ _ _ _ _ => (pg_tupK (K := K) rfl rfl (pgs_cons (pg_name (i := 2) sc__law_same.nd rfl (.inl rfl)) (pgs_cons (pg_name (i := 3) sc__law_same.nd rfl (.inl rfl)) pgs_nil)))) (fun _ _ _ _ _ => pts_nil) (fun _ _ _ _ _ => (pe_call G__law_same (hr.mono (by decide)) (by rfl) T.g__law_same T.F__law_same.kp T.b__law_same .nil pass0 (pa_cons (pv 2) (pa_cons (pv 3) pa_nil))))) pa_nil))))))) pss_nil)
    (pss_cons (ps_if (pt_cmpR op_isN (pv 1) pe_non (nomark _)) (pss_one (ps_ret (pe_cmpR op_isN (pv 0) pe_non (nomark _)))) pss_nil)
    (pss_cons (ps_if (pt_val (pe_callB call_isi (by rfl) T.m_isinstance bt_isinstance (pa_cons (pv 1) (pa_cons (pe_bltn (v := .ty "str") (by rfl) T.m_str bt_str rfl) pa_nil)))) (pss_one (ps_ret (pe_and (pe_callB call_isi (by rfl) T.m_isinstance bt_isinstance (pa_cons (pv 0) (pa_cons (pe_bltn (v := .ty "str") (by rfl) T.m_str bt_str rfl) pa_nil))) (pe_one (pe_cmpR op_eq (pv 0) (pv 1) (nomark _)))))) pss_nil)
    (pss_cons (ps_if (pt_val (pe_callB call_isi (by rfl) T.m_isinstance bt_isinstance (pa_cons (pv 1) (pa_cons (pe_bltn (v := .ty "bool") (by rfl) T.m_bool bt_bool rfl) pa_nil)))) (pss_one (ps_ret (pe_and (pe_callB call_isi (by rfl) T.m_isinstance bt_isinstance (pa_cons (pv 0) (pa_cons (pe_bltn (v := .ty "bool") (by rfl) T.m_bool bt_bool rfl) pa_nil))) (pe_one (pe_cmpR op_eq (pv 0) (pv 1) (nomark _)))))) pss_nil)
    (pss_one (ps_ret (pe_and (pe_callB call_isi (by rfl) T.m_isinstance bt_isinstance (pa_cons (pv 0) (pa_cons (pe_bltn (v := .ty "int") (by rfl) T.m_int bt_int rfl) pa_nil))) (pe_and (pe_not (pe_callB call_isi (by rfl) T.m_isinstance bt_isinstance (pa_cons (pv 0) (pa_cons (pe_bltn (v := .ty "bool") (by rfl) T.m_bool bt_bool rfl) pa_nil)))) (pe_one (pe_cmpR op_eq (pv 0) (pv 1) (nomark _))))))))))), ?_⟩
    refine ⟨.ref b, rfl, (show 2 ≤ sizeLine by decide), fun tp np => ?_⟩
    have s1 : Same H (upd H tp (.tup [.ty "list", .ty "tuple"])) := same_upd np
    have ha1 := s1 _ _ ha
    have hb1 := s1 _ _ hb
    refine ⟨_, tp, _, _, _, _, rfl, upd_same, .cons (.ty "list") (.cons (.ty "tuple") .nil), .base (.tup hb1), kt2, _, rfl, ?_⟩
    generalize upd H tp (.tup [.ty "list", .ty "tuple"]) = H1 at *
    refine iteT ?_
    refine ⟨.ref a, rfl, _, _, _, _, _, rfl, .ty "list", .base (.tup ha1), kIn k_tl, .ref b, rfl, _, _, _, _, _, rfl, .ty "list", .base (.tup hb1), kIn k_tl, rfl, _, rfl, ?_⟩
    refine iteF ?_
    refine ⟨.ref a, rfl, _, _, _, _, _, rfl, .ty "tuple", .base (.tup ha1), kIn k_tt, .ref b, rfl, _, _, _, _, _, rfl, .ty "tuple", .base (.tup hb1), kIn k_tt, rfl, _, rfl, ?_⟩
    refine iteF ?_
    refine ⟨.ref a, rfl, a, _, rfl, .inr (SqT.mk ha1), .ref b, rfl, b, _, rfl, .inr (SqT.mk hb1), rfl, _, rfl, ?_⟩
    rw [decide_eq_true rfl]
    refine iteT ?_
    have hsl : sizeLine = 16777216 := by decide
    refine ⟨.ref a, rfl, .ref b, rfl, a, b, _, _, rfl, .inr ⟨SqT.mk ha1, SqT.mk hb1, fun D nD => ?_⟩⟩
    refine lc_it (walk_zipT (n := rs.length) (xs := rs.map V.int) (ys := rs.map V.int) (by rw [List.length_map, Nat.min_self])) (fun i H2 => Same H1 H2 ∧ H2 D = some (.lst ((List.replicate i true).map V.bl))) ⟨same_upd nD, upd_same⟩ (fun i H2 _ h2 => ⟨SqT.mk (h2.1 _ _ ha1), SqT.mk (h2.1 _ _ hb1)⟩) ?_ ?_
    · rintro i x H2 H3 hi ⟨s2, hD⟩ ⟨t, x1, x2, rfl, nt, rfl, e1, e2⟩
      have g : (rs.map V.int)[i]? = some (.int rs[i]) := by
        rw [List.getElem?_map, List.getElem?_eq_getElem hi]
        rfl
      have e1 : (rs.map V.int)[i]? = some x1 := e1
      have e2 : (rs.map V.int)[i]? = some x2 := e2
      rw [g] at e1 e2
      cases e1
      cases e2
      refine ⟨t, _, rfl, SqT.mk upd_same, rfl, _, _, rfl, _, _, rfl, rfl, rfl, yes_ite ?_⟩
      refine ⟨_, rfl, _, rfl, rs[i], rs[i], rfl, fun H4 s4 => ?_⟩
      have s24 : Same H2 H4 := (same_upd nt).trans s4
      refine ⟨_, s24 _ _ hD, by rw [List.length_map, List.length_replicate]; omega, same_newer (s2.trans s24) nD, ?_⟩
      rw [upd_same, List.replicate_succ', List.map_append, decide_eq_true rfl]
      rfl
    · rintro H2 ⟨s2, hD⟩
      refine ⟨D, List.replicate rs.length true, rfl, SqL.mk hD, ?_⟩
      rw [show (List.replicate rs.length true).all id = true by rw [List.all_replicate]; simp]
      exact q _ (s1.trans s2)
/-! all rows of a length -/
abbrev refs (as : List (Addr × List Int)) : List V := as.map fun q => V.ref q.1
def Rws (H : Hp) (as : List (Addr × List Int)) : Prop := ∀ q, q ∈ as → H q.1 = some (.tup (q.2.map V.int))
theorem Rws.same {H H' : Hp} {as : List (Addr × List Int)} (h : Rws H as) (s : Same H H') : Rws H' as := fun q hq => s _ _ (h q hq)
theorem Rws.put {H : Hp} {as : List (Addr × List Int)} {D : Addr} {xs ys : List V} (h : Rws H as) (hD : H D = some (.lst xs)) : Rws (upd H D (.lst ys)) as := fun q hq => by
  rw [upd_ne (ne_of (h q hq) hD (fun z => by cases z))]
  exact h q hq
theorem Rws.snoc {H : Hp} {as : List (Addr × List Int)} {p : Addr} {r : List Int} (h : Rws H as) (hp : H p = some (.tup (r.map V.int))) : Rws H (as ++ [(p, r)]) := fun q hq => by
  rcases List.mem_append.mp hq with hq | hq
  · exact h q hq
  · rw [List.mem_singleton.mp hq]
    exact hp
theorem refs_snoc (as : List (Addr × List Int)) (p : Addr) (r : List Int) : refs as ++ [V.ref p] = refs (as ++ [(p, r)]) := by
  show _ = (as ++ [(p, r)]).map _
  rw [List.map_append]
  rfl
/-- what stands at D while rows are gathered: f of the rows taken so far -/
def Gat (H1 : Hp) (D : Addr) (f : List (List Int) → List (List Int)) (as : List (Addr × List Int)) (i : Nat) (H2 : Hp) : Prop :=
  Same H1 H2 ∧ ∃ bs, H2 D = some (.lst (refs bs)) ∧ Rws H2 bs ∧ bs.map (·.2) = f ((as.take i).map (·.2))
theorem gat_start {H1 : Hp} {D : Addr} {f : List (List Int) → List (List Int)} {as : List (Addr × List Int)} (nD : H1 D = none) (hf : f [] = []) : Gat H1 D f as 0 (upd H1 D (.lst [])) :=
  ⟨same_upd nD, [], upd_same, fun q hq => (by cases hq), (by rw [List.take_zero, List.map_nil, hf])⟩
theorem gat_step {H1 H2 H4 : Hp} {D p : Addr} {f : List (List Int) → List (List Int)} {as : List (Addr × List Int)} {i : Nat} {q : Addr × List Int} {r : List Int} (nD : H1 D = none) (h : Gat H1 D f as i H2) (hq : as[i]? = some q) (s : Same H2 H4) (hp : H4 p = some (.tup (r.map V.int)))
    (hf : f ((as.take i).map (·.2) ++ [q.2]) = f ((as.take i).map (·.2)) ++ [r]) (hl : (f ((as.take i).map (·.2))).length ≤ 100000) : ∃ acc, H4 D = some (.lst acc) ∧ acc.length < sizeLine ∧ Gat H1 D f as (i + 1) (upd H4 D (.lst (acc ++ [.ref p]))) := by
  obtain ⟨s1, bs, hD, hb, em⟩ := h
  have hsl : sizeLine = 16777216 := by decide
  have hD4 := s _ _ hD
  have lb : bs.length ≤ 100000 := by
    rw [← em, List.length_map] at hl
    exact hl
  refine ⟨_, hD4, by rw [List.length_map]; omega, same_newer (s1.trans s) nD, bs ++ [(p, r)], by rw [upd_same, refs_snoc], (((hb.same s).snoc hp).put hD4), ?_⟩
  rw [List.map_append, em, List.take_add_one, hq]
  show f _ ++ [r] = f (((as.take i) ++ [q]).map (·.2))
  rw [List.map_append]
  exact hf.symm
def sp__law_all (_ : PySem.W.Frag) : Sp := fun vs H Q _ => ∃ (n : Nat) (m : Int), vs = [.int (n : Nat), .int m] ∧ n ≤ 10 ∧
  ∀ H' l as, Same H H' → H l = none → H' l = some (.lst (refs as)) → Rws H' as → as.map (·.2) = (allRows n).filter (fun r => decide (r.sum = m)) → Q (.ref l) H'
theorem all_small {n k : Nat} (h : k ≤ n) (hn : n ≤ 10) : (allRows k).length ≤ 1024 := by
  rw [all_len]
  exact Nat.le_trans (Nat.pow_le_pow_right (by decide) (show k ≤ 10 by omega)) (by decide)
theorem ok__law_all (T : Defs K mg) (TT : Tabs T base) : FnOk P w K mg base CX0 1 T.f__law_all T.fd__law_all ["_law_long", "_law_many"] (sp__law_all K) := by
  refine T.F__law_all.ok sc__law_all (fun vs H Q E h => ?_) (fun cdv A outer s H vs Q E hr h => ?_)
  · obtain ⟨n, m, rfl, hn, q⟩ := h
    rfl
  · obtain ⟨n, m, rfl, hn, q⟩ := h
    refine ⟨_, PSs.nox (pss_cons (ps_set (i := 2) sc__law_all.nd rfl (.inl rfl) (pe_lst (pa_cons (pe_tup pa_nil) pa_nil)))
    (pss_cons (ps_for PassesOwn.never rfl (pi_range1 (by rfl) T.m_range (pa_cons (pv 0) pa_nil)) (pg_name (i := 3) sc__law_all.nd rfl (.inl rfl)) (pss_one (ps_set (i := 2) sc__law_all.nd rfl (.inl rfl) (pe_op op_cat (pe_lc (own := [("_law_row", 4)]) (g := gName 4) (tt := tYes) rfl sc__law_all.nd (pi_list (pv 2)) (blkOk_by (N := N__law_all) (sc := defScope s__law_all) (by decide +kernel)) (fun _ _ _ _ _ => (pg_name (i := 4) sc__law_all.nd rfl (.inl rfl))) (fun _ _ _ _ _ => pts_nil) (fun _ _ _ _ _ => (pe_op (catK (K := K) rfl) (pv 4) (pe_tup (pa_cons pe_int pa_nil))))) (pe_lc (own := [("_law_row", 4)]) (g := gName 4) (tt := tYes) rfl sc__law_all.nd (pi_list (pv 2)) (blkOk_by (N := N__law_all) (sc := defScope s__law_all) (by decide +kernel)) (fun _ _ _ _ _ => (pg_name (i := 4) sc__law_all.nd rfl (.inl rfl))) (fun _ _ _ _ _ => pts_nil) (fun _ _ _ _ _ => (pe_op (catK (K := K) rfl) (pv 4) (pe_tup (pa_cons pe_int pa_nil)))))))))
    (pss_one (ps_ret (pe_lc (own := [("_law_row", 4)]) (g := gName 4) rfl sc__law_all.nd (pi_list (pv 2)) (blkOk_by (N := N__law_all) (sc := defScope s__law_all) (by decide +kernel)) (fun _ _ _ _ _ => (pg_name (i := 4) sc__law_all.nd rfl (.inl rfl))) (fun _ _ _ _ _ => pts_one (pt_cmpR op_eq (pe_callB (sumTK (K := K) rfl rfl) (by rfl) T.m_sum bt_sum (pa_cons (pv 4) pa_nil)) (pv 1) (nomark _))) (fun _ _ _ _ _ => (pv 4))))))), ?_⟩
    have hsl : sizeLine = 16777216 := by decide
    refine ⟨Nat.zero_le _, fun e ne => ?_⟩
    refine ⟨(show 1 ≤ sizeLine by decide), fun f nf => ?_⟩
    have s0 : Same H (upd (upd H e (.tup [])) f (.lst [.ref e])) := (same_upd ne).trans (same_upd nf)
    have nf0 : H f = none := (same_upd ne).free nf
    refine ⟨.int (n : Nat), rfl, _, rfl, by omega, by omega, for_range (fun i σ H1 => ∃ y3 y4 f as, σ = [some (.int (n : Nat)), some (.int m), some (.ref f), y3, y4] ∧ Same H H1 ∧ H1 f = some (.lst (refs as)) ∧ Rws H1 as ∧ as.map (·.2) = allRows i) ⟨none, none, f, [(e, [])], rfl, s0, upd_same, ?_, rfl⟩ ?_ ?_⟩
    · intro q hq
      rw [List.mem_singleton.mp hq]
      exact (same_upd nf) _ _ upd_same
    · rintro i σ H1 hi ⟨y3, y4, f, as, rfl, s1, hf1, hr1, em⟩
      rw [Int.toNat_natCast] at hi
      have la : as.length ≤ 1024 := by
        have := all_small (show i ≤ n by omega) hn
        rw [← em, List.length_map] at this
        exact this
      have lrow : ∀ q, q ∈ as → q.2.length = i := fun q hq => (all_sound i q.2 (by rw [← em]; exact List.mem_map.mpr ⟨q, hq, rfl⟩)).1
      -- with a 0
      refine ⟨_, rfl, f, rfl, ⟨_, SqL.mk hf1⟩, fun D nD => ?_⟩
      refine lc_list (xs := refs as) (Gat H1 D (fun l => l.map (· ++ [0])) as) (gat_start nD rfl) (fun k H2 _ h2 => SqL.mk (h2.1 _ _ hf1)) (fun k x H2 hx h2 => ?_) (fun H2 h2 => ?_)
      · rw [List.getElem?_map] at hx
        obtain ⟨p, hp, rfl⟩ := Option.map_eq_some_iff.mp hx
        have pm := List.mem_of_getElem? hp
        refine ⟨rfl, yes_ite ?_⟩
        refine ⟨_, rfl, (show 1 ≤ sizeLine by decide), fun t nt => ?_⟩
        refine cat_go (rs := p.2) (ss := [0]) ((same_upd nt) _ _ (h2.1 _ _ (hr1 p pm))) upd_same (by rw [lrow p pm]; show i + 1 ≤ 100000; omega) fun H3 r s3 hr3 => ?_
        exact gat_step nD h2 hp ((same_upd nt).trans s3) hr3 (by rw [List.map_append]; rfl) (by rw [List.length_map, List.length_map, List.length_take]; omega)
      obtain ⟨s2, bs, hD2, hr2, em2⟩ := h2
      have ef : (refs as).length = as.length := List.length_map ..
      rw [ef, List.take_length] at em2
      -- with a 1
      refine ⟨_, rfl, f, rfl, ⟨_, SqL.mk (s2 _ _ hf1)⟩, fun D' nD' => ?_⟩
      refine lc_list (xs := refs as) (Gat H2 D' (fun l => l.map (· ++ [1])) as) (gat_start nD' rfl) (fun k H3 _ h3 => SqL.mk (h3.1 _ _ (s2 _ _ hf1))) (fun k x H3 hx h3 => ?_) (fun H3 h3 => ?_)
      · rw [List.getElem?_map] at hx
        obtain ⟨p, hp, rfl⟩ := Option.map_eq_some_iff.mp hx
        have pm := List.mem_of_getElem? hp
        refine ⟨rfl, yes_ite ?_⟩
        refine ⟨_, rfl, (show 1 ≤ sizeLine by decide), fun t nt => ?_⟩
        refine cat_go (rs := p.2) (ss := [1]) ((same_upd nt) _ _ (h3.1 _ _ (s2 _ _ (hr1 p pm)))) upd_same (by rw [lrow p pm]; show i + 1 ≤ 100000; omega) fun H4 r s4 hr4 => ?_
        exact gat_step nD' h3 hp ((same_upd nt).trans s4) hr4 (by rw [List.map_append]; rfl) (by rw [List.length_map, List.length_map, List.length_take]; omega)
      obtain ⟨s3, cs, hD3, hr3, em3⟩ := h3
      rw [ef, List.take_length] at em3
      have lb : bs.length = as.length := by
        have := congrArg List.length em2
        rw [List.length_map, List.length_map, List.length_map] at this
        exact this
      have lc : cs.length = as.length := by
        have := congrArg List.length em3
        rw [List.length_map, List.length_map, List.length_map] at this
        exact this
      refine ⟨D, D', _, _, rfl, rfl, s3 _ _ hD2, hD3, by rw [List.length_map, List.length_map]; omega, fun g ng => ?_⟩
      refine ⟨_, _, g, bs ++ cs, rfl, (s1.trans (s2.trans s3)).trans (same_upd ng), by rw [upd_same, ← List.map_append], fun p hp => ?_, ?_⟩
      · refine (same_upd ng) _ _ ?_
        rcases List.mem_append.mp hp with hp | hp
        · exact s3 _ _ (hr2 p hp)
        · exact hr3 p hp
      · rw [List.map_append, em2, em3, em]
        rfl
    · rintro σ H1 ⟨y3, y4, f, as, rfl, s1, hf1, hr1, em⟩
      rw [Int.toNat_natCast] at em
      have la : as.length ≤ 1024 := by
        have := all_small (Nat.le_refl n) hn
        rw [← em, List.length_map] at this
        exact this
      refine ⟨_, rfl, f, rfl, ⟨_, SqL.mk hf1⟩, fun D nD => ?_⟩
      refine lc_list (xs := refs as) (Gat H1 D (fun l => l.filter (fun r => decide (r.sum = m))) as) (gat_start nD rfl) (fun k H2 _ h2 => SqL.mk (h2.1 _ _ hf1)) (fun k x H2 hx h2 => ?_) (fun H2 h2 => ?_)
      · rw [List.getElem?_map] at hx
        obtain ⟨p, hp, rfl⟩ := Option.map_eq_some_iff.mp hx
        have pm := List.mem_of_getElem? hp
        have hp2 := h2.1 _ _ (hr1 p pm)
        refine ⟨rfl, ?_⟩
        refine ⟨_, rfl, p.1, p.2, rfl, SqT.mk hp2, .int m, rfl, rfl, _, rfl, ite2 (fun z => ?_) (fun z => ?_)⟩
        · have z1 : p.2.sum = m := V.int.inj (of_decide_eq_true z)
          refine ⟨_, rfl, ?_⟩
          exact gat_step nD h2 hp (Same.refl H2) hp2 (by rw [List.filter_append, List.filter_cons_of_pos (by rw [decide_eq_true z1])]; rfl) (Nat.le_trans (List.length_filter_le _ _) (by rw [List.length_map, List.length_take]; omega))
        · have z1 : ¬ p.2.sum = m := fun y => z (by rw [y]; exact decide_eq_true rfl)
          obtain ⟨s2, bs, hD2, hr2, em2⟩ := h2
          refine ⟨s2, bs, hD2, hr2, ?_⟩
          rw [em2, List.take_add_one, hp]
          show _ = (((as.take k) ++ [p]).map (·.2)).filter _
          rw [List.map_append, List.filter_append]
          show _ = _ ++ [p.2].filter _
          rw [List.filter_cons_of_neg (by rw [decide_eq_false z1]; exact Bool.false_ne_true)]
          simp
      · obtain ⟨s2, bs, hD2, hr2, em2⟩ := h2
        have ef : (refs as).length = as.length := List.length_map ..
        rw [ef, List.take_length, em] at em2
        exact q H2 D bs (s1.trans s2) (s1.free nD) hD2 hr2 em2
/-! a short length -/
theorem nat_of {x : Int} (h : 0 ≤ x) : ∃ n : Nat, x = (n : Nat) := ⟨x.toNat, by omega⟩
def PN (p D : Addr) (HX : Hp) (m : Int) (k i : Nat) (H1 : Hp) : Prop := ∃ rs : List Int, rs.length = i ∧ (∀ x, x ∈ rs → 0 ≤ x ∧ x < m) ∧ But p HX H1 ∧ Bx H1 p (k + i) ∧ H1 D = some (.lst (rs.map V.int))
theorem pn_start {p D : Addr} {HX : Hp} {m : Int} {k : Nat} (nD : HX D = none) (B : Bx HX p k) : PN p D HX m k 0 (upd HX D (.lst [])) := ⟨[], rfl, fun _ h => (by cases h), (But.refl p HX).new nD, B.new nD, upd_same⟩
theorem pn_step {p D : Addr} {HX H1 H4 : Hp} {m : Int} {k i : Nat} {x : Int} (nD : HX D = none) (Dp : D ≠ p) (h : PN p D HX m k i H1) (b : But p H1 H4) (B : Bx H4 p (k + (i + 1))) (hi : i < 100000) (hx : 0 ≤ x ∧ x < m) :
    ∃ acc, H4 D = some (.lst acc) ∧ acc.length < sizeLine ∧ PN p D HX m k (i + 1) (upd H4 D (.lst (acc ++ [.int x]))) := by
  obtain ⟨rs, hl, hb, b1, _, hD⟩ := h
  have hsl : sizeLine = 16777216 := by decide
  refine ⟨_, b _ _ Dp hD, by rw [List.length_map]; omega, rs ++ [x], by rw [List.length_append, hl]; rfl, fun y hy => ?_, but_newer (b1.trans b) nD, B.other Dp, ?_⟩
  · rcases List.mem_append.mp hy with hy | hy
    · exact hb y hy
    · rw [List.mem_singleton.mp hy]
      exact hx
  · rw [upd_same, List.map_append]
    rfl
theorem zip_at {rs ss : List Int} {i : Nat} (h1 : i < rs.length) (h2 : i < ss.length) : (List.zipWith (fun x y => x * y) rs ss)[i]? = some (rs[i] * ss[i]) := by
  rw [List.getElem?_zipWith, List.getElem?_eq_getElem h1, List.getElem?_eq_getElem h2]
theorem take_snoc {xs : List Int} {i : Nat} {x : Int} (h : xs[i]? = some x) : xs.take (i + 1) = xs.take i ++ [x] := by
  rw [List.take_add_one, h]
  rfl
theorem ends_met {n a b : Nat} (ha : a ≤ n) (hb : b ≤ n) {as : List (Addr × List Int)} (em : as.map (·.2) = (allRows n).filter (fun r => decide (r.sum = (b : Int)))) :
    (0 < (as.map fun q => dot (nearR n a) q.2).length) ∧
    (((a + b - n : Nat) : Int) ∈ as.map fun q => dot (nearR n a) q.2) ∧ (((min a b : Nat) : Int) ∈ as.map fun q => dot (nearR n a) q.2) ∧
    ∀ y, y ∈ as.map (fun q => dot (nearR n a) q.2) → ((a + b - n : Nat) : Int) ≤ y ∧ y ≤ ((min a b : Nat) : Int) := by
  have hd : ∀ r : List Int, r.length = n → dot (nearR n a) r = (r.take a).sum := fun r hr => dot_one a (n - a) r (by omega)
  have inn : ∀ r : List Int, r.length = n → Bits r → r.sum = (b : Int) → (r.take a).sum ∈ as.map fun q => dot (nearR n a) q.2 := fun r h1 h2 h3 => by
    have m1 : r ∈ as.map (·.2) := by
      rw [em]
      exact List.mem_filter.mpr ⟨all_full n r h1 h2, decide_eq_true h3⟩
    obtain ⟨q, hq, e⟩ := List.mem_map.mp m1
    refine List.mem_map.mpr ⟨q, hq, ?_⟩
    rw [e, hd r h1]
  have m1 := inn (farR n b) (far_len hb) (far_bits n b) (far_sum n b)
  have m2 := inn (nearR n b) (near_len hb) (near_bits n b) (near_sum n b)
  rw [far_take hb ha] at m1
  rw [near_take] at m2
  refine ⟨List.length_pos_of_mem m1, m1, m2, fun y hy => ?_⟩
  obtain ⟨q, hq, rfl⟩ := List.mem_map.mp hy
  have m3 : q.2 ∈ as.map (·.2) := List.mem_map.mpr ⟨q, hq, rfl⟩
  rw [em] at m3
  obtain ⟨m4, m5⟩ := List.mem_filter.mp m3
  obtain ⟨l1, b1⟩ := all_sound n _ m4
  rw [hd _ l1]
  exact take_ends l1 b1 (of_decide_eq_true m5) ha
def sp__law_short_right (_ : PySem.W.Frag) : Sp := fun vs H Q _ => ∃ (p : Addr) (n : Nat), vs = [.ref p] ∧ Bx H p n ∧ n < 1000000000 ∧
  ∀ H', But p H H' → Bx H' p (n + 3) → Q (.bl true) H'
theorem ok__law_short_right (T : Defs K mg) (TT : Tabs T base) : FnOk P w K mg base CX0 3 T.f__law_short_right T.fd__law_short_right ["_law_box_here"] (sp__law_short_right K) := by
  have G__law_take : FnOk P w K mg base CX0 1 T.f__law_take T.fd__law_take ["_law_box_here", "_law_many"] (sp__law_take K) := ok__law_take T TT
  have G__law_same : FnOk P w K mg base CX0 2 T.f__law_same T.fd__law_same ["_law_found", "_law_due"] (sp__law_same K) := ok__law_same T TT
  have G__law_all : FnOk P w K mg base CX0 1 T.f__law_all T.fd__law_all ["_law_long", "_law_many"] (sp__law_all K) := ok__law_all T TT
  have G_lean_ends : FnOk P w K mg base CX0 2 T.f_lean_ends T.fd_lean_ends ["n", "a", "b"] (sp_lean_ends K) := ok_lean_ends T TT
  refine T.F__law_short_right.ok sc__law_short_right (fun vs H Q E h => ?_) (fun cdv A outer s H vs Q E hr h => ?_)
  · obtain ⟨p, n, rfl, hB, hn, q⟩ := h
    rfl
  · obtain ⟨p, n, rfl, hB, hn, q⟩ := h
    refine ⟨_, PSs.nox (pss_cons (ps_set (i := 1) sc__law_short_right.nd rfl (.inr rfl) (pe_op op_add pe_int (pe_call G__law_take (hr.mono (by decide)) (by rfl) T.g__law_take T.F__law_take.kp T.b__law_take .nil pass0 (pa_cons (pv 0) (pa_cons pe_int pa_nil)))))
    (pss_cons (ps_asg (pe_lc (own := [("_law_turn", 7)]) (g := gName 7) (tt := tYes) rfl sc__law_short_right.nd (pi_range1 (by rfl) T.m_range (pa_cons pe_int pa_nil)) (blkOk_by (N := N__law_short_right) (sc := defScope s__law_short_right) (by decide +kernel)) (fun _ _ _ _ _ => (pg_name (i := 7) sc__law_short_right.nd rfl (.inl rfl))) (fun _ _ _ _ _ => pts_nil) (fun _ _ _ _ _ => (pe_call G__law_take (hr.mono (by decide)) (by rfl) T.g__law_take T.F__law_take.kp T.b__law_take .nil pass0 (pa_cons (pv 0) (pa_cons (pe_op op_add (pv 1) pe_int) pa_nil))))) (pg_unl rfl (pgs_cons (pg_name (i := 2) sc__law_short_right.nd rfl (.inl rfl)) (pgs_cons (pg_name (i := 3) sc__law_short_right.nd rfl (.inl rfl)) pgs_nil))))
    (pss_cons (ps_set (i := 4) sc__law_short_right.nd rfl (.inr rfl) (pe_op op_catA (pe_op op_repB (pe_tup (pa_cons pe_int pa_nil)) (pv 2)) (pe_op op_repB (pe_tup (pa_cons pe_int pa_nil)) (pe_op op_sub (pv 1) (pv 2)))))
    (pss_cons (ps_setLc (i := 5) (own := [("_law_other", 8)]) (g := gName 8) (tt := tYes) rfl sc__law_short_right.nd rfl rfl (sw_true rfl rfl rfl (by decide +kernel)) (pi_list (pe_call G__law_all (hr.mono (by decide)) (by rfl) T.g__law_all T.F__law_all.kp T.b__law_all .nil pass0 (pa_cons (pv 1) (pa_cons (pv 3) pa_nil)))) (blkOk_by (N := N__law_short_right) (sc := defScope s__law_short_right) (by decide +kernel)) (fun _ _ _ _ _ => (pg_name (i := 8) sc__law_short_right.nd rfl (.inl rfl))) (fun _ _ _ _ _ => pts_nil) (fun _ _ _ _ _ => (pe_callB (sumK (K := K) rfl rfl) (by rfl) T.m_sum bt_sum (pa_cons (pe_lc (own := [("_law_x", 9), ("_law_y", 10)]) (g := gTup K 2 (gCons (gName 9) (gCons (gName 10) gNil))) (tt := tYes) rfl sc__law_short_right.nd ((zipAK (K := K) rfl) (by rfl) T.m_zip (pa_cons (pv 4) (pa_cons (pv 8) pa_nil))) (blkOk_by (by rfl)) (fun _ _ _ _ _ => (pg_tupK (K := K) rfl rfl (pgs_cons (pg_name (i := 9) sc__law_short_right.nd rfl (.inl rfl)) (pgs_cons (pg_name (i := 10) sc__law_short_right.nd rfl (.inl rfl)) pgs_nil)))) (fun _ _ _ _ _ => pts_nil) (fun _ _ _ _ _ => (pe_op op_mul (pv 9) (pv 10)))) pa_nil))))
    (pss_cons (ps_set (i := 6) sc__law_short_right.nd rfl (.inl rfl) (pe_tup (pa_cons (pe_op op_sub (pe_op op_mul (pv 1) (pe_callB (cr_min rfl) (by rfl) T.m_min bt_min (pa_cons (pv 5) pa_nil))) (pe_op op_mul (pv 2) (pv 3))) (pa_cons (pe_op op_sub (pe_op op_mul (pv 1) (pe_callB (cr_max rfl) (by rfl) T.m_max bt_max (pa_cons (pv 5) pa_nil))) (pe_op op_mul (pv 2) (pv 3))) pa_nil))))
    (pss_one (ps_ret (pe_and (pe_call G__law_same (hr.mono (by decide)) (by rfl) T.g__law_same T.F__law_same.kp T.b__law_same .nil pass0 (pa_cons (pe_call G_lean_ends (hr.mono (by decide)) (by rfl) T.g_lean_ends T.F_lean_ends.kp T.b_lean_ends .nil pass0 (pa_cons (pv 1) (pa_cons (pv 2) (pa_cons (pv 3) pa_nil)))) (pa_cons (pv 6) pa_nil))) (pe_one (pe_call G__law_same (hr.mono (by decide)) (by rfl) T.g__law_same T.F__law_same.kp T.b__law_same .nil pass0 (pa_cons (pe_call G_lean_ends (hr.mono (by decide)) (by rfl) T.g_lean_ends T.F_lean_ends.kp T.b_lean_ends .nil pass0 (pa_cons (pv 1) (pa_cons (pv 3) (pa_cons (pv 2) pa_nil)))) (pa_cons (pv 6) pa_nil)))))))))))), ?_⟩
    have hsl : sizeLine = 16777216 := by decide
    refine ⟨.ref p, rfl, p, 8, n, rfl, hB, by decide, by decide, by omega, fun H1 r1 b1 B1 l1 u1 => ⟨_, _, rfl, rfl, ?_⟩⟩
    obtain ⟨L, hL⟩ : ∃ L : Nat, 1 + r1 = (L : Nat) := ⟨(1 + r1).toNat, by omega⟩
    dsimp only
    rw [hL]
    have L1 : 1 ≤ L := by omega
    have L2' : L ≤ 8 := by omega
    clear hL l1 u1
    refine ⟨2, rfl, by decide, by decide, fun D nD => ?_⟩
    refine lc_range (PN p D H1 (L + 1) (n + 1)) (pn_start nD B1) (fun i H2 hi h2 => ?_) (fun H2 h2 => ?_)
    · refine ⟨rfl, yes_ite ?_⟩
      have h2' := h2
      obtain ⟨_, _, _, _, B2, _⟩ := h2'
      refine ⟨.ref p, rfl, .int (L : Nat), rfl, _, _, rfl, rfl, p, _, n + 1 + i, rfl, B2, by omega, by omega, by omega, fun H3 r3 b3 B3 l3 u3 => ?_⟩
      exact pn_step nD (ne_new B1 nD) h2 b3 B3 (by omega) ⟨l3, u3⟩
    obtain ⟨rs, hl, hb, b2, B2, hD⟩ := h2
    have hl : rs.length = 2 := hl
    obtain ⟨x, y, rfl⟩ : ∃ x y, rs = [x, y] := by
      cases rs with
      | nil => cases hl
      | cons x r =>
        cases r with
        | nil => cases hl
        | cons y r =>
          cases r with
          | nil => exact ⟨x, y, rfl⟩
          | cons z r => cases hl
    obtain ⟨x0, x1⟩ := hb x List.mem_cons_self
    obtain ⟨y0, y1⟩ := hb y (List.mem_cons_of_mem _ List.mem_cons_self)
    obtain ⟨a, rfl⟩ := nat_of x0
    obtain ⟨b, rfl⟩ := nat_of y0
    have ha : a ≤ L := by omega
    have hb' : b ≤ L := by omega
    refine ⟨D, _, rfl, SqL.mk hD, rfl, _, _, rfl, _, _, rfl, rfl, ?_⟩
    -- the one row
    refine ⟨(show 1 ≤ sizeLine by decide), fun t nt => ?_⟩
    refine ⟨.int (a : Nat), rfl, rep_go (k := a) rfl upd_same (by omega) fun H3 p3 s3 hp3 => ?_⟩
    refine ⟨(show 1 ≤ sizeLine by decide), fun t' nt' => ?_⟩
    refine ⟨.int (L : Nat), rfl, .int (a : Nat), rfl, _, _, rfl, rfl, rep_go (k := L - a) (by omega) upd_same (by omega) fun H4 p4 s4 hp4 => ?_⟩
    refine cat_go (rs := List.replicate a 1) (ss := List.replicate (L - a) 0) (s4 _ _ ((same_upd nt') _ _ hp3)) hp4 (by rw [List.length_replicate, List.length_replicate]; omega) fun H5 o s5 ho => ?_
    have s25 : Same H2 H5 := (((same_upd nt).trans s3).trans ((same_upd nt').trans s4)).trans s5
    have ho : H5 o = some (.tup ((nearR L a).map V.int)) := ho
    clear s3 s4 s5 hp3 hp4 nt nt'
    -- met
    refine ⟨.int (L : Nat), rfl, .int (b : Nat), rfl, L, (b : Nat), rfl, by omega, fun H6 l as s6 nl hl6 hr6 em => ?_⟩
    have s26 : Same H2 H6 := s25.trans s6
    have ho6 := s6 _ _ ho
    have la : as.length ≤ 1024 := by
      have h1 := all_small (Nat.le_refl L) (show L ≤ 10 by omega)
      have h2 := congrArg List.length em
      rw [List.length_map] at h2
      rw [h2]
      exact Nat.le_trans (List.length_filter_le _ _) h1
    have lo : (nearR L a).length = L := near_len ha
    refine ⟨l, rfl, ⟨_, SqL.mk hl6⟩, fun D' nD' => ?_⟩
    refine lc_list (xs := refs as) (fun i G => Same H6 G ∧ G D' = some (.lst (((as.take i).map fun q => dot (nearR L a) q.2).map V.int))) ⟨same_upd nD', upd_same⟩ (fun k G _ h => SqL.mk (h.1 _ _ hl6)) (fun k x G hx h => ?_) (fun G h => ?_)
    · obtain ⟨sG, hDG⟩ := h
      rw [List.getElem?_map] at hx
      obtain ⟨r, hr, rfl⟩ := Option.map_eq_some_iff.mp hx
      have rm := List.mem_of_getElem? hr
      have hrG := sG _ _ (hr6 r rm)
      have hoG := sG _ _ ho6
      have mr : r.2 ∈ as.map (·.2) := List.mem_map.mpr ⟨r, rm, rfl⟩
      rw [em] at mr
      obtain ⟨lr, br⟩ := all_sound L _ (List.mem_filter.mp mr).1
      refine ⟨rfl, yes_ite ?_⟩
      refine ⟨_, rfl, _, rfl, o, r.1, _, _, rfl, .inr ⟨SqT.mk hoG, SqT.mk hrG, fun D2 nD2 => ?_⟩⟩
      refine lc_it (walk_zipT (n := L) (xs := (nearR L a).map V.int) (ys := r.2.map V.int) (by rw [List.length_map, List.length_map, lo, lr, Nat.min_self])) (fun i G2 => Same G G2 ∧ G2 D2 = some (.lst (((List.zipWith (fun x y => x * y) (nearR L a) r.2).take i).map V.int))) ⟨same_upd nD2, upd_same⟩ (fun i G2 _ h2 => ⟨SqT.mk (h2.1 _ _ hoG), SqT.mk (h2.1 _ _ hrG)⟩) ?_ ?_
      · rintro i x G2 G3 hi ⟨s2, hD2⟩ ⟨t, x1, x2, rfl, nt, rfl, e1, e2⟩
        have h1 : i < (nearR L a).length := by omega
        have h2 : i < r.2.length := by omega
        have e1 : ((nearR L a).map V.int)[i]? = some x1 := e1
        have e2 : (r.2.map V.int)[i]? = some x2 := e2
        rw [List.getElem?_map, List.getElem?_eq_getElem h1] at e1
        rw [List.getElem?_map, List.getElem?_eq_getElem h2] at e2
        cases e1
        cases e2
        refine ⟨t, _, rfl, SqT.mk upd_same, rfl, _, _, rfl, _, _, rfl, rfl, rfl, yes_ite ?_⟩
        have bx := near_bits L a _ (List.getElem_mem h1)
        refine ⟨_, rfl, _, rfl, _, _, rfl, rfl, .inl ⟨by omega, by omega⟩, ?_⟩
        refine ⟨_, (same_upd nt) _ _ hD2, by rw [List.length_map, List.length_take]; omega, same_newer (s2.trans (same_upd nt)) nD2, ?_⟩
        rw [upd_same, take_snoc (zip_at h1 h2), List.map_append]
        rfl
      · rintro G2 ⟨s2, hD2⟩
        rw [List.take_of_length_le (by rw [List.length_zipWith]; omega)] at hD2
        refine ⟨D2, _, rfl, SqL.mk hD2, ?_⟩
        refine ⟨_, s2 _ _ hDG, by rw [List.length_map, List.length_map, List.length_take]; omega, same_newer (sG.trans s2) nD', ?_⟩
        rw [upd_same, List.take_add_one, hr, List.map_append, List.map_append]
        rfl
    obtain ⟨sG, hDG⟩ := h
    have ef : (refs as).length = as.length := List.length_map ..
    rw [ef, List.take_length] at hDG
    obtain ⟨e0, e1, e2, e3⟩ := ends_met ha hb' em
    have bL : -(2 ^ 64) < (L : Int) ∧ (L : Int) < 2 ^ 64 := ⟨by omega, by omega⟩
    have ba : -(2 ^ 64) < (a : Int) ∧ (a : Int) < 2 ^ 64 := ⟨by omega, by omega⟩
    -- due
    refine ⟨.int (L : Nat), rfl, _, rfl, D', _, rfl, SqL.mk hDG, e0, fun m m1 m2 => ?_⟩
    have em1 : m = ((a + b - L : Nat) : Int) := Int.le_antisymm (m2 _ e1) (e3 m m1).1
    subst em1
    refine ⟨_, _, rfl, rfl, .inl bL, .int (a : Nat), rfl, .int (b : Nat), rfl, _, _, rfl, rfl, .inl ba, _, _, rfl, rfl, ?_⟩
    refine ⟨.int (L : Nat), rfl, _, rfl, D', _, rfl, SqL.mk hDG, e0, fun m m1 m2 => ?_⟩
    have em2 : m = ((min a b : Nat) : Int) := Int.le_antisymm (e3 m m1).2 (m2 _ e2)
    subst em2
    refine ⟨_, _, rfl, rfl, .inl bL, .int (a : Nat), rfl, .int (b : Nat), rfl, _, _, rfl, rfl, .inl ba, _, _, rfl, rfl, (show 2 ≤ sizeLine by decide), fun d nd => ?_⟩
    have sF : Same H2 (upd G d (.tup (([L * ((a + b - L : Nat) : Int) - a * b, L * ((min a b : Nat) : Int) - a * b] : List Int).map V.int))) := (s26.trans sG).trans (same_upd nd)
    have hd : (upd G d (.tup (([L * ((a + b - L : Nat) : Int) - a * b, L * ((min a b : Nat) : Int) - a * b] : List Int).map V.int))) d = _ := upd_same
    refine ⟨_, rfl, _, rfl, _, rfl, L, a, b, rfl, by omega, by omega, fun F1 p1 f1 hp1 => ?_⟩
    refine ⟨_, rfl, p1, d, _, rfl, hp1, f1 _ _ hd, (show 2 ≤ 100000 by decide), fun F2 f2 => ?_⟩
    refine ⟨_, rfl, iteT ?_⟩
    refine ⟨_, rfl, _, rfl, _, rfl, L, b, a, rfl, by omega, by omega, fun F3 p3 f3 hp3 => ?_⟩
    rw [show b + a - L = a + b - L by omega, Nat.min_comm b a, Int.mul_comm (b : Int) (a : Int)] at hp3
    refine ⟨_, rfl, p3, d, _, rfl, hp3, f3 _ _ (f2 _ _ (f1 _ _ hd)), (show 2 ≤ 100000 by decide), fun F4 f4 => ?_⟩
    have sAll := sF.trans (f1.trans (f2.trans (f3.trans f4)))
    exact q F4 ((b1.trans b2).trans (same_but sAll)) (B2.same sAll)
/-! a long length -/
theorem near_dot {n a : Nat} {r : List Int} (ha : a ≤ n) (hr : r.length = n) : dot (nearR n a) r = (r.take a).sum := dot_one a (n - a) r (by omega)
def sp__law_long_right {K : PySem.W.Frag} {mg : Str → Option Value} (T : Defs K mg) : Sp := fun vs H Q _ => ∃ (p : Addr) (n : Nat), vs = [.ref p] ∧ Bx H p n ∧ n < 1000000000 ∧ GxR.TabG H T.P_both ∧
  ∀ H', Bus p H H' → Bx H' p (n + 8) → Q (.bl true) H'
theorem ok__law_long_right (T : Defs K mg) (TT : Tabs T base) : FnOk P w K mg base CX0 5 T.f__law_long_right T.fd__law_long_right ["_law_box_here"] (sp__law_long_right T) := by
  have G__law_same : FnOk P w K mg base CX0 2 T.f__law_same T.fd__law_same ["_law_found", "_law_due"] (sp__law_same K) := ok__law_same T TT
  have G__law_take : FnOk P w K mg base CX0 1 T.f__law_take T.fd__law_take ["_law_box_here", "_law_many"] (sp__law_take K) := ok__law_take T TT
  have G_lean_ends : FnOk P w K mg base CX0 2 T.f_lean_ends T.fd_lean_ends ["n", "a", "b"] (sp_lean_ends K) := ok_lean_ends T TT
  have G_lean : FnOk P w K mg base CX0 4 T.f_lean T.fd_lean ["one", "other"] (sp_lean T) := ok_lean T TT
  refine T.F__law_long_right.ok sc__law_long_right (fun vs H Q E h => ?_) (fun cdv A outer s H vs Q E hr h => ?_)
  · obtain ⟨p, n, rfl, hB, hn, tg, q⟩ := h
    rfl
  · obtain ⟨p, n, rfl, hB, hn, tg, q⟩ := h
    refine ⟨_, PSs.nox (pss_cons (ps_set (i := 1) sc__law_long_right.nd rfl (.inl rfl) (pe_ix ix_list (pe_lst (pa_cons pe_int (pa_cons (pe_op op_add pe_int (pe_call G__law_take (hr.mono (by decide)) (by rfl) T.g__law_take T.F__law_take.kp T.b__law_take .nil pass0 (pa_cons (pv 0) (pa_cons pe_int pa_nil)))) (pa_cons (pe_op op_add pe_int (pe_call G__law_take (hr.mono (by decide)) (by rfl) T.g__law_take T.F__law_take.kp T.b__law_take .nil pass0 (pa_cons (pv 0) (pa_cons pe_int pa_nil)))) pa_nil)))) (pe_call G__law_take (hr.mono (by decide)) (by rfl) T.g__law_take T.F__law_take.kp T.b__law_take .nil pass0 (pa_cons (pv 0) (pa_cons pe_int pa_nil))) (fun _ _ => rfl)))
    (pss_cons (ps_set (i := 2) sc__law_long_right.nd rfl (.inl rfl) (pe_callB (call_min2 rfl) (by rfl) T.m_min bt_min (pa_cons pe_int (pa_cons (pv 1) pa_nil))))
    (pss_cons (ps_set (i := 3) sc__law_long_right.nd rfl (.inl rfl) (pe_lst (pa_cons pe_int (pa_cons (pv 1) (pa_cons (pe_op op_fdiv (pv 1) pe_int) (pa_cons (pe_call G__law_take (hr.mono (by decide)) (by rfl) T.g__law_take T.F__law_take.kp T.b__law_take .nil pass0 (pa_cons (pv 0) (pa_cons (pe_op op_add (pv 1) pe_int) pa_nil))) (pa_cons (pe_op op_sub (pv 1) (pe_call G__law_take (hr.mono (by decide)) (by rfl) T.g__law_take T.F__law_take.kp T.b__law_take .nil pass0 (pa_cons (pv 0) (pa_cons (pv 2) pa_nil)))) (pa_cons (pe_call G__law_take (hr.mono (by decide)) (by rfl) T.g__law_take T.F__law_take.kp T.b__law_take .nil pass0 (pa_cons (pv 0) (pa_cons (pv 2) pa_nil))) pa_nil))))))))
    (pss_cons (ps_par (i := 4) (j := 5) (by rfl) sc__law_long_right.nd rfl rfl (by decide) rfl rfl (pa_cons (pe_ix ix_list (pv 3) (pe_call G__law_take (hr.mono (by decide)) (by rfl) T.g__law_take T.F__law_take.kp T.b__law_take .nil pass0 (pa_cons (pv 0) (pa_cons pe_int pa_nil))) (fun _ _ => rfl)) (pa_cons (pe_ix ix_list (pv 3) (pe_call G__law_take (hr.mono (by decide)) (by rfl) T.g__law_take T.F__law_take.kp T.b__law_take .nil pass0 (pa_cons (pv 0) (pa_cons pe_int pa_nil))) (fun _ _ => rfl)) pa_nil)) (by rfl))
    (pss_cons (ps_set (i := 6) sc__law_long_right.nd rfl (.inl rfl) (pe_op op_catA (pe_op op_repB (pe_tup (pa_cons pe_int pa_nil)) (pv 4)) (pe_op op_repB (pe_tup (pa_cons pe_int pa_nil)) (pe_op op_sub (pv 1) (pv 4)))))
    (pss_cons (ps_par (i := 7) (j := 8) (by rfl) sc__law_long_right.nd rfl rfl (by decide) rfl rfl (pa_cons (pe_op op_catA (pe_op op_repB (pe_tup (pa_cons pe_int pa_nil)) (pv 5)) (pe_op op_repB (pe_tup (pa_cons pe_int pa_nil)) (pe_op op_sub (pv 1) (pv 5)))) (pa_cons (pe_op op_catA (pe_op op_repB (pe_tup (pa_cons pe_int pa_nil)) (pe_op op_sub (pv 1) (pv 5))) (pe_op op_repB (pe_tup (pa_cons pe_int pa_nil)) (pv 5))) pa_nil)) (by rfl))
    (pss_one (ps_ret (pe_call G__law_same (hr.mono (by decide)) (by rfl) T.g__law_same T.F__law_same.kp T.b__law_same .nil pass0 (pa_cons (pe_call G_lean_ends (hr.mono (by decide)) (by rfl) T.g_lean_ends T.F_lean_ends.kp T.b_lean_ends .nil pass0 (pa_cons (pv 1) (pa_cons (pv 4) (pa_cons (pv 5) pa_nil)))) (pa_cons (pe_tup (pa_cons (pe_call G_lean (hr.mono (by decide)) (by rfl) T.g_lean T.F_lean.kp T.b_lean .nil pass0 (pa_cons (pv 6) (pa_cons (pv 8) pa_nil))) (pa_cons (pe_call G_lean (hr.mono (by decide)) (by rfl) T.g_lean T.F_lean.kp T.b_lean .nil pass0 (pa_cons (pv 6) (pa_cons (pv 7) pa_nil))) pa_nil))) pa_nil))))))))))), ?_⟩
    have hsl : sizeLine = 16777216 := by decide
    refine ⟨.ref p, rfl, p, 4096, n, rfl, hB, by decide, by decide, by omega, fun H1 r1 b1 B1 l1 u1 => ⟨_, _, rfl, rfl, ?_⟩⟩
    refine ⟨.ref p, rfl, p, 100, n + 1, rfl, B1, by decide, by decide, by omega, fun H2 r2 b2 B2 l2 u2 => ⟨_, _, rfl, rfl, ?_⟩⟩
    refine ⟨(show 3 ≤ sizeLine by decide), fun l nl => ?_⟩
    refine ⟨.ref p, rfl, p, 3, n + 2, rfl, B2.new nl, by decide, by decide, by omega, fun H3 r3 b3 B3 l3 u3 => ?_⟩
    obtain ⟨v, ev, hv⟩ := at_menu (Pr := fun v => 1 ≤ v ∧ v ≤ 4096) (xs := [4096, 1 + r1, 1 + r2]) l3 u3 (fun x hx => by
      rcases List.mem_cons.mp hx with rfl | hx
      · omega
      rcases List.mem_cons.mp hx with rfl | hx
      · omega
      rcases List.mem_cons.mp hx with rfl | hx
      · omega
      · cases hx)
    obtain ⟨L, rfl⟩ := nat_of (show 0 ≤ v by omega)
    have L1 : 1 ≤ L := by omega
    have L2' : L ≤ 4096 := by omega
    refine ⟨l, _, _, _, rfl, rfl, SqL.mk (b3 _ _ (ne_new B2 nl) upd_same), ev, ?_⟩
    have b03 : But p H H3 := ((b1.trans b2).new nl).trans b3
    clear ev hv b1 b2 b3 B1 B2 nl l1 u1 l2 u2 l3 u3
    refine ⟨.int (L : Nat), rfl, _, _, rfl, ?_⟩
    have hf : 1 ≤ (if (L : Int) < 4 then (L : Int) else 4) ∧ (if (L : Int) < 4 then (L : Int) else 4) ≤ 4 ∧ (if (L : Int) < 4 then (L : Int) else 4) ≤ L := by
      split <;> omega
    generalize hfw : (if (L : Int) < 4 then (L : Int) else 4) = few at hf
    -- the menu
    refine ⟨.int (L : Nat), rfl, .int (L : Nat), rfl, _, _, rfl, rfl, ⟨by decide, by decide⟩, ?_⟩
    refine ⟨.ref p, rfl, .int (L : Nat), rfl, _, _, rfl, rfl, p, _, n + 3, rfl, B3, by omega, by omega, by omega, fun H4 r4 b4 B4 l4 u4 => ?_⟩
    refine ⟨.int (L : Nat), rfl, .ref p, rfl, .int few, rfl, p, few, n + 4, rfl, B4, by omega, by omega, by omega, fun H5 r5 b5 B5 l5 u5 => ⟨_, _, rfl, rfl, ?_⟩⟩
    refine ⟨.ref p, rfl, .int few, rfl, p, few, n + 5, rfl, B5, by omega, by omega, by omega, fun H6 r6 b6 B6 l6 u6 => ?_⟩
    refine ⟨(show 6 ≤ sizeLine by decide), fun m nm => ?_⟩
    have hmenu : ∀ x : Int, x ∈ [0, (L : Int), (L : Int) / 2, r4, (L : Int) - r5, r6] → 0 ≤ x ∧ x ≤ L := fun x hx => by
      rcases List.mem_cons.mp hx with rfl | hx
      · omega
      rcases List.mem_cons.mp hx with rfl | hx
      · omega
      rcases List.mem_cons.mp hx with rfl | hx
      · omega
      rcases List.mem_cons.mp hx with rfl | hx
      · omega
      rcases List.mem_cons.mp hx with rfl | hx
      · omega
      rcases List.mem_cons.mp hx with rfl | hx
      · omega
      · cases hx
    -- a, b
    refine ⟨.ref m, rfl, .ref p, rfl, p, 6, n + 6, rfl, B6.new nm, by decide, by decide, by omega, fun H7 r7 b7 B7 l7 u7 => ?_⟩
    have nmp := ne_new B6 nm
    have hm7 := b7 _ _ nmp upd_same
    obtain ⟨va, ea, a0, a1⟩ := at_menu (xs := [0, (L : Int), (L : Int) / 2, r4, (L : Int) - r5, r6]) l7 u7 hmenu
    obtain ⟨a, rfl⟩ := nat_of a0
    refine ⟨m, _, _, _, rfl, rfl, SqL.mk hm7, ea, ?_⟩
    refine ⟨.ref m, rfl, .ref p, rfl, p, 6, n + 7, rfl, B7, by decide, by decide, by omega, fun H8 r8 b8 B8 l8 u8 => ?_⟩
    have hm8 := b8 _ _ nmp hm7
    obtain ⟨vb, eb, c0, c1⟩ := at_menu (xs := [0, (L : Int), (L : Int) / 2, r4, (L : Int) - r5, r6]) l8 u8 hmenu
    obtain ⟨b, rfl⟩ := nat_of c0
    refine ⟨m, _, _, _, rfl, rfl, SqL.mk hm8, eb, ?_⟩
    have ha : a ≤ L := by omega
    have hb : b ≤ L := by omega
    have b08 : But p H H8 := b03.trans ((((b4.trans b5).trans b6).new nm).trans (b7.trans b8))
    clear ea eb hm7 hm8 b4 b5 b6 b7 b8 B4 B5 B6 B7 nm hmenu l4 u4 l5 u5 l6 u6 l7 u7 l8 u8
    refine ⟨_, _, rfl, ?_⟩
    -- the one row
    refine ⟨(show 1 ≤ sizeLine by decide), fun t1 n1 => ?_⟩
    refine ⟨.int (a : Nat), rfl, rep_go (k := a) rfl upd_same (by omega) fun G1 p1 s1 hp1 => ?_⟩
    refine ⟨(show 1 ≤ sizeLine by decide), fun t2 n2 => ?_⟩
    refine ⟨.int (L : Nat), rfl, .int (a : Nat), rfl, _, _, rfl, rfl, rep_go (k := L - a) (by omega) upd_same (by omega) fun G2 p2 s2 hp2 => ?_⟩
    refine cat_go (rs := List.replicate a 1) (ss := List.replicate (L - a) 0) (s2 _ _ ((same_upd n2) _ _ hp1)) hp2 (by rw [List.length_replicate, List.length_replicate]; omega) fun G3 o s3 ho => ?_
    have S3 : Same H8 G3 := (((same_upd n1).trans s1).trans ((same_upd n2).trans s2)).trans s3
    have ho : G3 o = some (.tup ((nearR L a).map V.int)) := ho
    clear s1 s2 s3 hp1 hp2 n1 n2
    -- near
    refine ⟨(show 1 ≤ sizeLine by decide), fun t1 n1 => ?_⟩
    refine ⟨.int (b : Nat), rfl, rep_go (k := b) rfl upd_same (by omega) fun G4 p1 s1 hp1 => ?_⟩
    refine ⟨(show 1 ≤ sizeLine by decide), fun t2 n2 => ?_⟩
    refine ⟨.int (L : Nat), rfl, .int (b : Nat), rfl, _, _, rfl, rfl, rep_go (k := L - b) (by omega) upd_same (by omega) fun G5 p2 s2 hp2 => ?_⟩
    refine cat_go (rs := List.replicate b 1) (ss := List.replicate (L - b) 0) (s2 _ _ ((same_upd n2) _ _ hp1)) hp2 (by rw [List.length_replicate, List.length_replicate]; omega) fun G6 e s3 he => ?_
    have S6 : Same G3 G6 := (((same_upd n1).trans s1).trans ((same_upd n2).trans s2)).trans s3
    have he : G6 e = some (.tup ((nearR L b).map V.int)) := he
    clear s1 s2 s3 hp1 hp2 n1 n2
    -- far
    refine ⟨(show 1 ≤ sizeLine by decide), fun t1 n1 => ?_⟩
    refine ⟨.int (L : Nat), rfl, .int (b : Nat), rfl, _, _, rfl, rfl, rep_go (k := L - b) (by omega) upd_same (by omega) fun G7 p1 s1 hp1 => ?_⟩
    refine ⟨(show 1 ≤ sizeLine by decide), fun t2 n2 => ?_⟩
    refine ⟨.int (b : Nat), rfl, rep_go (k := b) rfl upd_same (by omega) fun G8 p2 s2 hp2 => ?_⟩
    refine cat_go (rs := List.replicate (L - b) 0) (ss := List.replicate b 1) (s2 _ _ ((same_upd n2) _ _ hp1)) hp2 (by rw [List.length_replicate, List.length_replicate]; omega) fun G9 f s3 hf9 => ?_
    have S9 : Same G6 G9 := (((same_upd n1).trans s1).trans ((same_upd n2).trans s2)).trans s3
    have hf9 : G9 f = some (.tup ((farR L b).map V.int)) := hf9
    clear s1 s2 s3 hp1 hp2 n1 n2
    refine ⟨_, _, rfl, ?_⟩
    refine ⟨_, rfl, _, rfl, _, rfl, L, a, b, rfl, by omega, by omega, fun F1 p1 f1 hp1 => ?_⟩
    have S1 : Same H8 F1 := ((S3.trans S6).trans S9).trans f1
    have b0 : Bus p H F1 := Bus.of (b08.trans (same_but S1))
    have BF1 : Bx F1 p (n + 8) := B8.same S1
    have tg1 : GxR.TabG F1 T.P_both := b0.tabG hB tg
    have lo : (nearR L a).length = L := near_len ha
    have lf : (farR L b).length = L := far_len hb
    have ln : (nearR L b).length = L := near_len hb
    have ho1 := f1 _ _ (S9 _ _ (S6 _ _ ho))
    have he1 := f1 _ _ (S9 _ _ he)
    have hf1 := f1 _ _ hf9
    refine ⟨_, rfl, _, rfl, o, f, _, _, rfl, ho1, hf1, by rw [lo, lf], by rw [lo]; omega, near_bits L a, far_bits L b, tg1, fun F2 f2 => ?_⟩
    refine ⟨_, rfl, _, rfl, o, e, _, _, rfl, f2.tup ho1, f2.tup he1, by rw [lo, ln], by rw [lo]; omega, near_bits L a, near_bits L b, f2.tabG tg1, fun F3 f3 => ?_⟩
    refine ⟨(show 2 ≤ sizeLine by decide), fun d nd => ?_⟩
    have SF := (f2.trans f3).trans (Sam.of (same_upd nd (o := .tup [.int ((nearR L a).length * dot (nearR L a) (farR L b) - (nearR L a).sum * (farR L b).sum), .int ((nearR L a).length * dot (nearR L a) (nearR L b) - (nearR L a).sum * (nearR L b).sum)])))
    refine ⟨p1, d, _, rfl, SF.tup hp1, ?_, (show 2 ≤ 100000 by decide), fun F4 f4 => ?_⟩
    · rw [upd_same, near_dot ha lf, near_dot ha ln, far_take hb ha, near_take, near_sum, far_sum, near_sum, lo]
      rfl
    · have S4 := SF.trans (Sam.of f4)
      exact q F4 (b0.trans (Bus.sam S4)) (BF1.sam S4)
def sp_law {K : PySem.W.Frag} {mg : Str → Option Value} (T : Defs K mg) : Sp := fun vs H Q _ => ∃ (a : Addr) (ns : List Int), vs = [.ref a] ∧ SqL K H a (ns.map V.int) ∧ ns.length ≤ 63 ∧ (GxR.TabG H T.P_both ∧ True) ∧ ∀ H', Q (.bl true) H'
theorem ok_law (T : Defs K mg) (TT : Tabs T base) : FnOk P w K mg base CX0 6 T.f_law T.fd_law ["_law_script"] (sp_law T) := by
  have G__law_folded : FnOk P w K mg base CX0 1 T.f__law_folded T.fd__law_folded ["_law_script", "_law_many"] (sp__law_folded K) := ok__law_folded T TT
  have G__law_box : FnOk P w K mg base CX0 1 T.f__law_box T.fd__law_box ["_law_script", "_law_k"] (sp__law_box K) := ok__law_box T TT
  have G__law_short_right : FnOk P w K mg base CX0 3 T.f__law_short_right T.fd__law_short_right ["_law_box_here"] (sp__law_short_right K) := ok__law_short_right T TT
  have G__law_long_right : FnOk P w K mg base CX0 5 T.f__law_long_right T.fd__law_long_right ["_law_box_here"] (sp__law_long_right T) := ok__law_long_right T TT
  refine T.F_law.ok sc_law (fun vs H Q E h => ?_) (fun cdv A outer s H vs Q E hr h => ?_)
  · obtain ⟨a, ns, rfl, hS, hlen, ⟨tg0, _⟩, q⟩ := h
    rfl
  · obtain ⟨a, ns, rfl, hS, hlen, ⟨tg0, _⟩, q⟩ := h
    refine ⟨_, PSs.nox (pss_cons (ps_set (i := 1) sc_law.nd rfl (.inl rfl) (pe_call G__law_folded (hr.mono (by decide)) (by rfl) T.g__law_folded T.F__law_folded.kp T.b__law_folded .nil pass0 (pa_cons (pv 0) (pa_cons pe_int pa_nil))))
    (pss_cons (ps_for PassesOwn.never rfl (pi_range1 (by rfl) T.m_range (pa_cons (pe_callB (call_max2 rfl) (by rfl) T.m_max bt_max (pa_cons pe_int (pa_cons (pe_callB call_len_seq (by rfl) T.m_len bt_len (pa_cons (pv 1) pa_nil)) pa_nil))) pa_nil)) (pg_name (i := 2) sc_law.nd rfl (.inl rfl)) (pss_cons (ps_set (i := 3) sc_law.nd rfl (.inl rfl) (pe_call G__law_box (hr.mono (by decide)) (by rfl) T.g__law_box T.F__law_box.kp T.b__law_box .nil pass0 (pa_cons (pv 1) (pa_cons (pv 2) pa_nil))))
    (pss_one (ps_for PassesOwn.never rfl (pi_range1 (by rfl) T.m_range (pa_cons pe_int pa_nil)) (pg_name (i := 4) sc_law.nd rfl (.inl rfl)) (pss_one (ps_if (PW.pt (pw_or (pt_not (pt_val (pe_call G__law_short_right (hr.mono (by decide)) (by rfl) T.g__law_short_right T.F__law_short_right.kp T.b__law_short_right .nil pass0 (pa_cons (pv 3) pa_nil)))) (pw_or1 (pt_not (pt_val (pe_call G__law_long_right (hr.mono (by decide)) (by rfl) T.g__law_long_right T.F__law_long_right.kp T.b__law_long_right .nil pass0 (pa_cons (pv 3) pa_nil))))))) (pss_one (ps_ret pe_bl)) pss_nil))))))
    (pss_one (ps_ret pe_bl)))), ?_⟩
    refine ⟨.ref a, rfl, a, ns, 4, rfl, hS, hlen, by decide, by decide, fun H1 c cs s1 nc hc lc => ?_⟩
    have tg1 : GxR.TabG H1 T.P_both := (Sam.of s1).tabG tg0
    have hn : (if (((cs.map V.int).length : Nat) : Int) > 2 then (((cs.map V.int).length : Nat) : Int) else 2) ≤ 4 ∧ 0 ≤ (if (((cs.map V.int).length : Nat) : Int) > 2 then (((cs.map V.int).length : Nat) : Int) else 2) := by
      rw [List.length_map]
      split <;> omega
    refine ⟨.ref c, rfl, c, _, rfl, .inl (SqL.mk hc), _, _, rfl, _, rfl, by omega, by omega, for_range (fun i σ H2 => ∃ y2 y3 y4, σ = [some (.ref a), some (.ref c), y2, y3, y4] ∧ Sam H1 H2) ⟨none, none, none, rfl, Sam.refl H1⟩ ?_ ?_⟩
    rotate_left
    · rintro σ H2 ⟨y2, y3, y4, rfl, s2⟩
      exact q _
    rintro i σ H2 hi ⟨y2, y3, y4, rfl, s2⟩
    have hi2 : i < 1000 := by omega
    refine ⟨.ref c, rfl, .int (0 + (i : Int)), rfl, c, cs, i, by rw [Int.zero_add]; rfl, SqL.mk (s2.lst hc), hi2, fun H3 b s3 nb hB => ?_⟩
    have nb1 : H1 b = none := s2.free nb
    have s13 := s2.trans (Sam.of s3)
    have tg3 : GxR.TabG H3 T.P_both := s13.tabG tg1
    refine ⟨3, rfl, by decide, by decide, for_range (n := 3) (fun j σ G => ∃ y4, σ = [some (.ref a), some (.ref c), some (.int (0 + (i : Int))), some (.ref b), y4] ∧ Bus b H3 G ∧ Bx G b (11 * j)) ⟨_, rfl, Bus.refl b H3, hB⟩ ?_ ?_⟩
    rotate_left
    · rintro σ G ⟨y4, rfl, bG, BG⟩
      exact ⟨_, _, _, rfl, bus_same nb1 s13 bG⟩
    rintro j σ G hj ⟨y4, rfl, bG, BG⟩
    refine ⟨.ref b, rfl, b, 11 * j, rfl, BG, by omega, fun G1 c1 B1 => ⟨_, rfl, ?_⟩⟩
    have b1 := bG.trans (Bus.of c1)
    refine iteF ?_
    refine ⟨.ref b, rfl, b, 11 * j + 3, rfl, B1, by omega, b1.tabG hB tg3, fun G2 c2 B2 => ⟨_, rfl, ?_⟩⟩
    refine iteF ?_
    exact ⟨_, rfl, b1.trans c2, B2.mono (by omega)⟩
end
def d_refuse_unlike : He.DefD := ⟨("refuse_unlike", none), "refuse_unlike", "refuse_unlike", defArgs s_refuse_unlike, defBody s_refuse_unlike, defScope s_refuse_unlike, [], []⟩
def d_ones : He.DefD := ⟨("ones", none), "ones", "ones", defArgs s_ones, defBody s_ones, defScope s_ones, [], []⟩
def d_both : He.DefD := ⟨("both", none), "both", "both", defArgs s_both, defBody s_both, defScope s_both, [], []⟩
def d_overlap : He.DefD := ⟨("overlap", none), "overlap", "overlap", defArgs s_overlap, defBody s_overlap, defScope s_overlap, [], []⟩
def d_lean : He.DefD := ⟨("lean", none), "lean", "lean", defArgs s_lean, defBody s_lean, defScope s_lean, [], []⟩
def d_overlap_ends : He.DefD := ⟨("overlap_ends", none), "overlap_ends", "overlap_ends", defArgs s_overlap_ends, defBody s_overlap_ends, defScope s_overlap_ends, [], []⟩
def d_lean_ends : He.DefD := ⟨("lean_ends", none), "lean_ends", "lean_ends", defArgs s_lean_ends, defBody s_lean_ends, defScope s_lean_ends, [], []⟩
def d__law_box : He.DefD := ⟨("_law_box", none), "_law_box", "_law_box", defArgs s__law_box, defBody s__law_box, defScope s__law_box, [], []⟩
def d__law_take : He.DefD := ⟨("_law_take", none), "_law_take", "_law_take", defArgs s__law_take, defBody s__law_take, defScope s__law_take, [], []⟩
def d__law_folded : He.DefD := ⟨("_law_folded", none), "_law_folded", "_law_folded", defArgs s__law_folded, defBody s__law_folded, defScope s__law_folded, [], []⟩
def d__law_same : He.DefD := ⟨("_law_same", none), "_law_same", "_law_same", defArgs s__law_same, defBody s__law_same, defScope s__law_same, [], []⟩
def d__law_all : He.DefD := ⟨("_law_all", none), "_law_all", "_law_all", defArgs s__law_all, defBody s__law_all, defScope s__law_all, [], []⟩
def d__law_short_right : He.DefD := ⟨("_law_short_right", none), "_law_short_right", "_law_short_right", defArgs s__law_short_right, defBody s__law_short_right, defScope s__law_short_right, [], []⟩
def d__law_long_right : He.DefD := ⟨("_law_long_right", none), "_law_long_right", "_law_long_right", defArgs s__law_long_right, defBody s__law_long_right, defScope s__law_long_right, [], []⟩
def d_law : He.DefD := ⟨("law", none), "law", "law", defArgs s_law, defBody s_law, defScope s_law, [], []⟩
def hfn : List He.DefD := [d_refuse_unlike, d_ones, d_both, d_overlap, d_lean, d_overlap_ends, d_lean_ends, d__law_box, d__law_take, d__law_folded, d__law_same, d__law_all, d__law_short_right, d__law_long_right, d_law]
def hfa : List He.Fa := [.glo "refuse_unlike", .glo "ones", .glo "both", .glo "overlap", .glo "lean", .glo "overlap_ends", .glo "lean_ends", .glo "_law_box", .glo "_law_take", .glo "_law_folded", .glo "_law_same", .glo "_law_all", .glo "_law_short_right", .glo "_law_long_right", .glo "law", .free "ValueError", .free "abs", .free "all", .free "bool", .free "divmod", .free "enumerate", .free "int", .free "isinstance", .free "len", .free "list", .free "max", .free "min", .free "range", .free "str", .free "sum", .free "tuple", .free "zip"]
def htf : List He.Defn := [("both", none)]
def hex : PySem.W.Frag → Bool := fun _ => true
abbrev R : PySem.W.OpenRow := PySem.W.OpenLaw.row PySem.Challenge.rw_shareones_k07_least_and_greatest_leans
abbrev hk : PySem.W.Hook := He.hookX 4 hfa hfn [] htf hex
def ob (s : PySem.W.SharedT) : He.AlX := He.obsX 4 hfa hfn [] htf hex (HandSHeadRun.getT s)
theorem ob_eq (s : PySem.W.SharedT) : ob s = hk.obs s.abs := He.obsX_eq (HandSHeadRun.getT_eq s)
def loose : List Str := ["refuse_unlike", "ones", "both", "overlap", "lean", "overlap_ends", "lean_ends", "_law_box", "_law_take", "_law_folded", "_law_same", "_law_all", "_law_short_right", "_law_long_right", "OnesError", "Unlike"]
theorem run (w : World) : HandSHeadRun.RunEq R (PySem.W.view R.prog [20]) hk ob 6000 loose w := by
  intro os
  kernel_rfl
theorem codeAt {K : PySem.W.Frag} {p : He.Defn} : CodeAt K (He.fAd K p) (He.cT K p).1 := fun oc od fd osl lk b e => (He.codeOf_eq lk e).symm
theorem facts {l : PySem.W.OpenLaw} {w : World} {K : PySem.W.Frag} {h : Heap} {mg : Str → Option Value} {f : Addr} (X : K.In h) (G : h.Ns mainGlobals mg) (hfa_ : mg ("law" : Str) = some (.ref f)) (cc : He.SaysX hfa hfn [] htf hex w h K) :
    LamX.LawAtS l w K CX0 6 63 "_law_script" mg f h := by
  have c : He.SaysD hfa hfn K := congrArg (fun z : He.AlT => z.1) cc.t
  obtain ⟨fd_refuse_unlike, F_refuse_unlike⟩ := c.def_ 0 (d := d_refuse_unlike) rfl
  obtain ⟨fd_ones, F_ones⟩ := c.def_ 1 (d := d_ones) rfl
  obtain ⟨fd_both, F_both⟩ := c.def_ 2 (d := d_both) rfl
  obtain ⟨fd_overlap, F_overlap⟩ := c.def_ 3 (d := d_overlap) rfl
  obtain ⟨fd_lean, F_lean⟩ := c.def_ 4 (d := d_lean) rfl
  obtain ⟨fd_overlap_ends, F_overlap_ends⟩ := c.def_ 5 (d := d_overlap_ends) rfl
  obtain ⟨fd_lean_ends, F_lean_ends⟩ := c.def_ 6 (d := d_lean_ends) rfl
  obtain ⟨fd__law_box, F__law_box⟩ := c.def_ 7 (d := d__law_box) rfl
  obtain ⟨fd__law_take, F__law_take⟩ := c.def_ 8 (d := d__law_take) rfl
  obtain ⟨fd__law_folded, F__law_folded⟩ := c.def_ 9 (d := d__law_folded) rfl
  obtain ⟨fd__law_same, F__law_same⟩ := c.def_ 10 (d := d__law_same) rfl
  obtain ⟨fd__law_all, F__law_all⟩ := c.def_ 11 (d := d__law_all) rfl
  obtain ⟨fd__law_short_right, F__law_short_right⟩ := c.def_ 12 (d := d__law_short_right) rfl
  obtain ⟨fd__law_long_right, F__law_long_right⟩ := c.def_ 13 (d := d__law_long_right) rfl
  obtain ⟨fd_law, F_law⟩ := c.def_ 14 (d := d_law) rfl
  have e := hfa_.symm.trans (He.glo_ok X G (c.fact 14 (f := .glo "law") rfl))
  cases e
  have b := FunD.bindsA (ps := ["_law_script"]) F_law fun _ _ _ _ _ _ us hl => match us, hl with | [_], _ => rfl
  let T : Defs K mg := ⟨_, fd_refuse_unlike, F_refuse_unlike, (He.glo_ok X G (c.fact 0 (f := .glo "refuse_unlike") rfl)), (FunD.bindsN F_refuse_unlike fun _ _ _ _ _ _ us hl => match us, hl with | [_], _ => rfl), _, fd_ones, F_ones, (He.glo_ok X G (c.fact 1 (f := .glo "ones") rfl)), (FunD.bindsN F_ones fun _ _ _ _ _ _ us hl => match us, hl with | [_], _ => rfl), _, fd_both, F_both, (He.glo_ok X G (c.fact 2 (f := .glo "both") rfl)), (FunD.bindsN F_both fun _ _ _ _ _ _ us hl => match us, hl with | [_, _], _ => rfl), _, fd_overlap, F_overlap, (He.glo_ok X G (c.fact 3 (f := .glo "overlap") rfl)), (FunD.bindsN F_overlap fun _ _ _ _ _ _ us hl => match us, hl with | [_, _], _ => rfl), _, fd_lean, F_lean, (He.glo_ok X G (c.fact 4 (f := .glo "lean") rfl)), (FunD.bindsN F_lean fun _ _ _ _ _ _ us hl => match us, hl with | [_, _], _ => rfl), _, fd_overlap_ends, F_overlap_ends, (He.glo_ok X G (c.fact 5 (f := .glo "overlap_ends") rfl)), (FunD.bindsN F_overlap_ends fun _ _ _ _ _ _ us hl => match us, hl with | [_, _, _], _ => rfl), _, fd_lean_ends, F_lean_ends, (He.glo_ok X G (c.fact 6 (f := .glo "lean_ends") rfl)), (FunD.bindsN F_lean_ends fun _ _ _ _ _ _ us hl => match us, hl with | [_, _, _], _ => rfl), _, fd__law_box, F__law_box, (He.glo_ok X G (c.fact 7 (f := .glo "_law_box") rfl)), (FunD.bindsN F__law_box fun _ _ _ _ _ _ us hl => match us, hl with | [_, _], _ => rfl), _, fd__law_take, F__law_take, (He.glo_ok X G (c.fact 8 (f := .glo "_law_take") rfl)), (FunD.bindsN F__law_take fun _ _ _ _ _ _ us hl => match us, hl with | [_, _], _ => rfl), _, fd__law_folded, F__law_folded, (He.glo_ok X G (c.fact 9 (f := .glo "_law_folded") rfl)), (FunD.bindsN F__law_folded fun _ _ _ _ _ _ us hl => match us, hl with | [_, _], _ => rfl), _, fd__law_same, F__law_same, (He.glo_ok X G (c.fact 10 (f := .glo "_law_same") rfl)), (FunD.bindsN F__law_same fun _ _ _ _ _ _ us hl => match us, hl with | [_, _], _ => rfl), _, fd__law_all, F__law_all, (He.glo_ok X G (c.fact 11 (f := .glo "_law_all") rfl)), (FunD.bindsN F__law_all fun _ _ _ _ _ _ us hl => match us, hl with | [_, _], _ => rfl), _, fd__law_short_right, F__law_short_right, (He.glo_ok X G (c.fact 12 (f := .glo "_law_short_right") rfl)), (FunD.bindsN F__law_short_right fun _ _ _ _ _ _ us hl => match us, hl with | [_], _ => rfl), _, fd__law_long_right, F__law_long_right, (He.glo_ok X G (c.fact 13 (f := .glo "_law_long_right") rfl)), (FunD.bindsN F__law_long_right fun _ _ _ _ _ _ us hl => match us, hl with | [_], _ => rfl), _, fd_law, F_law, (He.glo_ok X G (c.fact 14 (f := .glo "law") rfl)), (FunD.bindsN F_law fun _ _ _ _ _ _ us hl => match us, hl with | [_], _ => rfl), (He.cT K ("both", none)).1, (He.cT K ("both", none)).2, codeAt, (He.free_ok X G (c.fact 15 (f := .free "ValueError") rfl)), (He.free_ok X G (c.fact 16 (f := .free "abs") rfl)), (He.free_ok X G (c.fact 17 (f := .free "all") rfl)), (He.free_ok X G (c.fact 18 (f := .free "bool") rfl)), (He.free_ok X G (c.fact 19 (f := .free "divmod") rfl)), (He.free_ok X G (c.fact 20 (f := .free "enumerate") rfl)), (He.free_ok X G (c.fact 21 (f := .free "int") rfl)), (He.free_ok X G (c.fact 22 (f := .free "isinstance") rfl)), (He.free_ok X G (c.fact 23 (f := .free "len") rfl)), (He.free_ok X G (c.fact 24 (f := .free "list") rfl)), (He.free_ok X G (c.fact 25 (f := .free "max") rfl)), (He.free_ok X G (c.fact 26 (f := .free "min") rfl)), (He.free_ok X G (c.fact 27 (f := .free "range") rfl)), (He.free_ok X G (c.fact 28 (f := .free "str") rfl)), (He.free_ok X G (c.fact 29 (f := .free "sum") rfl)), (He.free_ok X G (c.fact 30 (f := .free "tuple") rfl)), (He.free_ok X G (c.fact 31 (f := .free "zip") rfl))⟩
  refine ⟨fd_law, htf.map (He.cT K), sp_law T, fun p hp => ?_, fun p hp => ?_, fun p hp => ?_, fun s v => b s [v] rfl, fun H a ns hl _ hH hS => ⟨a, ns, rfl, hS, hl, ?_, fun _ => rfl⟩, fun base _ _ TB => ok_law T ?_⟩
  · obtain ⟨q, hq, rfl⟩ := List.mem_map.mp hp
    exact cc.empty q hq
  · obtain ⟨q, hq, rfl⟩ := List.mem_map.mp hp
    exact cc.out q hq
  · obtain ⟨q, hq, rfl⟩ := List.mem_map.mp hp
    exact PySem.W.codeHd_of_K X (cc.hd q hq)
  · exact ⟨⟨#[], hH _ (List.mem_map.mpr ⟨_, List.mem_cons_self, rfl⟩), trip0⟩, trivial⟩
  · exact ⟨⟨(TB _ (List.mem_map.mpr ⟨_, List.mem_cons_self, rfl⟩)).code, (TB _ (List.mem_map.mpr ⟨_, List.mem_cons_self, rfl⟩)).bm, (TB _ (List.mem_map.mpr ⟨_, List.mem_cons_self, rfl⟩)).gP⟩⟩
end Fq
open PySem PySem.W PySem.Calls PyProof.Rows
set_option maxHeartbeats 0 in
theorem PySem.Challenge.cw_shareones_k07_least_and_greatest_leans_holds : PySem.Challenge.rw_shareones_k07_least_and_greatest_leans.Holds := by
  w_on; o_law
  refine HandSHeadRun.head_any (r := OpenLaw.row PySem.Challenge.rw_shareones_k07_least_and_greatest_leans) (q := view (OpenLaw.row PySem.Challenge.rw_shareones_k07_least_and_greatest_leans).prog [20]) (H := Fq.hk) (ob := Fq.ob) (M := 6000) (loose := Fq.loose) (d := HandSHeadRun.topDef (OpenLaw.row PySem.Challenge.rw_shareones_k07_least_and_greatest_leans).prog 20) (kwd := []) Fq.ob_eq
    (by kernel_rfl) (fun s => by kernel_rfl) Fq.run (by kernel_rfl) (by kernel_rfl) (by kernel_rfl) (by rfl) (by first | assumption | decide +kernel) (by decide +kernel) ⟨rfl, rfl, rfl, rfl, rfl, by decide +kernel⟩ ?hw ?hc
  case hw => w_witness2
  case hc =>
    refine LamX.walk_ofTsE (l := PySem.Challenge.rw_shareones_k07_least_and_greatest_leans) (n := 63) (k := 6) (x := "_law_script") (CX := fun _ => L2.CX0) rfl (by decide) (by kernel_rfl) ⟨rfl, by decide, by decide⟩ ?F (fun _ _ _ _ _ z => z)
    intro w mg fa h Y G hmg0
    obtain ⟨K, KX, c⟩ := Y
    have hmg : mg ("law" : PySem.Str) = some (.ref fa) := by
      have e : (HandSHeadRun.topDef (OpenLaw.row PySem.Challenge.rw_shareones_k07_least_and_greatest_leans).prog 20).name = ("law" : PySem.Str) := by kernel_rfl
      rw [← e]
      exact hmg0
    exact ⟨K, KX, Fq.facts KX G hmg c⟩
