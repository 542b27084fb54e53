import PyProof.Rows.All
import Wide.All
import OpenK.AllK
import Wide.FinOn
import KE.KStateDown
import Lean
import HandS.ForMost
import HandS.Wide
import HandS.WideBits
import HandS.IsInst
import HandS.Walk
import HandS.Evl
import HandS.Style
import HandS.NoneIn
import HandS.Defaults
import HandS.Head0
import HandS.Head1
import HandS.Head2
import HandS.HeadEnd
import HandS.HeadHook1
import HandS.HeadHook2
import HandS.AnyAll
import HandS.TupAny
import HandS.TupMul
import HandS.Zip
import HandS.HeadHook3
import HandS.HeadHook4
import HandS.HeadWalk
import HandS.EndTab
import PyProof.TupleOfGen
import KE.KNest
import KE.KDictWalk
import HandS.Set
import HandS.Strs
import KE.GoesSet
import KE.GoesMore
import KE.GoesZip
import KE.GoesEnum
import PyProof.GenCompT
import PySem.Challenge.RW_shareones_k30_beats_enough
set_option Elab.async false
set_option linter.all false
set_option maxRecDepth 100000
set_option maxHeartbeats 4000000
namespace Fq
open PySem PySem.Spec PyProof.Rows L2
section
variable {P : Program} {w : World} {K : PySem.W.Frag} {mg : Str → Option Value} {base : Heap}
def topS (i : Nat) : Stmt := PySem.Challenge.pw_shareones_k30_beats_enough.main.body.getD i (.Pass ⟨0, 0, 0, 0⟩)
abbrev FnP (K : PySem.W.Frag) (x : Str) (st : Stmt) (f : Addr) (fd : FuncData) : Prop := FunD K x x (defArgs st) (defBody st) (defScope st) [] [] f fd
abbrev s_ones : Stmt := topS 1
abbrev N_ones : List Str := ["row"]
theorem sc_ones : FnScope N_ones ["row"] (defScope s_ones) := ⟨rfl, rfl, rfl, by decide +kernel, rfl, by decide +kernel, by decide +kernel⟩
abbrev s_offs_by : Stmt := topS 3
abbrev N_offs_by : List Str := ["row", "many", "length", "offs", "bit"]
theorem sc_offs_by : FnScope N_offs_by ["row", "many", "length"] (defScope s_offs_by) := ⟨rfl, rfl, rfl, by decide +kernel, rfl, by decide +kernel, by decide +kernel⟩
abbrev s_offs_of : Stmt := topS 4
abbrev N_offs_of : List Str := ["row"]
theorem sc_offs_of : FnScope N_offs_of ["row"] (defScope s_offs_of) := ⟨rfl, rfl, rfl, by decide +kernel, rfl, by decide +kernel, by decide +kernel⟩
abbrev s_last_beyond : Stmt := topS 5
abbrev N_last_beyond : List Str := ["off", "n", "length", "e", "top", "bottom", "last"]
theorem sc_last_beyond : FnScope N_last_beyond ["off", "n", "length", "e"] (defScope s_last_beyond) := ⟨rfl, rfl, rfl, by decide +kernel, rfl, by decide +kernel, by decide +kernel⟩
abbrev s_beats_for : Stmt := topS 6
abbrev N_beats_for : List Str := ["row", "e", "sizes", "off", "n"]
theorem sc_beats_for : FnScope N_beats_for ["row", "e"] (defScope s_beats_for) := ⟨rfl, rfl, rfl, by decide +kernel, rfl, by decide +kernel, by decide +kernel⟩
abbrev s__law_box : Stmt := topS 8
abbrev N__law_box : List Str := ["_law_script", "_law_k", "_law_cell"]
theorem sc__law_box : FnScope N__law_box ["_law_script", "_law_k"] (defScope s__law_box) := ⟨rfl, rfl, rfl, by decide +kernel, rfl, by decide +kernel, by decide +kernel⟩
abbrev s__law_take : Stmt := topS 9
abbrev N__law_take : List Str := ["_law_box_here", "_law_many", "_law_found", "_law_once"]
theorem sc__law_take : FnScope N__law_take ["_law_box_here", "_law_many"] (defScope s__law_take) := ⟨rfl, rfl, rfl, by decide +kernel, rfl, by decide +kernel, by decide +kernel⟩
abbrev s__law_folded : Stmt := topS 10
abbrev N__law_folded : List Str := ["_law_script", "_law_many", "_law_cells", "_law_k", "_law_cell"]
theorem sc__law_folded : FnScope N__law_folded ["_law_script", "_law_many"] (defScope s__law_folded) := ⟨rfl, rfl, rfl, by decide +kernel, rfl, by decide +kernel, by decide +kernel⟩
abbrev s__law_lowest : Stmt := topS 11
abbrev N__law_lowest : List Str := ["_law_top", "_law_bottom", "_law_one", "_law_other"]
theorem sc__law_lowest : FnScope N__law_lowest ["_law_top", "_law_bottom"] (defScope s__law_lowest) := ⟨rfl, rfl, rfl, by decide +kernel, rfl, by decide +kernel, by decide +kernel⟩
abbrev s__law_row : Stmt := topS 12
abbrev N__law_row : List Str := ["_law_box_here", "_law_many", "_law_way", "_law_count", "_law_step", "_law_first", "_law_k"]
theorem sc__law_row : FnScope N__law_row ["_law_box_here", "_law_many"] (defScope s__law_row) := ⟨rfl, rfl, rfl, by decide +kernel, rfl, by decide +kernel, by decide +kernel⟩
abbrev s__law_share : Stmt := topS 13
abbrev N__law_share : List Str := ["_law_box_here", "_law_row_here", "_law_way", "_law_place", "_law_off", "_law_top", "_law_bottom"]
theorem sc__law_share : FnScope N__law_share ["_law_box_here", "_law_row_here"] (defScope s__law_share) := ⟨rfl, rfl, rfl, by decide +kernel, rfl, by decide +kernel, by decide +kernel⟩
abbrev s__law_due : Stmt := topS 14
abbrev N__law_due : List Str := ["_law_row_here", "_law_e", "_law_many", "_law_long", "_law_count", "_law_last", "_law_n"]
theorem sc__law_due : FnScope N__law_due ["_law_row_here", "_law_e"] (defScope s__law_due) := ⟨rfl, rfl, rfl, by decide +kernel, rfl, by decide +kernel, by decide +kernel⟩
abbrev s__law_by_places : Stmt := topS 15
abbrev N__law_by_places : List Str := ["_law_row_here", "_law_e", "_law_many", "_law_long", "_law_count", "_law_last", "_law_place", "_law_bit", "_law_off", "_law_most"]
theorem sc__law_by_places : FnScope N__law_by_places ["_law_row_here", "_law_e"] (defScope s__law_by_places) := ⟨rfl, rfl, rfl, by decide +kernel, rfl, by decide +kernel, by decide +kernel⟩
abbrev s_law : Stmt := topS 16
abbrev N_law : List Str := ["_law_script", "_law_cells", "_law_k", "_law_box_here", "_law_turn", "_law_row_here", "_law_e", "_law_due_here", "_law_turn_more", "_law_found"]
theorem sc_law : FnScope N_law ["_law_script"] (defScope s_law) := ⟨rfl, rfl, rfl, by decide +kernel, rfl, by decide +kernel, by decide +kernel⟩
structure Defs (K : PySem.W.Frag) (mg : Str → Option Value) where
  f_ones : Addr
  fd_ones : FuncData
  F_ones : FnP K "ones" s_ones f_ones fd_ones
  g_ones : mg "ones" = some (.ref f_ones)
  b_ones : Binds K fd_ones ["row"] []
  f_offs_by : Addr
  fd_offs_by : FuncData
  F_offs_by : FnP K "offs_by" s_offs_by f_offs_by fd_offs_by
  g_offs_by : mg "offs_by" = some (.ref f_offs_by)
  b_offs_by : Binds K fd_offs_by ["row", "many", "length"] []
  f_offs_of : Addr
  fd_offs_of : FuncData
  F_offs_of : FnP K "offs_of" s_offs_of f_offs_of fd_offs_of
  g_offs_of : mg "offs_of" = some (.ref f_offs_of)
  b_offs_of : Binds K fd_offs_of ["row"] []
  f_last_beyond : Addr
  fd_last_beyond : FuncData
  F_last_beyond : FnP K "last_beyond" s_last_beyond f_last_beyond fd_last_beyond
  g_last_beyond : mg "last_beyond" = some (.ref f_last_beyond)
  b_last_beyond : Binds K fd_last_beyond ["off", "n", "length", "e"] []
  f_beats_for : Addr
  fd_beats_for : FuncData
  F_beats_for : FnP K "beats_for" s_beats_for f_beats_for fd_beats_for
  g_beats_for : mg "beats_for" = some (.ref f_beats_for)
  b_beats_for : Binds K fd_beats_for ["row", "e"] []
  f__law_box : Addr
  fd__law_box : FuncData
  F__law_box : FnP K "_law_box" s__law_box f__law_box fd__law_box
  g__law_box : mg "_law_box" = some (.ref f__law_box)
  b__law_box : Binds K fd__law_box ["_law_script", "_law_k"] []
  f__law_take : Addr
  fd__law_take : FuncData
  F__law_take : FnP K "_law_take" s__law_take f__law_take fd__law_take
  g__law_take : mg "_law_take" = some (.ref f__law_take)
  b__law_take : Binds K fd__law_take ["_law_box_here", "_law_many"] []
  f__law_folded : Addr
  fd__law_folded : FuncData
  F__law_folded : FnP K "_law_folded" s__law_folded f__law_folded fd__law_folded
  g__law_folded : mg "_law_folded" = some (.ref f__law_folded)
  b__law_folded : Binds K fd__law_folded ["_law_script", "_law_many"] []
  f__law_lowest : Addr
  fd__law_lowest : FuncData
  F__law_lowest : FnP K "_law_lowest" s__law_lowest f__law_lowest fd__law_lowest
  g__law_lowest : mg "_law_lowest" = some (.ref f__law_lowest)
  b__law_lowest : Binds K fd__law_lowest ["_law_top", "_law_bottom"] []
  f__law_row : Addr
  fd__law_row : FuncData
  F__law_row : FnP K "_law_row" s__law_row f__law_row fd__law_row
  g__law_row : mg "_law_row" = some (.ref f__law_row)
  b__law_row : Binds K fd__law_row ["_law_box_here", "_law_many"] []
  f__law_share : Addr
  fd__law_share : FuncData
  F__law_share : FnP K "_law_share" s__law_share f__law_share fd__law_share
  g__law_share : mg "_law_share" = some (.ref f__law_share)
  b__law_share : Binds K fd__law_share ["_law_box_here", "_law_row_here"] []
  f__law_due : Addr
  fd__law_due : FuncData
  F__law_due : FnP K "_law_due" s__law_due f__law_due fd__law_due
  g__law_due : mg "_law_due" = some (.ref f__law_due)
  b__law_due : Binds K fd__law_due ["_law_row_here", "_law_e"] []
  f__law_by_places : Addr
  fd__law_by_places : FuncData
  F__law_by_places : FnP K "_law_by_places" s__law_by_places f__law_by_places fd__law_by_places
  g__law_by_places : mg "_law_by_places" = some (.ref f__law_by_places)
  b__law_by_places : Binds K fd__law_by_places ["_law_row_here", "_law_e"] []
  f_law : Addr
  fd_law : FuncData
  F_law : FnP K "law" s_law f_law fd_law
  g_law : mg "law" = some (.ref f_law)
  b_law : Binds K fd_law ["_law_script"] []
  m_abs : mg "abs" = none
  m_bool : mg "bool" = none
  m_divmod : mg "divmod" = none
  m_enumerate : mg "enumerate" = none
  m_int : mg "int" = none
  m_isinstance : mg "isinstance" = none
  m_len : mg "len" = none
  m_list : mg "list" = none
  m_max : mg "max" = none
  m_range : mg "range" = none
  m_sum : mg "sum" = none
  m_tuple : mg "tuple" = none
theorem bt_abs : bootBuiltins "abs" = some (.builtin "abs") := by decide +kernel
theorem bt_bool : bootBuiltins "bool" = some (.type "bool") := by decide +kernel
theorem bt_divmod : bootBuiltins "divmod" = some (.builtin "divmod") := by decide +kernel
theorem bt_enumerate : bootBuiltins "enumerate" = some (.type "enumerate") := by decide +kernel
theorem bt_int : bootBuiltins "int" = some (.type "int") := by decide +kernel
theorem bt_isinstance : bootBuiltins "isinstance" = some (.builtin "isinstance") := by decide +kernel
theorem bt_len : bootBuiltins "len" = some (.builtin "len") := by decide +kernel
theorem bt_list : bootBuiltins "list" = some (.type "list") := by decide +kernel
theorem bt_max : bootBuiltins "max" = some (.builtin "max") := by decide +kernel
theorem bt_range : bootBuiltins "range" = some (.type "range") := by decide +kernel
theorem bt_sum : bootBuiltins "sum" = some (.builtin "sum") := by decide +kernel
theorem bt_tuple : bootBuiltins "tuple" = some (.type "tuple") := by decide +kernel
def frT (t b : Int) : Int := (b.sign * t) / (Int.gcd t b : Int)
def frB (t b : Int) : Int := (b.natAbs : Int) / (Int.gcd t b : Int)
theorem fr_ex (t : Int) {b : Int} (hb : b ≠ 0) : ∃ (g : Nat) (x y : Int), 0 < g ∧ Int.gcd t b = g ∧ t = (g : Int) * x ∧ b = (g : Int) * y ∧ y ≠ 0 ∧ Int.gcd x y = 1 := by
  have hg : 0 < Int.gcd t b := Int.gcd_pos_of_ne_zero_right t hb
  obtain ⟨x, hx⟩ := Int.gcd_dvd_left t b
  obtain ⟨y, hy⟩ := Int.gcd_dvd_right t b
  refine ⟨Int.gcd t b, x, y, hg, rfl, hx, hy, fun e => hb (by rw [hy, e, Int.mul_zero]), ?_⟩
  generalize eg : Int.gcd t b = g at hg hx hy
  have e : g = g * Int.gcd x y := by
    rw [← eg]
    conv => lhs; rw [hx, hy, Int.gcd_mul_left]
    rw [Int.natAbs_natCast, eg]
  exact Nat.eq_of_mul_eq_mul_left hg (by rw [← e, Nat.mul_one])
theorem sgn {b : Int} {g : Nat} {y : Int} (hg : 0 < g) (hb : b = (g : Int) * y) : b.sign = y.sign := by
  rw [hb, Int.sign_mul, Int.sign_eq_one_of_pos (by omega), Int.one_mul]
theorem fr_vals {t b : Int} {g : Nat} {x y : Int} (hg : 0 < g) (eg : Int.gcd t b = g) (ht : t = (g : Int) * x) (hb : b = (g : Int) * y) : frT t b = y.sign * x ∧ frB t b = (y.natAbs : Int) := by
  have g0 : (g : Int) ≠ 0 := by omega
  constructor
  · unfold frT
    rw [eg, sgn hg hb, ht, show y.sign * ((g : Int) * x) = (g : Int) * (y.sign * x) by rw [Int.mul_left_comm]]
    exact Int.mul_ediv_cancel_left _ g0
  · unfold frB
    rw [eg, hb, Int.natAbs_mul, Int.natAbs_natCast, Int.natCast_mul]
    exact Int.mul_ediv_cancel_left _ g0
theorem sgn_abs {y : Int} (hy : y ≠ 0) : y.sign.natAbs = 1 := Int.natAbs_sign_of_ne_zero hy
theorem fr_pos (t : Int) {b : Int} (hb : b ≠ 0) : 0 < frB t b := by
  obtain ⟨g, x, y, hg, eg, ht, hy, hy0, h1⟩ := fr_ex t hb
  rw [(fr_vals hg eg ht hy).2]
  omega
theorem fr_gcd (t : Int) {b : Int} (hb : b ≠ 0) : Int.gcd (frT t b) (frB t b) = 1 := by
  obtain ⟨g, x, y, hg, eg, ht, hy, hy0, h1⟩ := fr_ex t hb
  rw [(fr_vals hg eg ht hy).1, (fr_vals hg eg ht hy).2]
  show Nat.gcd (y.sign * x).natAbs ((y.natAbs : Int)).natAbs = 1
  rw [Int.natAbs_mul, sgn_abs hy0, Nat.one_mul, Int.natAbs_natCast]
  exact h1
theorem fr_eq (t : Int) {b : Int} (hb : b ≠ 0) : frT t b * b = t * frB t b := by
  obtain ⟨g, x, y, hg, eg, ht, hy, hy0, h1⟩ := fr_ex t hb
  rw [(fr_vals hg eg ht hy).1, (fr_vals hg eg ht hy).2]
  rw [ht, hy]
  have e : y * y.sign = (y.natAbs : Int) := Int.mul_sign_self y
  rw [← e]
  simp only [Int.mul_comm, Int.mul_left_comm, Int.mul_assoc]
theorem fr_absT (t : Int) {b : Int} (hb : b ≠ 0) : (frT t b).natAbs ≤ t.natAbs := by
  obtain ⟨g, x, y, hg, eg, ht, hy, hy0, h1⟩ := fr_ex t hb
  rw [(fr_vals hg eg ht hy).1, ht, Int.natAbs_mul, sgn_abs hy0, Nat.one_mul, Int.natAbs_mul, Int.natAbs_natCast]
  exact Nat.le_mul_of_pos_left _ hg
theorem fr_absB (t : Int) {b : Int} (hb : b ≠ 0) : (frB t b).natAbs ≤ b.natAbs := by
  obtain ⟨g, x, y, hg, eg, ht, hy, hy0, h1⟩ := fr_ex t hb
  rw [(fr_vals hg eg ht hy).2, hy, Int.natAbs_mul, Int.natAbs_natCast, Int.natAbs_natCast]
  exact Nat.le_mul_of_pos_left _ hg
theorem fr_negT (t b : Int) : frT (-t) (-b) = frT t b := by
  unfold frT
  rw [Int.sign_neg, Int.neg_mul_neg, Int.gcd_neg, Int.neg_gcd]
theorem fr_negB (t b : Int) : frB (-t) (-b) = frB t b := by
  unfold frB
  rw [Int.natAbs_neg, Int.gcd_neg, Int.neg_gcd]
/-- what the program's two ways reckon -/
theorem fd_pos {g : Nat} {x : Int} (hg : 0 < g) : ((g : Int) * x).fdiv (g : Int) = x := by
  rw [Int.fdiv_eq_ediv_of_nonneg _ (by omega)]
  exact Int.mul_ediv_cancel_left _ (by omega)
theorem fd_neg {g : Nat} {x : Int} (hg : 0 < g) : ((g : Int) * x).fdiv (-(g : Int)) = -x := by
  rw [show (g : Int) * x = -(g : Int) * (-x) by rw [Int.neg_mul_neg]]
  exact Int.mul_fdiv_cancel_left _ (by omega)
theorem fr_lt (t : Int) {b : Int} (hb : b < 0) : t.fdiv (-(Int.gcd t b : Int)) = frT t b ∧ b.fdiv (-(Int.gcd t b : Int)) = frB t b := by
  obtain ⟨g, x, y, hg, eg, ht, hy, hy0, h1⟩ := fr_ex t (show b ≠ 0 by omega)
  rw [(fr_vals hg eg ht hy).1, (fr_vals hg eg ht hy).2, eg]
  have yn : y < 0 := by
    rw [hy] at hb
    exact Int.neg_of_mul_neg_right hb (by omega)
  constructor
  · conv => lhs; rw [ht]
    rw [fd_neg hg, Int.sign_eq_neg_one_of_neg yn]
    omega
  · conv => lhs; rw [hy]
    rw [fd_neg hg]
    omega
theorem fr_ge (t : Int) {b : Int} (hb : 0 < b) : t.fdiv (Int.gcd t b : Int) = frT t b ∧ b.fdiv (Int.gcd t b : Int) = frB t b := by
  obtain ⟨g, x, y, hg, eg, ht, hy, hy0, h1⟩ := fr_ex t (show b ≠ 0 by omega)
  rw [(fr_vals hg eg ht hy).1, (fr_vals hg eg ht hy).2, eg]
  have yn : 0 < y := by
    rw [hy] at hb
    exact Int.pos_of_mul_pos_right hb (by omega)
  constructor
  · conv => lhs; rw [ht]
    rw [fd_pos hg, Int.sign_eq_one_of_pos yn]
    omega
  · conv => lhs; rw [hy]
    rw [fd_pos hg]
    omega
/-! sizes -/
def S (n : Nat) (x : Int) : Prop := x.natAbs < 2 ^ n
theorem S.mono {n m : Nat} {x : Int} (h : S n x) (l : n ≤ m) : S m x := Nat.lt_of_lt_of_le h (Nat.pow_le_pow_right (by decide) l)
theorem S.mul {n m : Nat} {x y : Int} (h : S n x) (k : S m y) : S (n + m) (x * y) := by
  unfold S at *
  rw [Int.natAbs_mul, Nat.pow_add]
  exact Nat.mul_lt_mul'' h k
theorem S.add {n : Nat} {x y : Int} (h : S n x) (k : S n y) : S (n + 1) (x + y) := by
  unfold S at *
  rw [Nat.pow_succ]
  omega
theorem S.sub {n : Nat} {x y : Int} (h : S n x) (k : S n y) : S (n + 1) (x - y) := by
  unfold S at *
  rw [Nat.pow_succ]
  omega
theorem S.frT {n : Nat} {t b : Int} (h : S n t) (hb : b ≠ 0) : S n (frT t b) := Nat.lt_of_le_of_lt (fr_absT t hb) h
theorem S.frB {n : Nat} {t b : Int} (h : S n b) (hb : b ≠ 0) : S n (frB t b) := Nat.lt_of_le_of_lt (fr_absB t hb) h
theorem abs_eq (i : Int) : (if i < 0 then -i else i) = (i.natAbs : Int) := by
  split <;> omega
/-! the same rules with the written part by its name: for the inside of comprehensions -/
theorem pg_tupK {X : Cx} {K : PySem.W.Frag} {es : List Expr} {k n : Nat} {pos : Pos} {t : TGs} (h : X.K = K) (hc : X.calm = true) (hg : PGs X es t) (hn : (assignEach es X.env).length = n := by rfl) (hst : (assignEach es X.env).findIdx? (·.1) = none := by rfl) : PG X (.Tuple es k pos) (gTup K n t) := by
  subst h
  exact pg_tup hc hg hn hst
theorem isiK {X : Cx} {K : PySem.W.Frag} (h : X.K = K) : CallR X (.builtin "isinstance") (rIsi K) := by
  subst h
  exact call_isi
theorem ixlK {X : Cx} {K : PySem.W.Frag} (h : X.K = K) : IxR X (rIxL K) := by
  subst h
  exact ix_list
theorem ixtK {X : Cx} {K : PySem.W.Frag} (h : X.K = K) : IxR X (rIxT K) := by
  subst h
  exact ix_tup
theorem lenK {X : Cx} {K : PySem.W.Frag} (h : X.K = K) : CallR X (.builtin "len") (fun xs H Q => ∃ p ys, xs = [.ref p] ∧ (SqL K H p ys ∨ SqT K H p ys) ∧ Q (.int ys.length) H) := by
  subst h
  exact call_len_seq
theorem sumK {X : Cx} {K : PySem.W.Frag} (h : X.K = K) (hc : X.calm = true) : CallR X (.builtin "sum") (rSum K) := by
  subst h
  exact cr_sum hc
theorem yes_ite {σ : L2.St} {H : Hp} {A B : Hp → Prop} (h : A H) : tYes σ H (fun b H3 => if b = true then A H3 else B H3) := by
  show if true = true then A H else B H
  rw [if_pos rfl]
  exact h
/-! heaps -/
theorem same_upd {H : Hp} {p : Addr} {o : HO} (h : H p = none) : Same H (upd H p o) := fun b x e => by
  rw [upd_ne (ne_of_none e h)]
  exact e
def But (p : Addr) (H H' : Hp) : Prop := ∀ b o, b ≠ p → H b = some o → H' b = some o
theorem But.trans {p : Addr} {H H1 H2 : Hp} (a : But p H H1) (b : But p H1 H2) : But p H H2 := fun c o n e => b c o n (a c o n e)
theorem But.refl (p : Addr) (H : Hp) : But p H H := fun _ _ _ e => e
theorem But.put {p : Addr} {H H' : Hp} {o : HO} (a : But p H H') : But p H (L2.upd H' p o) := fun c x n e => by
  rw [upd_ne n]
  exact a c x n e
theorem same_but {p : Addr} {H H' : Hp} (a : Same H H') : But p H H' := fun c x _ e => a c x e
theorem But.new {p q : Addr} {H H' : Hp} {o : HO} (a : But p H H') (n : H' q = none) : But p H (upd H' q o) := fun c x hn e => by
  have e2 := a c x hn e
  rw [upd_ne (ne_of_none e2 n)]
  exact e2
/-- objects made since H may change: what H has stays -/
theorem same_newer {H H' : Hp} {q : Addr} {o : HO} (a : Same H H') (n : H q = none) : Same H (upd H' q o) := fun c x e => by
  rw [upd_ne (ne_of_none e n)]
  exact a c x e
theorem But.same {p : Addr} {H H1 H2 : Hp} (n : H p = none) (a : Same H H1) (b : But p H1 H2) : Same H H2 := fun c x e =>
  b c x (ne_of_none e n) (a c x e)
/-- the box: a rest, a begin, how often -/
def Bx (H : Hp) (p : Addr) (n : Nat) : Prop := ∃ a b c : Int, H p = some (.lst [.int a, .int b, .int c]) ∧ 0 ≤ a ∧ 0 ≤ b ∧ b < 2147483647 ∧ 0 ≤ c ∧ c ≤ n
theorem Bx.same {H H' : Hp} {p : Addr} {n : Nat} (h : Bx H p n) (s : Same H H') : Bx H' p n := by
  obtain ⟨a, b, c, hp, r⟩ := h
  exact ⟨a, b, c, s _ _ hp, r⟩
theorem Bx.mono {H : Hp} {p : Addr} {n m : Nat} (h : Bx H p n) (l : n ≤ m) : Bx H p m := by
  obtain ⟨a, b, c, hp, h1, h2, h3, h4, h5⟩ := h
  exact ⟨a, b, c, hp, h1, h2, h3, h4, by omega⟩
theorem Bx.new {H : Hp} {p q : Addr} {n : Nat} {o : HO} (h : Bx H p n) (nq : H q = none) : Bx (L2.upd H q o) p n := h.same (same_upd nq)
theorem Bx.ne_tup {H : Hp} {p q : Addr} {n : Nat} {xs : List V} (h : Bx H p n) (e : H q = some (.tup xs)) : q ≠ p := by
  obtain ⟨a, b, c, hp, _⟩ := h
  exact ne_of e hp (fun z => by cases z)
/-- an item of a menu of numbers -/
theorem at_menu {Pr : Int → Prop} {xs : List Int} {r : Int} (h0 : 0 ≤ r) (h1 : r < xs.length) (hx : ∀ x, x ∈ xs → Pr x) : ∃ v, atI (xs.map V.int) r = some (V.int v) ∧ Pr v := by
  obtain ⟨j, rfl⟩ := Int.eq_ofNat_of_zero_le h0
  have hj : j < xs.length := by omega
  refine ⟨xs[j], atI_nat (by rw [List.getElem?_map, List.getElem?_eq_getElem hj]; rfl), hx _ (List.getElem_mem hj)⟩
theorem SqL.mk {K : PySem.W.Frag} {H : Hp} {a : Addr} {xs : List V} (h : H a = some (.lst xs)) : SqL K H a xs := .inl (.inl h)
theorem SqT.mk {K : PySem.W.Frag} {H : Hp} {a : Addr} {xs : List V} (h : H a = some (.tup xs)) : SqT K H a xs := .inl (.inl h)
theorem same_tup {K : PySem.W.Frag} {H H' : Hp} {a : Addr} {xs : List V} (e : Same H H') (h : SqT K H a xs) : SqT K H' a xs := by
  rcases h with (h | ⟨o, h⟩) | h
  · exact .inl (.inl (e _ _ h))
  · exact .inl (.inr ⟨o, e _ _ h⟩)
  · exact .inr h
theorem ixn {n j : Nat} (hj : j < n) : ixN n (j : Int) = some j := by
  unfold ixN
  rw [if_pos (by omega), if_pos (by omega)]
  simp
theorem cdivP {a m : Int} (h0 : 0 < m) (h1 : m < 2 ^ 60) : CDivP a m := ⟨h0, PyProof.noPylong_of_log2 (wide_div (i := a) (b := 60) h0 (by omega) (by decide) (by decide)).2⟩
theorem i01 {c : Prop} [Decidable c] : -(2 ^ 64) < (if c then (1 : Int) else 0) ∧ (if c then (1 : Int) else 0) < 2 ^ 64 := by
  split <;> decide
theorem i01n {c : Prop} [Decidable c] : 0 ≤ (if c then (1 : Int) else 0) := by
  split <;> decide
theorem absn (i : Int) : 0 ≤ (if i < 0 then -i else i) := by
  split <;> omega
/-! the box of a cell -/
def sp__law_box (K : PySem.W.Frag) : Sp := fun vs H Q _ => ∃ (a : Addr) (ns : List Int) (k : Nat), vs = [.ref a, .int (k : Nat)] ∧ SqL K H a (ns.map V.int) ∧ k < 1000 ∧
  ∀ H' p, Same H H' → H p = none → Bx H' p 0 → Q (.ref p) H'
theorem ok__law_box (T : Defs K mg) : FnOk P w K mg base CX0 1 T.f__law_box T.fd__law_box ["_law_script", "_law_k"] (sp__law_box K) := by
  refine T.F__law_box.ok sc__law_box (fun vs H Q E h => ?_) (fun cdv A outer s H vs Q E hr h => ?_)
  · obtain ⟨a, ns, k, rfl, hS, hk, q⟩ := h
    rfl
  · obtain ⟨a, ns, k, rfl, hS, hk, q⟩ := h
    refine ⟨_, PSs.nox (pss_cons (ps_set (i := 2) sc__law_box.nd rfl (.inl rfl) pe_int)
    (pss_cons (ps_if (pt_cmpR op_lt (pv 1) (pe_callB call_len_seq (by rfl) T.m_len bt_len (pa_cons (pv 0) pa_nil)) (nomark _)) (pss_one (ps_set (i := 2) sc__law_box.nd rfl (.inl rfl) (pe_ix ix_list (pv 0) (pv 1) (fun _ _ => rfl)))) pss_nil)
    (pss_one (ps_ret (pe_lst (pa_cons (pe_op op_mul (pe_callB call_abs (by rfl) T.m_abs bt_abs (pa_cons (pv 2) pa_nil)) (pe_callTy call_int1 (by rfl) T.m_int bt_int (pa_cons (pe_cmpR op_ge (pe_callB call_abs (by rfl) T.m_abs bt_abs (pa_cons (pv 2) pa_nil)) (pe_op op_pow pe_int pe_int) (nomark _)) pa_nil))) (pa_cons (pe_op op_mod (pe_op op_add (pv 2) (pe_op op_mul (pe_op op_mul pe_int (pv 1)) (pv 1))) pe_int) (pa_cons pe_int pa_nil)))))))), ?_⟩
    refine ⟨.int k, rfl, .ref a, rfl, a, _, rfl, .inl hS, _, _, rfl, rfl, _, rfl, ite2 (fun e => ?_) (fun e => ?_)⟩
    · have hl : (k : Int) < ((ns.map V.int).length : Nat) := of_decide_eq_true e
      rw [List.length_map] at hl
      have hj : k < ns.length := by omega
      refine ⟨.ref a, rfl, .int k, rfl, a, _, _, .int ns[k], rfl, rfl, hS, atI_nat (by rw [List.getElem?_map, List.getElem?_eq_getElem hj]; rfl), ?_⟩
      refine ⟨_, rfl, _, rfl, _, rfl, _, rfl, _, _, rfl, rfl, ⟨by decide, by decide, by decide⟩, _, _, rfl, rfl, .inr ⟨_, rfl, _, _, rfl, rfl, .inr i01, _, rfl, .int k, rfl, _, _, rfl, rfl, .inl ⟨by decide, by decide⟩, .int k, rfl, _, _, rfl, rfl, .inr ⟨by omega, by omega⟩, _, _, rfl, rfl, _, _, rfl, rfl, (show (0 : Int) < 2147483647 by decide), (show 3 ≤ sizeLine by decide), fun p np => ?_⟩⟩
      refine q _ p (same_upd np) np ⟨_, _, _, upd_same, ?_, Int.emod_nonneg _ (by decide), Int.emod_lt_of_pos _ (by decide), Int.le_refl 0, Int.le_refl 0⟩
      exact Int.mul_nonneg (absn _) i01n
    · refine ⟨_, rfl, _, rfl, _, rfl, _, rfl, _, _, rfl, rfl, ⟨by decide, by decide, by decide⟩, _, _, rfl, rfl, .inr ⟨_, rfl, _, _, rfl, rfl, .inr i01, _, rfl, .int k, rfl, _, _, rfl, rfl, .inl ⟨by decide, by decide⟩, .int k, rfl, _, _, rfl, rfl, .inr ⟨by omega, by omega⟩, _, _, rfl, rfl, _, _, rfl, rfl, (show (0 : Int) < 2147483647 by decide), (show 3 ≤ sizeLine by decide), fun p np => ?_⟩⟩
      refine q _ p (same_upd np) np ⟨_, _, _, upd_same, ?_, Int.emod_nonneg _ (by decide), Int.emod_lt_of_pos _ (by decide), Int.le_refl 0, Int.le_refl 0⟩
      exact Int.mul_nonneg (absn _) i01n
/-! one number taken -/
def sp__law_take (K : PySem.W.Frag) : Sp := fun vs H Q _ => ∃ (p : Addr) (m : Int) (n : Nat), vs = [.ref p, .int m] ∧ Bx H p n ∧ 0 < m ∧ m < 2 ^ 60 ∧ n < 1000000000000 ∧
  ∀ H' r, But p H H' → Bx H' p (n + 1) → 0 ≤ r → r < m → Q (.int r) H'
theorem ok__law_take (T : Defs K mg) : FnOk P w K mg base CX0 1 T.f__law_take T.fd__law_take ["_law_box_here", "_law_many"] (sp__law_take K) := by
  refine T.F__law_take.ok sc__law_take (fun vs H Q E h => ?_) (fun cdv A outer s H vs Q E hr h => ?_)
  · obtain ⟨p, m, n, rfl, ⟨a, b, c, hp, ha, hb, hb2, hc, hc2⟩, h0, h1, hn, q⟩ := h
    rfl
  · obtain ⟨p, m, n, rfl, ⟨a, b, c, hp, ha, hb, hb2, hc, hc2⟩, h0, h1, hn, q⟩ := h
    refine ⟨_, PSs.nox (pss_cons (ps_if (pt_cmpR op_gt (pe_ix ix_list (pv 0) pe_int (fun _ _ => rfl)) pe_int (nomark _)) (pss_cons (ps_asg (pe_callB call_divmodW (by rfl) T.m_divmod bt_divmod (pa_cons (pe_ix ix_list (pv 0) pe_int (fun _ _ => rfl)) (pa_cons (pv 1) pa_nil))) (pg_tup rfl (pgs_cons (pg_sub (pv 0) pe_int set_list) (pgs_cons (pg_name (i := 2) sc__law_take.nd rfl (.inl rfl)) pgs_nil))))
    (pss_one (ps_ret (pv 2)))) pss_nil)
    (pss_cons (ps_asg (pe_op op_add (pe_ix ix_list (pv 0) pe_int (fun _ _ => rfl)) pe_int) (pg_sub (pv 0) pe_int set_list))
    (pss_cons (ps_set (i := 3) sc__law_take.nd rfl (.inl rfl) (pe_op op_mod (pe_op op_pow (pe_op op_add (pe_ix ix_list (pv 0) pe_int (fun _ _ => rfl)) (pe_op op_mul pe_int (pe_ix ix_list (pv 0) pe_int (fun _ _ => rfl)))) pe_int) pe_int))
    (pss_one (ps_ret (pe_op op_mod (pe_op op_fdiv (pe_op op_mod (pe_op op_add (pe_op op_mul (pv 3) pe_int) (pe_op op_mul (pe_op op_mul (pe_ix ix_list (pv 0) pe_int (fun _ _ => rfl)) (pe_ix ix_list (pv 0) pe_int (fun _ _ => rfl))) pe_int)) pe_int) pe_int) (pv 1))))))), ?_⟩
    have SQ : SqL K H p [.int a, .int b, .int c] := SqL.mk hp
    refine ⟨.ref p, rfl, p, _, 0, _, rfl, rfl, SQ, atI_nat (j := 0) rfl, _, _, rfl, rfl, _, rfl, ite2 (fun e => ?_) (fun e => ?_)⟩
    · refine ⟨.ref p, rfl, p, _, 0, _, rfl, rfl, SQ, atI_nat (j := 0) rfl, .int m, rfl, a, m, rfl, cdivP h0 h1, fun t nt => ?_⟩
      have hp1 : (upd H t (.tup [.int (a / m), .int (a % m)])) p = some (.lst [.int a, .int b, .int c]) := by
        rw [upd_ne (ne_of_none hp nt)]
        exact hp
      refine ⟨t, _, rfl, SqT.mk upd_same, rfl, _, _, rfl, .ref p, rfl, p, _, 0, 0, rfl, rfl, hp1, rfl, _, _, rfl, rfl, _, rfl, ?_⟩
      refine q _ _ ((But.refl p H).new nt).put ⟨_, _, _, upd_same, Int.ediv_nonneg ha (by omega), hb, hb2, hc, by omega⟩ (Int.emod_nonneg _ (by omega)) (Int.emod_lt_of_pos _ h0)
    · refine ⟨.ref p, rfl, p, _, 2, _, rfl, rfl, SQ, atI_nat (j := 2) rfl, _, _, rfl, rfl, .ref p, rfl, p, _, 2, 2, rfl, rfl, hp, rfl, ?_⟩
      have SQ1 : SqL K (upd H p (.lst [.int a, .int b, .int (c + 1)])) p [.int a, .int b, .int (c + 1)] := SqL.mk upd_same
      refine ⟨.ref p, rfl, p, _, 1, _, rfl, rfl, SQ1, atI_nat (j := 1) rfl, .ref p, rfl, p, _, 2, _, rfl, rfl, SQ1, atI_nat (j := 2) rfl, _, _, rfl, rfl, .inl ⟨by decide, by decide⟩, _, _, rfl, rfl, _, _, rfl, rfl, ⟨by decide, by decide, by omega⟩, _, _, rfl, rfl, (show (0 : Int) < 2147483647 by decide), ?_⟩
      refine ⟨_, rfl, _, _, rfl, rfl, .inr ⟨by decide, by decide⟩, .ref p, rfl, p, _, 2, _, rfl, rfl, SQ1, atI_nat (j := 2) rfl, .ref p, rfl, p, _, 2, _, rfl, rfl, SQ1, atI_nat (j := 2) rfl, _, _, rfl, rfl, .inl ⟨by omega, by omega⟩, _, _, rfl, rfl, .inr ⟨by decide, by decide⟩, _, _, rfl, rfl, _, _, rfl, rfl, (show (0 : Int) < 2147483629 by decide), _, _, rfl, rfl, ⟨by decide, by decide⟩, .int m, rfl, _, _, rfl, rfl, h0, ?_⟩
      refine q _ _ (But.refl p H).put ⟨_, _, _, upd_same, ha, hb, hb2, by omega, by omega⟩ (Int.emod_nonneg _ (by omega)) (Int.emod_lt_of_pos _ h0)
/-! the folded cells -/
theorem cut_take (ns : List Int) (m : Nat) : cutV (ns.map V.int) none (some (m : Int)) = (ns.take m).map V.int := by
  unfold cutV
  rw [HT.sIx_none, HT.sIx_nat, List.drop_zero, List.length_map, Nat.sub_zero, ← List.map_take]
  congr 1
  by_cases h : m ≤ ns.length
  · rw [Nat.min_eq_left h]
  · rw [Nat.min_eq_right (by omega), List.take_length, List.take_of_length_le (by omega)]
theorem cut_rest (ns : List Int) (m k : Nat) : ∃ ms : List Int, cutV (ns.map V.int) (some (m : Int)) (some (k : Int)) = ms.map V.int ∧ (0 < ms.length → m < ns.length) ∧ ms.length ≤ ns.length := by
  unfold cutV
  rw [HT.sIx_nat, HT.sIx_nat, List.length_map]
  refine ⟨(ns.drop (min m ns.length)).take (min k ns.length - min m ns.length), ?_, fun h => ?_, ?_⟩
  · rw [List.map_take, List.map_drop]
  · rw [List.length_take, List.length_drop] at h
    omega
  · rw [List.length_take, List.length_drop]
    omega
def sp__law_folded (K : PySem.W.Frag) : Sp := fun vs H Q _ => ∃ (a : Addr) (ns : List Int) (m : Nat), vs = [.ref a, .int (m : Nat)] ∧ SqL K H a (ns.map V.int) ∧ ns.length ≤ 63 ∧ 0 < m ∧ m < 64 ∧
  ∀ H' p (cs : List Int), Same H H' → H p = none → H' p = some (.lst (cs.map V.int)) → cs.length ≤ m → Q (.ref p) H'
theorem ok__law_folded (T : Defs K mg) : FnOk P w K mg base CX0 1 T.f__law_folded T.fd__law_folded ["_law_script", "_law_many"] (sp__law_folded K) := by
  refine T.F__law_folded.ok sc__law_folded (fun vs H Q E h => ?_) (fun cdv A outer s H vs Q E hr h => ?_)
  · obtain ⟨a, ns, m, rfl, hS, hlen, hm, hm2, q⟩ := h
    rfl
  · obtain ⟨a, ns, m, rfl, hS, hlen, hm, hm2, q⟩ := h
    refine ⟨_, PSs.nox (pss_cons (ps_set (i := 2) sc__law_folded.nd rfl (.inl rfl) (pe_callTy call_list_of (by rfl) T.m_list bt_list (pa_cons (pe_slice sl_list (pv 0) po_none (po_some (pv 1))) pa_nil)))
    (pss_cons (ps_for PassesOwn.never rfl (pi_enum (by rfl) T.m_enumerate (pa_cons (pe_slice sl_list (pv 0) (po_some (pv 1)) (po_some pe_int)) pa_nil)) (pg_tup rfl (pgs_cons (pg_name (i := 3) sc__law_folded.nd rfl (.inl rfl)) (pgs_cons (pg_name (i := 4) sc__law_folded.nd rfl (.inl rfl)) pgs_nil))) (pss_one (ps_asg (pe_op op_add (pe_ix ix_list (pv 2) (pe_op op_mod (pv 3) (pv 1)) (fun _ _ => rfl)) (pe_op op_mul (pv 4) (pe_op op_add (pv 3) pe_int))) (pg_sub (pv 2) (pe_op op_mod (pv 3) (pv 1)) set_list))))
    (pss_one (ps_ret (pv 2))))), ?_⟩
    refine ⟨.ref a, rfl, .int m, rfl, m, rfl, a, _, rfl, hS, fun c nc => ?_⟩
    rw [cut_take]
    have s1 : Same H (upd H c (.lst ((ns.take m).map V.int))) := same_upd nc
    refine ⟨c, _, rfl, .inl (SqL.mk upd_same), fun l nl => ?_⟩
    have s2 := s1.trans (same_upd nl (o := .lst ((ns.take m).map V.int)))
    refine ⟨.ref a, rfl, .int m, rfl, m, rfl, 63, rfl, a, _, rfl, s2.seq hS, fun d nd => ?_⟩
    obtain ⟨ms, em, hms, hms2⟩ := cut_rest ns m 63
    rw [show (63 : Int) = ((63 : Nat) : Int) from rfl, em]
    have nl0 : H l = none := s1.free nl
    have nd0 : H d = none := s2.free nd
    have ndl : l ≠ d := fun e => by
      rw [← e, upd_same] at nd
      cases nd
    refine ⟨d, _, rfl, SqL.mk upd_same, for_it (walk_enum (xs := ms.map V.int)) (fun i σ H3 => ∃ y3 y4, ∃ cs : List Int, σ = [some (.ref a), some (.int m), some (.ref l), y3, y4] ∧ Same H H3 ∧ H3 l = some (.lst (cs.map V.int)) ∧ cs.length = (ns.take m).length ∧ H3 d = some (.lst (ms.map V.int))) ⟨none, none, ns.take m, rfl, s2.trans (same_upd nd), ?_, rfl, upd_same⟩ ?_ ?_ ?_⟩
    · rw [upd_ne ndl, upd_same]
    · rintro i σ H3 hi ⟨y3, y4, cs, rfl, s3, hl, hc, hd⟩
      exact SqL.mk hd
    · rintro i x σ H3 H4 hi ⟨y3, y4, cs, rfl, s3, hl, hc, hd⟩ ⟨t, x1, x2, rfl, nt, rfl, e1, e2⟩
      rw [List.length_map] at hi
      have lm : m < ns.length := hms (by omega)
      have lc : cs.length = m := by
        rw [hc, List.length_take]
        omega
      have ex1 : x1 = .int (i : Nat) := (Option.some.inj e1).symm
      have ex2 : x2 = .int ms[i] := by
        have e2 : (ms.map V.int)[i]? = some x2 := e2
        rw [List.getElem?_map, List.getElem?_eq_getElem hi] at e2
        exact (Option.some.inj e2).symm
      subst ex1 ex2
      have hl1 : (upd H3 t (.tup [.int (i : Nat), .int ms[i]])) l = some (.lst (cs.map V.int)) := by
        rw [upd_ne (ne_of_none hl nt)]
        exact hl
      have him : i % m < cs.length := by
        rw [lc]
        exact Nat.mod_lt _ hm
      have eim : ((i : Int) % (m : Int)) = ((i % m : Nat) : Int) := by omega
      refine ⟨t, _, rfl, SqT.mk upd_same, rfl, _, _, rfl, _, _, rfl, rfl, ?_⟩
      refine ⟨.ref l, rfl, .int (i : Nat), rfl, .int m, rfl, _, _, rfl, rfl, (show (0 : Int) < (m : Int) by omega), l, _, _, .int cs[i % m], rfl, rfl, SqL.mk hl1, ?_, .int ms[i], rfl, .int (i : Nat), rfl, _, _, rfl, rfl, _, _, rfl, rfl, .inr ⟨by omega, by omega⟩, _, _, rfl, rfl, .ref l, rfl, .int (i : Nat), rfl, .int m, rfl, _, _, rfl, rfl, (show (0 : Int) < (m : Int) by omega), l, _, _, i % m, rfl, rfl, hl1, ?_, ?_⟩
      · rw [eim]
        exact atI_nat (by rw [List.getElem?_map, List.getElem?_eq_getElem him]; rfl)
      · rw [eim]
        exact ixn (by rw [List.length_map]; exact him)
      · refine ⟨_, _, cs.set (i % m) (cs[i % m] + ms[i] * ((i : Int) + 2)), rfl, same_newer (s3.trans (same_upd nt)) nl0, ?_, by rw [List.length_set, hc], ?_⟩
        · rw [upd_same, List.map_set]
        · rw [upd_ne ndl.symm, upd_ne (ne_of_none hd nt)]
          exact hd
    · rintro σ H3 ⟨y3, y4, cs, rfl, s3, hl, hc, hd⟩
      exact ⟨.ref l, rfl, q H3 l cs s3 nl0 hl (by rw [hc, List.length_take]; omega)⟩
/-! the program's own -/
theorem op_fdivNW {X : Cx} : OpR X (binaryOp .FloorDiv) (rI (fun _ j => j ≠ 0 ∧ j.natAbs.log2 < 9000) fun i j => .int (i.fdiv j)) := opI fun _ _ _ _ _ _ _ hc q => floordiv_int hc.1 q (.inl (PyProof.noPylong_of_log2 hc.2))
theorem gcd_step (x y : Nat) : Nat.gcd y (x % y) = Nat.gcd x y := by
  rw [Nat.gcd_comm y, ← Nat.gcd_rec, Nat.gcd_comm]
theorem gcd_small {t b : Int} (hb : b ≠ 0) (h : S 4000 b) : (Int.gcd t b : Int).natAbs.log2 < 9000 := by
  have h1 : Int.gcd t b ≤ b.natAbs := Nat.le_of_dvd (by omega) (Nat.gcd_dvd_right _ _)
  have h2 : 0 < Int.gcd t b := Int.gcd_pos_of_ne_zero_right t hb
  exact (wide_div (i := 0) (j := (Int.gcd t b : Int)) (b := 4000) (by omega) (by rw [Int.natAbs_natCast]; exact Nat.lt_of_le_of_lt h1 h) (by decide) (by decide)).2
/-! sum(tuple) -/
theorem preSum_take (ns : List Int) : ∀ k, preSum (fun i => ns.getD i 0) k = (ns.take k).sum
  | 0 => rfl
  | k + 1 => by
    show preSum (fun i => ns.getD i 0) k + ns.getD k 0 = _
    rw [preSum_take ns k, List.take_add_one, List.getD_eq_getElem?_getD]
    cases ns[k]? with
    | none => simp
    | some x => simp
def rSumT (K : PySem.W.Frag) : List V → Hp → VK → Prop := fun vs H Q => ∃ (a : Addr) (ns : List Int), vs = [V.ref a] ∧ SqT K H a (ns.map V.int) ∧ Q (.int ns.sum) H
theorem cr_sumT {X : Cx} (hc : X.calm = true) : CallR X (.builtin "sum") (rSumT X.K) := by
  intro pins s σ H vs us Q I r h
  obtain ⟨a, ns, rfl, hs, q⟩ := h
  obtain ⟨its, rv, ht, _⟩ := I.tuple hs
  rw [Vals.ref1 r]
  have hh := I.ok.hd hc
  have lta : a < s.heap.objs.size := by
    obtain ⟨o, ho, _⟩ := ht
    exact Heap.lt_size ho
  have hl := rv.length
  rw [List.length_map] at hl
  refine call_sum_walkG (wpAny_pyIter_tuple (show s.heap.IsTuple a its.toArray from ht) ⟨s.heap.objs.size, _, _, _, _, _, fun i => ns.getD i 0, rfl, Walks.tuple (A := X.A.in1) hh s.heap.objs.size a (Nat.ne_of_lt lta) its.toArray, ⟨⟨_, Heap.get?_push_size _ rfl, rfl, rfl⟩, (show s.heap.IsTuple a its.toArray from ht).at fun o e => Heap.get?_push_of_some _ e⟩, fun b hb => ?_, fun i v hv => ?_, fun h' tk t' hk => ?_⟩)
  · show b < (s.heap.push _).objs.size
    rw [Heap.size_push]
    rcases List.mem_cons.mp hb with z | z
    · rw [z]
      exact Nat.lt_succ_self _
    · rw [List.mem_singleton.mp z]
      exact Nat.lt_succ_of_lt lta
  · have hv2 : its[i]? = some v := by simpa using hv
    have hi : i < ns.length := by
      have := (List.getElem?_eq_some_iff.mp hv2).1
      omega
    obtain ⟨u, hu, ru⟩ := rv.get (show (ns.map V.int)[i]? = some (V.int ns[i]) by rw [List.getElem?_map, List.getElem?_eq_getElem hi]; rfl)
    rw [hv2] at hu
    cases hu
    obtain ⟨t, rfl⟩ := (show ∃ t, v = Value.int ns[i] t from ru)
    exact ⟨t, by
      show Value.int ns[i] t = Value.int (ns.getD i 0) t
      rw [List.getD_eq_getElem?_getD, List.getElem?_eq_getElem hi]
      rfl⟩
  · rw [preSum_take, List.take_of_length_le (by rw [List.size_toArray]; omega)]
    refine ⟨.int _, H, I.kept fun b o e => hk b o (fun z => ?_) (Heap.get?_push_of_some _ e), ⟨_, rfl⟩, q⟩
    rw [List.mem_singleton] at z
    rw [z] at e
    exact Nat.lt_irrefl _ (Heap.lt_size e)
theorem sumTK {X : Cx} {K : PySem.W.Frag} (h : X.K = K) (hc : X.calm = true) : CallR X (.builtin "sum") (rSumT K) := by
  subst h
  exact cr_sumT hc
/-! heaps with tables -/
theorem trip0 : TriplesOk (#[] : Array Value).toList := trivial
structure Sam (H H' : Hp) : Prop where
  obj : ∀ b o, (∀ ps, o ≠ .tbl ps) → H b = some o → H' b = some o
  tab : ∀ b ps, H b = some (.tbl ps) → ∃ ps', H' b = some (.tbl ps') ∧ (TriplesOk ps.toList → TriplesOk ps'.toList)
theorem Sam.of {H H' : Hp} (s : Same H H') : Sam H H' := ⟨fun b o _ e => s b o e, fun b ps e => ⟨ps, s b _ e, fun z => z⟩⟩
theorem Sam.refl (H : Hp) : Sam H H := .of (Same.refl H)
theorem Sam.trans {H H1 H2 : Hp} (a : Sam H H1) (b : Sam H1 H2) : Sam H H2 := ⟨fun c o n e => b.obj c o n (a.obj c o n e), fun c ps e => by
  obtain ⟨p1, e1, t1⟩ := a.tab c ps e
  obtain ⟨p2, e2, t2⟩ := b.tab c p1 e1
  exact ⟨p2, e2, fun z => t2 (t1 z)⟩⟩
theorem Sam.tabG {H H' : Hp} {P : Addr} (a : Sam H H') (t : GxR.TabG H P) : GxR.TabG H' P := by
  obtain ⟨ps, e, z⟩ := t
  obtain ⟨p1, e1, t1⟩ := a.tab P ps e
  exact ⟨p1, e1, t1 z⟩
theorem Sam.tup {H H' : Hp} {a : Addr} {xs : List V} (s : Sam H H') (h : H a = some (.tup xs)) : H' a = some (.tup xs) := s.obj _ _ (fun _ z => by cases z) h
theorem Sam.lst {H H' : Hp} {a : Addr} {xs : List V} (s : Sam H H') (h : H a = some (.lst xs)) : H' a = some (.lst xs) := s.obj _ _ (fun _ z => by cases z) h
theorem Sam.free {H H' : Hp} (s : Sam H H') {l : Addr} (h : H' l = none) : H l = none := by
  cases q : H l with
  | none => rfl
  | some o =>
    cases o with
    | tbl ps =>
      obtain ⟨p1, e1, _⟩ := s.tab l ps q
      rw [e1] at h
      cases h
    | _ =>
      rw [s.obj l _ (fun _ z => by cases z) q] at h
      cases h
theorem Sam.tabbed {P : Addr} {H H' : Hp} (g : GxR.TabG H P) (t : GxR.Tabbed P H H') : Sam H H' := by
  obtain ⟨⟨p1, e1, z1⟩, k⟩ := t
  obtain ⟨p0, e0, _⟩ := g
  refine ⟨fun b o n e => ?_, fun b ps e => ?_⟩
  · by_cases hb : b = P
    · rw [hb, e0] at e
      exact absurd (Option.some.inj e).symm (n p0)
    · rw [k b hb]
      exact e
  · by_cases hb : b = P
    · rw [hb]
      exact ⟨p1, e1, fun _ => z1⟩
    · exact ⟨ps, by rw [k b hb]; exact e, fun z => z⟩
theorem sam_newer {H H' : Hp} {q : Addr} {o : HO} (a : Sam H H') (n : H q = none) : Sam H (upd H' q o) := ⟨fun c x hx e => by
    rw [upd_ne (ne_of_none e n)]
    exact a.obj c x hx e, fun c ps e => by
    obtain ⟨p1, e1, t1⟩ := a.tab c ps e
    exact ⟨p1, by rw [upd_ne (ne_of_none e n)]; exact e1, t1⟩⟩
/-- all but the box stays, tables grow -/
structure Bus (p : Addr) (H H' : Hp) : Prop where
  obj : ∀ b o, b ≠ p → (∀ ps, o ≠ .tbl ps) → H b = some o → H' b = some o
  tab : ∀ b ps, b ≠ p → H b = some (.tbl ps) → ∃ ps', H' b = some (.tbl ps') ∧ (TriplesOk ps.toList → TriplesOk ps'.toList)
theorem Bus.of {p : Addr} {H H' : Hp} (s : But p H H') : Bus p H H' := ⟨fun b o n _ e => s b o n e, fun b ps n e => ⟨ps, s b _ n e, fun z => z⟩⟩
theorem Bus.sam {p : Addr} {H H' : Hp} (s : Sam H H') : Bus p H H' := ⟨fun b o _ n e => s.obj b o n e, fun b ps _ e => s.tab b ps e⟩
theorem Bus.refl (p : Addr) (H : Hp) : Bus p H H := .of (But.refl p H)
theorem Bus.trans {p : Addr} {H H1 H2 : Hp} (a : Bus p H H1) (b : Bus p H1 H2) : Bus p H H2 := ⟨fun c o h n e => b.obj c o h n (a.obj c o h n e), fun c ps h e => by
  obtain ⟨p1, e1, t1⟩ := a.tab c ps h e
  obtain ⟨p2, e2, t2⟩ := b.tab c p1 h e1
  exact ⟨p2, e2, fun z => t2 (t1 z)⟩⟩
theorem Bus.tup {p : Addr} {H H' : Hp} {n : Nat} {a : Addr} {xs : List V} (s : Bus p H H') (B : Bx H p n) (h : H a = some (.tup xs)) : H' a = some (.tup xs) := s.obj _ _ (B.ne_tup h) (fun _ z => by cases z) h
theorem Bus.lst {p : Addr} {H H' : Hp} {a : Addr} {xs : List V} (s : Bus p H H') (ne : a ≠ p) (h : H a = some (.lst xs)) : H' a = some (.lst xs) := s.obj _ _ ne (fun _ z => by cases z) h
theorem Bus.tabG {p : Addr} {H H' : Hp} {n : Nat} {P : Addr} (s : Bus p H H') (B : Bx H p n) (t : GxR.TabG H P) : GxR.TabG H' P := by
  obtain ⟨ps, e, z⟩ := t
  obtain ⟨a, b, c, hp, _⟩ := B
  obtain ⟨p1, e1, t1⟩ := s.tab P ps (ne_of e hp (fun z => by cases z)) e
  exact ⟨p1, e1, t1 z⟩
theorem Bus.new {p q : Addr} {H H' : Hp} {o : HO} (a : Bus p H H') (n : H' q = none) : Bus p H (upd H' q o) := a.trans (.of ((But.refl p H').new n))
/-- a thing made since H may change -/
theorem bus_newer {p q : Addr} {H H' : Hp} {o : HO} (a : Bus p H H') (n : H q = none) : Bus p H (upd H' q o) := ⟨fun c x h hx e => by
    rw [upd_ne (ne_of_none e n)]
    exact a.obj c x h hx e, fun c ps h e => by
    obtain ⟨p1, e1, t1⟩ := a.tab c ps h e
    exact ⟨p1, by rw [upd_ne (ne_of_none e n)]; exact e1, t1⟩⟩
theorem Bus.free {p : Addr} {H H' : Hp} {n : Nat} (s : Bus p H H') (B : Bx H p n) (B' : ∃ m, Bx H' p m) {l : Addr} (h : H' l = none) : H l = none := by
  cases q : H l with
  | none => rfl
  | some o =>
    have nl : l ≠ p := fun z => by
      obtain ⟨m, _, _, _, hp, _⟩ := B'
      rw [z, hp] at h
      cases h
    cases o with
    | tbl ps =>
      obtain ⟨p1, e1, _⟩ := s.tab l ps nl q
      rw [e1] at h
      cases h
    | _ =>
      rw [s.obj l _ nl (fun _ z => by cases z) q] at h
      cases h
theorem Bx.sam {H H' : Hp} {p : Addr} {n : Nat} (h : Bx H p n) (s : Sam H H') : Bx H' p n := by
  obtain ⟨a, b, c, hp, r⟩ := h
  exact ⟨a, b, c, s.lst hp, r⟩
theorem bus_same {p : Addr} {H H1 H2 : Hp} (n : H p = none) (a : Sam H H1) (b : Bus p H1 H2) : Sam H H2 := ⟨fun c x h e => b.obj c x (ne_of_none e n) h (a.obj c x h e), fun c ps e => by
  obtain ⟨p1, e1, t1⟩ := a.tab c ps e
  obtain ⟨p2, e2, t2⟩ := b.tab c p1 (ne_of_none e n) e1
  exact ⟨p2, e2, fun z => t2 (t1 z)⟩⟩
theorem ne_new {H : Hp} {p q : Addr} {n : Nat} (B : Bx H p n) (nq : H q = none) : q ≠ p := fun e => by
  obtain ⟨_, _, _, hp, _⟩ := B
  rw [e, hp] at nq
  cases nq
/-! a tuple so many times -/
theorem tuple_once (l : Addr) (items : Array Value) (n : Nat) (dd : Option Addr) (sl : Array (Option Value)) (u : Tok) :
    Meets (Builtin.«tuple.__mul__» ⟨[.ref l, .int 1 u], []⟩) (fun _ R s => s.heap.get? l = some { cls := .type "tuple", dict := dd, data := .seq items n, slots := sl } ∧ R (.ok (.ret (Value.ref l))) { s with toks := s.toks }) :=
  .of_wp fun prog w A R s h => by
    obtain ⟨hp, g, d, tk, os⟩ := s
    obtain ⟨hl, h⟩ := h
    have f1 := AutoSeq1.idx_int
    have c1 : (items.isEmpty || (1 : Int) == 1) = true := by simp
    wp_walk using wpAny_loadPart' hl
    repeat (first
      | (refine wpAny_ite_true (decide_eq_true c1) ?_; wp_walk using wpAny_loadPart' hl)
      | (refine wpAny_ite_false (decide_eq_false (by decide)) ?_; wp_walk using wpAny_loadPart' hl))
    exact ⟨_, rfl, h⟩
def rRepA (K : PySem.W.Frag) : R2 := fun x y H Q => ∃ (l : Addr) (k : Nat) (xs : List V), x = .ref l ∧ y = .int (k : Nat) ∧ SqT K H l xs ∧ xs ≠ [] ∧ 1 ≤ k ∧ xs.length * k ≤ 1000000 ∧ (k = 1 → Q (.ref l) H) ∧
  (2 ≤ k → ∀ p, H p = none → Q (.ref p) (upd H p (.tup (List.replicate k xs).flatten)))
theorem op_repA {X : Cx} : OpR X (binaryOp .Mult) (rRepA X.K) := by
  intro pins s σ H x y v u Q I rx ry h
  obtain ⟨l, k, xs, rfl, rfl, hT, hne, h1, hz, q1, q2⟩ := h
  cases rx
  obtain ⟨t, rfl⟩ := ry
  obtain ⟨its, r, ⟨⟨cls, dd, data, sl⟩, ho, hc, n, hd⟩, hs⟩ := I.tuple hT
  simp only at hc hd
  subst hc hd
  have lx : 0 < xs.length := List.length_pos_iff.mpr hne
  have le : its.length = xs.length := r.length.symm
  have ke : k * xs.length ≤ 1000000 := by
    rw [Nat.mul_comm]
    exact hz
  have kl : k ≤ 1000000 := Nat.le_trans (Nat.le_mul_of_pos_right k lx) ke
  have ne : its.toArray.isEmpty = false := by
    cases its with
    | nil =>
      rw [← le] at lx
      cases lx
    | cons a b => rfl
  by_cases k1 : k = 1
  · subst k1
    refine wpAny_binaryOp_repeat_ref (T := "tuple") (U := "int") (by decide) ⟨_, ho, rfl⟩ (fun s' => typeIs_int s' _ t) noFill_tuple_mul F.fills_int_mul F.slot_int_rmul repeat_tuple F.slot_int_index.lookup
      (call_meets F.slot_int_rmul (typeIs_int s _ t) F.entry_int_rmul (F.args_int_rmul_2 _ _) (int_rmul_tuple _ t l its.toArray n dd sl)
        ⟨ho, rfl, ⟨_, ho, rfl⟩, call_meets F.slot_tuple_mul ⟨_, ho, rfl⟩ F.entry_tuple_mul (F.args_tuple_mul_2 _ _) (tuple_once l its.toArray n dd sl t) ⟨ho, ?_⟩⟩)
    exact ⟨.ref l, H, I, rfl, q1 rfl⟩
  · have k2 : 2 ≤ k := by omega
    have sz : its.toArray.size = xs.length := by rw [List.size_toArray, le]
    have pr : ((its.toArray.size : Nat) : Int) * (k : Int) ≤ 1000000 := by
      rw [sz, ← Int.natCast_mul]
      omega
    have fl : (List.replicate k its).flatten.length ≤ sizeLine := by
      rw [PyProof.Rows.lm_len_rep_flat, le, sizeLine_eq]
      omega
    have d0 : (decide ((k : Int) < -(2 ^ 63)) || decide ((k : Int) ≥ 2 ^ 63)) = false := by
      rw [decide_eq_false (show ¬ (k : Int) < -(2 ^ 63) by omega), decide_eq_false (show ¬ (k : Int) ≥ 2 ^ 63 by omega)] <;> rfl
    have d1 : (its.toArray.isEmpty || (k : Int) == 1) = false := by
      rw [ne, Bool.false_or]
      exact beq_eq_false_iff_ne.mpr (by omega)
    have d2 : (decide ((k : Int) ≤ 0) || its.toArray.isEmpty) = false := by
      rw [ne, Bool.or_false]
      exact decide_eq_false (by omega)
    have d4 : Builtin.Tuple.tupleTooMany (((its.toArray.size : Nat) : Int) * (k : Int)) = false := by
      unfold Builtin.Tuple.tupleTooMany
      rw [sizeLine_eq]
      exact decide_eq_false (by omega)
    refine wpAny_binaryOp_repeat_ref (T := "tuple") (U := "int") (by decide) ⟨_, ho, rfl⟩ (fun s' => typeIs_int s' _ t) noFill_tuple_mul F.fills_int_mul F.slot_int_rmul repeat_tuple F.slot_int_index.lookup
      (call_meets F.slot_int_rmul (typeIs_int s _ t) F.entry_int_rmul (F.args_int_rmul_2 _ _) (int_rmul_tuple _ t l its.toArray n dd sl)
        ⟨ho, rfl, ⟨_, ho, rfl⟩, call_meets F.slot_tuple_mul ⟨_, ho, rfl⟩ F.entry_tuple_mul (F.args_tuple_mul_2 _ _) (tuple_mulW l its.toArray n dd sl (k : Int) t d0 d1 d2 (by omega) d4 (by rw [Int.toNat_natCast, size_rep, List.size_toArray]; exact fl)) ⟨ho, ?_⟩⟩)
    rw [Int.toNat_natCast, size_rep]
    refine ⟨.ref s.heap.objs.size, _, I.laid (t' := s.toks) (o := .tup (List.replicate k xs).flatten) (fun b ob q => Heap.get?_push_of_some _ q) (Nat.le_refl _) ⟨?_, _, r.rep k, IsTup.new _ _⟩, rfl, q2 k2 _ (I.hok.fresh (Nat.le_refl _))⟩
    rw [PyProof.Rows.lm_len_rep_flat, sizeLine_eq]
    omega
/-! the law's own rows -/
def Bits (rs : List Int) : Prop := ∀ x, x ∈ rs → x = 0 ∨ x = 1
theorem Bits.snoc {rs : List Int} {x : Int} (h : Bits rs) (hx : x = 0 ∨ x = 1) : Bits (rs ++ [x]) := fun y hy => by
  rcases List.mem_append.mp hy with hy | hy
  · exact h y hy
  · rw [List.mem_singleton] at hy
    rw [hy]
    exact hx
theorem but_newer {p q : Addr} {H H' : Hp} {o : HO} (a : But p H H') (n : H q = none) : But p H (upd H' q o) := fun c x hn e => by
  rw [upd_ne (ne_of_none e n)]
  exact a c x hn e
theorem Bx.other {H : Hp} {p q : Addr} {n : Nat} {o : HO} (h : Bx H p n) (nq : q ≠ p) : Bx (L2.upd H q o) p n := by
  obtain ⟨a, b, c, hp, r⟩ := h
  exact ⟨a, b, c, by rw [upd_ne (Ne.symm nq)]; exact hp, r⟩
def PV (p D : Addr) (HX : Hp) (k i : Nat) (H1 : Hp) : Prop := ∃ rs : List Int, rs.length = i ∧ Bits rs ∧ But p HX H1 ∧ Bx H1 p (k + i) ∧ H1 D = some (.lst (rs.map V.int))
theorem pv_start {p D : Addr} {HX : Hp} {k : Nat} (nD : HX D = none) (B : Bx HX p k) : PV p D HX k 0 (upd HX D (.lst [])) := ⟨[], rfl, fun _ h => (by cases h), (But.refl p HX).new nD, B.new nD, upd_same⟩
theorem pv_step {p D : Addr} {HX H1 H4 : Hp} {k i : Nat} {x : Int} (nD : HX D = none) (Dp : D ≠ p) (h : PV p D HX k i H1) (b : But p H1 H4) (B : Bx H4 p (k + (i + 1))) (hi : i < 100000) (hx : x = 0 ∨ x = 1) :
    ∃ acc, H4 D = some (.lst acc) ∧ acc.length < sizeLine ∧ PV p D HX k (i + 1) (upd H4 D (.lst (acc ++ [.int x]))) := by
  obtain ⟨rs, hl, hb, b1, _, hD⟩ := h
  have hsl : sizeLine = 16777216 := by decide
  refine ⟨_, b _ _ Dp hD, by rw [List.length_map]; omega, rs ++ [x], by rw [List.length_append, hl]; rfl, hb.snoc hx, but_newer (b1.trans b) nD, B.other Dp, ?_⟩
  rw [upd_same, List.map_append]
  rfl
theorem rep_one (m : Nat) (x : Int) : (List.replicate m [V.int x]).flatten = (List.replicate m x).map V.int := by
  rw [List.map_replicate]
  induction m with
  | zero => rfl
  | succ m ih => rw [List.replicate_succ, List.flatten_cons, ih, List.replicate_succ]; rfl
/-! a tuple no times, too -/
theorem tuple_nought (l : Addr) (items : Array Value) (n : Nat) (dd : Option Addr) (sl : Array (Option Value)) (u : Tok) (hi : items.isEmpty = false) :
    Meets (Builtin.«tuple.__mul__» ⟨[.ref l, .int 0 u], []⟩) (fun _ R s => s.heap.get? l = some { cls := .type "tuple", dict := dd, data := .seq items n, slots := sl } ∧ R (.ok (.ret (Value.ref s.heap.objs.size))) { s with heap := s.heap.push { cls := Value.type "tuple", data := Data.seq #[] }, toks := s.toks }) :=
  .of_wp fun prog w A R s h => by
    obtain ⟨hp, g, d, tk, os⟩ := s
    obtain ⟨hl, h⟩ := h
    have f1 := AutoSeq1.idx_int
    have c1 : (items.isEmpty || (0 : Int) == 1) = false := by rw [hi]; rfl
    have c2 : (decide ((0 : Int) ≤ 0) || items.isEmpty) = true := by simp
    wp_walk using wpAny_loadPart' hl
    repeat (first
      | (refine wpAny_ite_false (decide_eq_false (by rw [c1]; exact Bool.false_ne_true)) ?_; wp_walk using wpAny_loadPart' hl)
      | (refine wpAny_ite_true (decide_eq_true c2) ?_; wp_walk using wpAny_loadPart' hl)
      | (refine wpAny_ite_false (decide_eq_false (by decide)) ?_; wp_walk using wpAny_loadPart' hl))
    exact ⟨_, rfl, h⟩
def rRepB (K : PySem.W.Frag) : R2 := fun x y H Q => ∃ (l : Addr) (k : Nat) (xs : List V), x = .ref l ∧ y = .int (k : Nat) ∧ SqT K H l xs ∧ xs ≠ [] ∧ xs.length * k ≤ 1000000 ∧ (k = 1 → Q (.ref l) H) ∧
  (k ≠ 1 → ∀ p, H p = none → Q (.ref p) (upd H p (.tup (List.replicate k xs).flatten)))
theorem op_repB {X : Cx} : OpR X (binaryOp .Mult) (rRepB X.K) := by
  intro pins s σ H x y v u Q I rx ry h
  obtain ⟨l, k, xs, rfl, rfl, hT, hne, hz, q1, q2⟩ := h
  by_cases k0 : k = 0
  · subst k0
    cases rx
    obtain ⟨t, rfl⟩ := ry
    obtain ⟨its, r, ⟨⟨cls, dd, data, sl⟩, ho, hc, n, hd⟩, hs⟩ := I.tuple hT
    simp only at hc hd
    subst hc hd
    have le : its.length = xs.length := r.length.symm
    have ne : its.toArray.isEmpty = false := by
      cases its with
      | nil => exact absurd (List.eq_nil_of_length_eq_zero le.symm) hne
      | cons a b => rfl
    refine wpAny_binaryOp_repeat_ref (T := "tuple") (U := "int") (by decide) ⟨_, ho, rfl⟩ (fun s' => typeIs_int s' _ t) noFill_tuple_mul F.fills_int_mul F.slot_int_rmul repeat_tuple F.slot_int_index.lookup
      (call_meets F.slot_int_rmul (typeIs_int s _ t) F.entry_int_rmul (F.args_int_rmul_2 _ _) (int_rmul_tuple _ t l its.toArray n dd sl)
        ⟨ho, rfl, ⟨_, ho, rfl⟩, call_meets F.slot_tuple_mul ⟨_, ho, rfl⟩ F.entry_tuple_mul (F.args_tuple_mul_2 _ _) (tuple_nought l its.toArray n dd sl t ne) ⟨ho, ?_⟩⟩)
    exact ⟨.ref s.heap.objs.size, _, I.laid (t' := s.toks) (o := .tup []) (fun b ob q => Heap.get?_push_of_some _ q) (Nat.le_refl _) ⟨Nat.zero_le _, [], .nil, IsTup.new _ _⟩, rfl, q2 (by decide) _ (I.hok.fresh (Nat.le_refl _))⟩
  · exact op_repA pins s σ H _ _ v u Q I rx ry ⟨l, k, xs, rfl, rfl, hT, hne, by omega, hz, q1, fun z => q2 (by omega)⟩
/-- (x,) so many times -/
theorem rep_go {K : PySem.W.Frag} {H : Hp} {t : Addr} {x v : Int} {k : Nat} {Q : VK} (hv : v = (k : Nat)) (ht : H t = some (.tup [.int x])) (hk : k ≤ 100000) (q : ∀ H' p, Same H H' → H' p = some (.tup ((List.replicate k x).map V.int)) → Q (.ref p) H') : rRepB K (.ref t) (.int v) H Q := by
  subst hv
  refine ⟨t, k, _, rfl, rfl, SqT.mk ht, by simp, (show 1 * k ≤ 1000000 by omega), fun z => ?_, fun z p np => ?_⟩
  · subst z
    exact q H t (Same.refl H) ht
  · exact q _ p (same_upd np) (by rw [upd_same, rep_one])
theorem cat_go {K : PySem.W.Frag} {H : Hp} {a b : Addr} {rs ss : List Int} {Q : VK} (ha : H a = some (.tup (rs.map V.int))) (hb : H b = some (.tup (ss.map V.int))) (hl : rs.length + ss.length ≤ 100000)
    (q : ∀ H' p, Same H H' → H' p = some (.tup ((rs ++ ss).map V.int)) → Q (.ref p) H') : rCatA K (.ref a) (.ref b) H Q := by
  have hsl : sizeLine = 16777216 := by decide
  refine ⟨a, b, _, _, rfl, rfl, SqT.mk ha, SqT.mk hb, by rw [List.length_map, List.length_map]; omega, fun z => ?_, fun _ z => ?_, fun _ _ p np => ?_⟩
  · rw [List.map_eq_nil_iff.mp z] at q
    exact q H b (Same.refl H) hb
  · rw [List.map_eq_nil_iff.mp z] at q
    exact q H a (Same.refl H) (by rw [List.append_nil]; exact ha)
  · exact q _ p (same_upd np) (by rw [upd_same, List.map_append])
theorem catK {X : Cx} {K : PySem.W.Frag} (h : X.K = K) : OpR X (binaryOp .Add) (rCatA K) := by
  subst h
  exact op_catA
theorem zipAK {X : Cx} {K : PySem.W.Frag} {e e2 : Expr} {ta : TA} {p pos tpos : Pos} {elts : List Expr} {kk : Nat} (h : X.K = K) (hg : Gl X "zip") (hm : X.mg "zip" = none) (ha : PA X [e, e2] ta)
    (hs : starEach [e, e2] X.env = (false, eval e X.env) :: starEach [e2] X.env := by rfl) (hpl : (backTo pos (starEach [e2] X.env)).any (·.1) = false := by rfl) :
    PI X (.Tuple elts kk tpos) (.Call (.Name "zip" p) [e, e2] [] pos) (RZ.iZipA K ta) := by
  subst h
  exact RZ.pi_zipA hg hm ha hs hpl
/-! enumerate of a tuple -/
abbrev itObj (l : Addr) : Obj := { cls := .type "tuple_iterator", data := .fields #[.ref l, .int 0 0] }
abbrev enObj (a : Addr) : Obj := { cls := .type "enumerate", data := .fields #[.none, .bool false, .ref a, rawInt 0, .none, .none] }
set_option maxHeartbeats 1000000 in
theorem enum_newT (l : Addr) (items : Array Value) : Meets (Builtin.«enumerate.__new__» ⟨[.type "enumerate", .ref l], []⟩)
    (fun _ R s => s.heap.IsTuple l items ∧ R (.ok (.ret (.ref (s.heap.push (itObj l)).objs.size))) { s with heap := (s.heap.push (itObj l)).push (enObj s.heap.objs.size) }) :=
  .of_wp fun prog w A R s h => by
    obtain ⟨hp, g, d, tk, os⟩ := s
    obtain ⟨h1, h⟩ := h
    have hsub := sub_enumerate
    have q1 : ∀ {A' : Around} {E : Value → Shared → Prop} {Q : Value → Shared → Prop}, Q (.ref hp.objs.size) ⟨hp.push (itObj l), g, d, tk, os⟩ → wpAny (model prog w) A' (pyIter (.ref l)) Q E ⟨hp, g, d, tk, os⟩ := fun q => (begins_tuple l items).iter prog w _ _ ⟨hp, g, d, tk, os⟩ _ h1 q
    obtain ⟨⟨c, dct, dt, sl⟩, hl, hc, n, hd⟩ := h1
    replace hc : c = .type "tuple" := hc
    replace hd : dt = .seq items n := hd
    subst hc hd
    wp_walk using AutoSeq1.wpAny_loadPart' hl, q1
    refine wpAny_stack_any fun st => wpAny_pure ?_
    split
    · rename_i c _ _ _ _ _
      cases (c == Value.type "enumerate") <;> (wp_walk using AutoSeq1.wpAny_loadPart' hl, q1; exact ⟨_, rfl, h⟩)
    · wp_walk using AutoSeq1.wpAny_loadPart' hl, q1
      exact ⟨_, rfl, h⟩
theorem enum_callT {prog : Program} {w : World} {A : Around} {E : Value → Shared → Prop} {s : Shared} {l : Addr} {items : Array Value} {Q : Value → Shared → Prop} (hL : s.heap.IsTuple l items)
    (h : ∀ h', IsEnum h' (s.heap.objs.size + 1) s.heap.objs.size 0 .none → h'.IsTupleIter s.heap.objs.size l 0 → (∀ b o, s.heap.get? b = some o → h'.get? b = some o) → Q (.ref (s.heap.objs.size + 1)) { s with heap := h' }) :
    wpAny (model prog w) A (call (.type "enumerate") [.ref l]) Q E s := by
  refine callType_new F.called_enumerate (by decide) (F.typeCall_enumerate_1 _) (F.newCall_enumerate_1 _) (fun obj => F.args_object_init_2 obj _) F.entry_enumerate_new (enum_newT l items) ⟨hL, ?_⟩
  have hz : (s.heap.push (itObj l)).objs.size = s.heap.objs.size + 1 := Heap.size_push ..
  show _ ∧ _
  rw [hz]
  have he : IsEnum ((s.heap.push (itObj l)).push (enObj s.heap.objs.size)) (s.heap.objs.size + 1) s.heap.objs.size 0 .none := by
    have e := Heap.get?_push_size (s.heap.push (itObj l)) (o := enObj s.heap.objs.size) rfl
    rw [hz] at e
    exact e
  exact ⟨⟨_, he, rfl⟩, h _ he ⟨_, Heap.get?_push_of_some _ (Heap.get?_push_size _ rfl), rfl, rfl⟩ fun b o x => Heap.get?_push_of_some _ (Heap.get?_push_of_some _ x)⟩
/-- the tuple at a, each item in a new pair -/
def ItN (K : PySem.W.Frag) (a : Addr) : It :=
  ⟨fun i H => ∃ (xs : List V) (x : V), SqT K H a xs ∧ xs[i]? = some x, fun i H v H' => ∃ T x, v = .ref T ∧ H T = none ∧ H' = upd H T (.tup [.int (i : Nat), x]) ∧ ∀ xs, SqT K H a xs → xs[i]? = some x, fun i H => ∃ xs : List V, SqT K H a xs ∧ xs.length ≤ i⟩
theorem turn_N {P : Program} {w : World} {K : PySem.W.Frag} {elts : List Expr} {kk : Nat} {tpos : Pos} (a e it : Addr) (hae : a ≠ e) (hai : a ≠ it) :
    Turn P w K (.Tuple elts kk tpos) (ItN K a) [e, it] e (fun i h => (∃ old, IsEnum h e it ((i : Nat) : Int) old) ∧ h.IsTupleIter it a i ∧ e ≠ it) where
  mem := List.mem_cons_self
  obj := fun i h st b hb => by
    obtain ⟨⟨old, he⟩, ⟨o, ho, hc, hd⟩, _⟩ := st
    rcases List.mem_cons.mp hb with z | z
    · rw [z]
      exact ⟨_, he, fun v q => nomatch q⟩
    · rw [List.mem_singleton.mp z]
      exact ⟨o, ho, fun v q => by rw [hd] at q; cases q⟩
  keep := fun i h h' st k => let ⟨⟨old, he⟩, hi, hne⟩ := st; ⟨⟨old, k e List.mem_cons_self _ he⟩, hi.at fun o q => k it (List.mem_cons_of_mem _ List.mem_cons_self) o q, hne⟩
  item := by
    intro X hP hw hK hc i pins s σ H E I hf st hg
    subst hP hw hK
    obtain ⟨⟨old, he⟩, hit, hne⟩ := st
    obtain ⟨xs, x, hq, hx⟩ := hg
    obtain ⟨its, rv, p, hz⟩ := I.tuple hq
    obtain ⟨u, hu, ru⟩ := rv.get hx
    have hel : e < s.heap.objs.size := Heap.lt_size he
    have hil : it < s.heap.objs.size := by
      obtain ⟨_, q, _⟩ := hit
      exact Heap.lt_size q
    have hlt : i < its.toArray.size := by
      rw [List.size_toArray]
      exact (List.getElem?_eq_some_iff.mp hu).1
    refine wpAny_pyNext_enum_itemD (Draws.tuple (A := X.A.in1) (I.ok.hd hc) it a hai its.toArray) he ⟨hit, (show s.heap.IsTuple a its.toArray from p)⟩ hlt hne (fun z => ?_) fun x' h' tk hP' ho hst' hT hsz hk => ?_
    · rcases List.mem_cons.mp z with z | z
      · exact hne z
      · exact hae (List.mem_singleton.mp z).symm
    have ex : x' = u := by
      have hP' : its.toArray[i]? = some x' := hP'
      have hu' : its.toArray[i]? = some u := by simpa using hu
      rw [hu'] at hP'
      exact (Option.some.inj hP').symm
    subst ex
    refine ⟨_, rfl, wpAny_letOwnedTupleGo_enum (s := { s with heap := h', toks := tk + 1 }) ho fun h'' he' sb => ?_⟩
    have hT2 : h''.get? s.heap.objs.size = some { cls := .type "tuple", data := .seq #[.int i tk, x'] } := (sb.2 _ (Nat.ne_of_gt hel)).trans hT
    have new : ObjOk X.prog X.w (upd H s.heap.objs.size (.tup [.int (i : Nat), x])) h'' s.heap.objs.size (.tup [.int (i : Nat), x]) := ⟨(show 2 ≤ sizeLine by decide), [.int i tk, x'], .cons ⟨_, rfl⟩ (.cons ru .nil), ⟨_, hT2, rfl, _, rfl⟩⟩
    have I1 : Inv X pins σ (upd H s.heap.objs.size (.tup [.int (i : Nat), x])) { s with heap := h'', toks := tk + 1 } :=
      I.turnedNew (ch := [e, it]) (fun b ob hb q => (sb.2 b (fun z => hb (by rw [z]; exact List.mem_cons_self))).trans (hk b ob (fun z => hb (by rw [z]; exact List.mem_cons_self)) (fun z => hb (by rw [z]; exact List.mem_cons_of_mem _ List.mem_cons_self)) q)) hf (Nat.le_refl _) new
    refine ⟨.ref s.heap.objs.size, _, I1, rfl, ⟨_, x, rfl, I.hok.fresh (Nat.le_refl _), rfl, fun ys hy => by rw [I.tuple_inj hy hq]; exact hx⟩, ⟨⟨x', ?_⟩, hst'.1.at fun o q => (sb.2 it (Ne.symm hne)).trans q, hne⟩, fun b hb => ?_⟩
    · rw [show ((i + 1 : Nat) : Int) = (i : Int) + 1 by omega]
      exact he'
    · have hb' : b < s.heap.objs.size := by
        rcases List.mem_cons.mp hb with z | z
        · rw [z]
          exact hel
        · rw [List.mem_singleton.mp z]
          exact hil
      rw [upd_ne (Nat.ne_of_lt hb')]
      exact (hf b hb).1
  done := by
    intro X hP hw hK hc i pins s σ H E I hf st hg
    subst hP hw hK
    obtain ⟨⟨old, he⟩, hit, hne⟩ := st
    obtain ⟨xs, hq, hx⟩ := hg
    obtain ⟨its, rv, p, hz⟩ := I.tuple hq
    obtain ⟨f0, f1, f2, f3, f4, f5⟩ := hf it (List.mem_cons_of_mem _ List.mem_cons_self)
    have hl := rv.length
    have hT : s.TypeIs (.ref e) "enumerate" := ⟨_, he, rfl⟩
    have hend : its.toArray[i]? = none := by
      rw [List.getElem?_toArray, List.getElem?_eq_none (by omega)]
    unfold pyNext
    refine wpAny_bind (wpAny_attempt (wpAny_callSpecial?_slot (name := Str.ofString "__next__") hT F.slot_enumerate_next (wpAny_call_entry F.slot_enumerate_next hT F.entry_enumerate_next ?_ (F.args_enumerate_next_1 _))))
    show wpAny _ _ (field (.ref e) 2 >>= _) _ _ _
    refine wpAny_bind (wpAny_field he rfl (x := .ref it) rfl ?_)
    refine wpAny_bind (wpAny_nextOf_tuple_end (I.ok.hd hc) hit (show s.heap.IsTuple a its.toArray from p) hend fun h' x eb hx' => ?_)
    obtain ⟨o, ho, hcl⟩ := hx'
    refine wpAny_bind (wpAny_isInstance (T := "StopIteration") (b := true) ⟨o, ho, hcl⟩ isSubtype_stop ?_)
    exact wpAny_pure ⟨rfl, I.turned (t' := s.toks) (fun b o hb q => eb b o hb q) f0 f1 f3 f4 f5⟩
  self := fun A i s Q E st h => let ⟨⟨_, he⟩, _⟩ := st; wpAny_pyIter_enum he h
def iEnumT (K : PySem.W.Frag) (ta : TA) : TI := fun σ H R => ta σ H fun vs H1 => ∃ a xs, vs = [.ref a] ∧ SqT K H1 a xs ∧ R (ItN K a) H1
theorem pi_enumT {X : Cx} {e : Expr} {ta : TA} {p pos tpos : Pos} {elts : List Expr} {kk : Nat} (hg : Gl X "enumerate") (hm : X.mg "enumerate" = none) (ha : PA X [e] ta) (hs : starEach [e] X.env = [(false, eval e X.env)] := by rfl) :
    PI X (.Tuple elts kk tpos) (.Call (.Name "enumerate" p) [e] [] pos) (iEnumT X.K ta) := by
  refine ⟨fun pins s σ H R I h => ?_⟩
  refine Call_ (ld_blt I hg hm boot_enumerate (PyProof.Rows.callWith_type1 (thn (ha.run pos pins s σ H _ I h) fun us s1 ⟨vs, H1, I1, r1, q1⟩ => ?_) hs rfl))
  obtain ⟨a, xs, ex, hq, q⟩ := q1
  subst ex
  rw [Vals.ref1 r1]
  obtain ⟨its, rv, p', hz⟩ := I1.tuple hq
  have lta : a < s1.heap.objs.size := by
    obtain ⟨o, ho, _⟩ := id p'
    exact Heap.lt_size ho
  refine enum_callT (show s1.heap.IsTuple a its.toArray from p') fun h' he hit hk => wpAny_pyIter_enum he ?_
  have I2 : Inv X pins σ H1 { s1 with heap := h' } := I1.kept (t' := s1.toks) hk
  refine ⟨s1.heap.objs.size + 1, [s1.heap.objs.size + 1, s1.heap.objs.size], _, _, H1, rfl, I2, turn_N a (s1.heap.objs.size + 1) s1.heap.objs.size (Nat.ne_of_lt (Nat.lt_succ_of_lt lta)) (Nat.ne_of_lt lta), ⟨⟨.none, he⟩, hit, Nat.succ_ne_self _⟩, fun b hb => ?_, q⟩
  have hle : s1.heap.objs.size ≤ b := by
    rcases List.mem_cons.mp hb with z | z
    · rw [z]
      exact Nat.le_succ _
    · rw [List.mem_singleton.mp z]
      exact Nat.le_refl _
  exact I1.fpOk hle (I1.hok.fresh hle)
theorem walk_enumT {K : PySem.W.Frag} {a : Addr} {xs : List V} : Walk (ItN K a) xs.length (fun H => SqT K H a xs) (YPair (fun i => some (.int (i : Nat))) (fun i => xs[i]?)) := by
  refine ⟨fun i _ hi q => ⟨xs, xs[i], q, List.getElem?_eq_getElem hi⟩, fun _ q => ⟨xs, q, Nat.le_refl _⟩, fun i H v H' _ q y => ?_⟩
  obtain ⟨T, x, h1, h2, h3, h4⟩ := y
  exact ⟨T, .int (i : Nat), x, h1, h2, h3, rfl, h4 xs q⟩
/-! the ones of a row told again and again -/
def cn (rs : List Int) : Nat → Int
  | 0 => 0
  | k + 1 => cn rs k + rs.getD (k % rs.length) 0
/-- what the first k bits are off, times the length -/
def Df (rs : List Int) (k : Nat) : Int := cn rs k * rs.length - k * rs.sum
theorem cn_take (rs : List Int) : ∀ k, k ≤ rs.length → cn rs k = (rs.take k).sum
  | 0, _ => rfl
  | k + 1, h => by
    show cn rs k + rs.getD (k % rs.length) 0 = _
    rw [cn_take rs k (by omega), Nat.mod_eq_of_lt (by omega), List.take_add_one, List.getD_eq_getElem?_getD, List.getElem?_eq_getElem (show k < rs.length by omega), List.sum_append]
    simp
theorem cn_all (rs : List Int) : cn rs rs.length = rs.sum := by
  rw [cn_take rs _ (Nat.le_refl _), List.take_length]
theorem cn_again (rs : List Int) : ∀ k, cn rs (k + rs.length) = cn rs k + rs.sum
  | 0 => by rw [Nat.zero_add, cn_all]; show _ = 0 + _; omega
  | k + 1 => by
    rw [show k + 1 + rs.length = (k + rs.length) + 1 by omega]
    show cn rs (k + rs.length) + rs.getD ((k + rs.length) % rs.length) 0 = (cn rs k + rs.getD (k % rs.length) 0) + _
    rw [cn_again rs k, Nat.add_mod_right]
    omega
theorem Df_again (rs : List Int) (k : Nat) : Df rs (k + rs.length) = Df rs k := by
  unfold Df
  rw [cn_again, Int.add_mul, Int.natCast_add, Int.add_mul, Int.mul_comm rs.sum]
  omega
theorem Df_zero (rs : List Int) : Df rs 0 = 0 := by
  unfold Df
  show 0 * _ - ((0 : Nat) : Int) * _ = (0 : Int)
  simp
theorem Df_step (rs : List Int) (k : Nat) : Df rs (k + 1) = Df rs k + rs.length * rs.getD (k % rs.length) 0 - rs.sum := by
  unfold Df
  show (cn rs k + rs.getD (k % rs.length) 0) * _ - _ = _
  rw [Int.add_mul, Int.natCast_add, Int.add_mul, Int.mul_comm (rs.getD (k % rs.length) 0)]
  omega
/-- the greatest off up to k, and the first place that has it -/
structure Best (D : Nat → Int) (k : Nat) (w : Int) (j : Nat) : Prop where
  le : j ≤ k
  eq : ((D j).natAbs : Int) = w
  most : ∀ i, i ≤ k → ((D i).natAbs : Int) ≤ w
  first : ∀ i, i < j → ((D i).natAbs : Int) < w
theorem Best.zero {D : Nat → Int} (h : D 0 = 0) : Best D 0 0 0 := ⟨Nat.le_refl 0, by rw [h]; rfl, fun i hi => by rw [show i = 0 by omega, h]; exact Int.le_refl 0, fun i hi => by omega⟩
theorem Best.more {D : Nat → Int} {k j : Nat} {w : Int} (h : Best D k w j) (l : w < ((D (k + 1)).natAbs : Int)) : Best D (k + 1) ((D (k + 1)).natAbs : Int) (k + 1) :=
  ⟨Nat.le_refl _, rfl, fun i hi => by
    by_cases e : i = k + 1
    · rw [e]; exact Int.le_refl _
    · exact Int.le_of_lt (Int.lt_of_le_of_lt (h.most i (by omega)) l), fun i hi => Int.lt_of_le_of_lt (h.most i (by omega)) l⟩
theorem Best.less {D : Nat → Int} {k j : Nat} {w : Int} (h : Best D k w j) (l : ((D (k + 1)).natAbs : Int) ≤ w) : Best D (k + 1) w j :=
  ⟨Nat.le_succ_of_le h.le, h.eq, fun i hi => by
    by_cases e : i = k + 1
    · rw [e]; exact l
    · exact h.most i (by omega), h.first⟩
theorem Best.uniq {D : Nat → Int} {k j j' : Nat} {w w' : Int} (h : Best D k w j) (h' : Best D k w' j') : w = w' ∧ j = j' := by
  have e : w = w' := by
    have a := h.most j' h'.le
    have b := h'.most j h.le
    rw [h'.eq] at a
    rw [h.eq] at b
    omega
  subst e
  refine ⟨rfl, ?_⟩
  rcases Nat.lt_trichotomy j j' with z | z | z
  · have := h'.first j z
    rw [h.eq] at this
    omega
  · exact z
  · have := h.first j' z
    rw [h'.eq] at this
    omega
/-- by the list's greatest one and where it comes first -/
theorem Best.of_list {D : Nat → Int} {k j : Nat} {w : Int} (hm : ∀ y, y ∈ (List.range (k + 1)).map (fun i => ((D i).natAbs : Int)) → y ≤ w) (h1 : ((List.range (k + 1)).map (fun i => ((D i).natAbs : Int)))[j]? = some w)
    (h2 : ∀ m, m < j → ((List.range (k + 1)).map (fun i => ((D i).natAbs : Int)))[m]? ≠ some w) : Best D k w j := by
  have at_ : ∀ i, i ≤ k → ((List.range (k + 1)).map (fun i => ((D i).natAbs : Int)))[i]? = some ((D i).natAbs : Int) := fun i hi => by
    rw [List.getElem?_map, List.getElem?_range (by omega)]
    rfl
  have hj : j ≤ k := by
    have := (List.getElem?_eq_some_iff.mp h1).1
    rw [List.length_map, List.length_range] at this
    omega
  have mo : ∀ i, i ≤ k → ((D i).natAbs : Int) ≤ w := fun i hi => hm _ (List.mem_of_getElem? (at_ i hi))
  refine ⟨hj, ?_, mo, fun i hi => ?_⟩
  · rw [at_ j hj] at h1
    exact Option.some.inj h1
  · have := mo i (by omega)
    have n := h2 i hi
    rw [at_ i (by omega)] at n
    have : ((D i).natAbs : Int) ≠ w := fun z => n (by rw [z])
    omega
/-! from how many bits on -/
theorem Df_mod (rs : List Int) : ∀ n, Df rs n = Df rs (n % rs.length) := fun n => by
  by_cases h0 : rs.length = 0
  · rw [h0, Nat.mod_zero]
  · induction n using Nat.strongRecOn with
    | ind n ih =>
      by_cases hn : n < rs.length
      · rw [Nat.mod_eq_of_lt hn]
      · obtain ⟨y, rfl⟩ : ∃ y, n = y + rs.length := ⟨n - rs.length, by omega⟩
        rw [Df_again, Nat.add_mod_right, ih y (by omega)]
theorem Df_plus (rs : List Int) (n : Nat) : ∀ k, Df rs (n + k * rs.length) = Df rs n
  | 0 => by rw [Nat.zero_mul, Nat.add_zero]
  | k + 1 => by rw [Nat.succ_mul, ← Nat.add_assoc, Df_again, Df_plus rs n k]
/-- the first N bits are more off than t by b -/
def Vi (rs : List Int) (t b : Int) (N : Nat) : Prop := t * N * rs.length < ((Df rs N).natAbs : Int) * b
structure IsLast (V : Nat → Prop) (L : Nat) : Prop where
  at_ : L = 0 ∨ V L
  no : ∀ N, L < N → ¬ V N
theorem IsLast.uniq {V : Nat → Prop} {L M : Nat} (h : IsLast V L) (k : IsLast V M) : L = M := by
  rcases Nat.lt_trichotomy L M with z | z | z
  · rcases k.at_ with e | e
    · omega
    · exact absurd e (h.no M z)
  · exact z
  · rcases h.at_ with e | e
    · omega
    · exact absurd e (k.no L z)
theorem Vi_iff {rs : List Int} {t b : Int} {N : Nat} (h1 : 1 ≤ rs.length) (ht : 0 < t) : Vi rs t b N ↔ (N : Int) ≤ (((Df rs N).natAbs : Int) * b - 1) / (t * rs.length) := by
  rw [Int.le_ediv_iff_mul_le (Int.mul_pos ht (by omega))]
  unfold Vi
  rw [show t * N * rs.length = N * (t * rs.length) by rw [Int.mul_comm t N, Int.mul_assoc]]
  omega
theorem Vi_zero {rs : List Int} {t b : Int} {N : Nat} (ht : 0 ≤ t) (hz : Df rs N = 0) : ¬ Vi rs t b N := by
  unfold Vi
  rw [hz]
  have : 0 ≤ t * N * rs.length := Int.mul_nonneg (Int.mul_nonneg ht (by omega)) (by omega)
  simp
  exact this
/-- the last one among n and whole rounds -/
def lb (l : Int) (n m : Nat) : Int := if l < n then 0 else l - (l - n) % m
theorem lb_nat {l : Int} {n m : Nat} (hm : 0 < m) : 0 ≤ lb l n m := by
  unfold lb
  split
  · exact Int.le_refl 0
  · have := Int.emod_nonneg (l - n) (show (m : Int) ≠ 0 by omega)
    have h3 := Int.mul_ediv_add_emod (l - n) m
    have h6 : 0 ≤ (m : Int) * ((l - n) / m) := Int.mul_nonneg (by omega) (Int.ediv_nonneg (by omega) (by omega))
    omega
theorem lb_form {l : Int} {n m : Nat} (hm : 0 < m) (h : ¬ l < n) : ∃ k : Nat, lb l n m = ((n + k * m : Nat) : Int) ∧ lb l n m ≤ l ∧ ∀ j : Nat, ((n + j * m : Nat) : Int) ≤ l → j ≤ k := by
  have h3 := Int.mul_ediv_add_emod (l - n) m
  have h4 := Int.emod_nonneg (l - n) (show (m : Int) ≠ 0 by omega)
  have h5 := Int.emod_lt_of_pos (l - n) (show (0 : Int) < m by omega)
  have h6 : 0 ≤ (l - n) / m := Int.ediv_nonneg (by omega) (by omega)
  obtain ⟨k, hk⟩ := Int.eq_ofNat_of_zero_le h6
  have e : lb l n m = ((n + k * m : Nat) : Int) := by
    unfold lb
    rw [if_neg h, Int.natCast_add, Int.natCast_mul, ← hk, Int.mul_comm]
    omega
  refine ⟨k, e, ?_, fun j hj => ?_⟩
  · unfold lb
    rw [if_neg h]
    omega
  · rw [Int.natCast_add, Int.natCast_mul] at hj
    have : (j : Int) ≤ (l - n) / m := (Int.le_ediv_iff_mul_le (by omega)).mpr (by omega)
    omega
abbrev Lb (rs : List Int) (t b : Int) (n : Nat) : Int := lb ((((Df rs n).natAbs : Int) * b - 1) / (t * rs.length)) n rs.length
theorem Lb_at {rs : List Int} {t b : Int} {n : Nat} (h1 : 1 ≤ rs.length) (ht : 0 < t) : Lb rs t b n = 0 ∨ ∃ N : Nat, Lb rs t b n = (N : Int) ∧ Vi rs t b N := by
  by_cases h : (((Df rs n).natAbs : Int) * b - 1) / (t * rs.length) < n
  · left
    show lb _ _ _ = 0
    unfold lb
    rw [if_pos h]
  · right
    obtain ⟨k, e, le, _⟩ := lb_form (m := rs.length) (by omega) h
    refine ⟨_, e, (Vi_iff h1 ht).mpr ?_⟩
    rw [Df_plus, ← e]
    exact le
theorem Lb_most {rs : List Int} {t b : Int} {n k : Nat} (h1 : 1 ≤ rs.length) (ht : 0 < t) (hv : Vi rs t b (n + k * rs.length)) : ((n + k * rs.length : Nat) : Int) ≤ Lb rs t b n := by
  have hv := (Vi_iff h1 ht).mp hv
  rw [Df_plus] at hv
  by_cases h : (((Df rs n).natAbs : Int) * b - 1) / (t * rs.length) < n
  · have : 0 ≤ k * rs.length := Nat.zero_le _
    omega
  · obtain ⟨k', e, _, hk⟩ := lb_form (m := rs.length) (by omega) h
    have hkk := hk k hv
    show _ ≤ lb _ _ _
    rw [e]
    have : k * rs.length ≤ k' * rs.length := Nat.mul_le_mul_right _ hkk
    omega
/-- the greatest of them is the last one of all -/
theorem last_of {rs : List Int} {t b : Int} {M : Nat} (h1 : 1 ≤ rs.length) (ht : 0 < t) (at_ : M = 0 ∨ ∃ n, Lb rs t b n = (M : Int)) (all : ∀ n, n < rs.length → n ≠ 0 → Lb rs t b n ≤ M) : IsLast (Vi rs t b) M := by
  refine ⟨?_, fun N hN hv => ?_⟩
  · rcases at_ with e | ⟨n, e⟩
    · exact .inl e
    · rcases Lb_at (n := n) (b := b) h1 ht with z | ⟨N, z, hv⟩
      · left
        rw [z] at e
        omega
      · right
        rw [z] at e
        rw [show M = N by omega]
        exact hv
  · have e := Nat.mod_add_div N rs.length
    by_cases z : N % rs.length = 0
    · refine absurd hv (Vi_zero (by omega) ?_)
      rw [Df_mod, z, Df_zero]
    · have l1 := Nat.mod_lt N (show 0 < rs.length by omega)
      have l2 := all _ l1 z
      have hv2 : Vi rs t b (N % rs.length + (N / rs.length) * rs.length) := by
        rw [Nat.mul_comm, e]
        exact hv
      have l3 := Lb_most h1 ht hv2
      rw [Nat.mul_comm, e] at l3
      omega
/-! how far off at most -/
theorem cn_bits {rs : List Int} (hb : Bits rs) : ∀ n, n ≤ rs.length → 0 ≤ cn rs n ∧ cn rs n ≤ n ∧ cn rs n ≤ rs.sum ∧ (n : Int) - cn rs n ≤ rs.length - rs.sum := fun n hn => by
  have up : ∀ k, ∀ n, 0 ≤ cn rs n ∧ cn rs n ≤ n ∧ cn rs n ≤ cn rs (n + k) ∧ cn rs (n + k) ≤ cn rs n + k := by
    have g : ∀ i, 0 ≤ rs.getD i 0 ∧ rs.getD i 0 ≤ 1 := fun i => by
      rw [List.getD_eq_getElem?_getD]
      cases e : rs[i]? with
      | none => exact ⟨Int.le_refl 0, by decide⟩
      | some x =>
        have := hb x (List.mem_of_getElem? e)
        show 0 ≤ x ∧ x ≤ 1
        omega
    have a : ∀ n, 0 ≤ cn rs n ∧ cn rs n ≤ n := fun n => by
      induction n with
      | zero => exact ⟨Int.le_refl 0, Int.le_refl 0⟩
      | succ n ih =>
        have := g (n % rs.length)
        show 0 ≤ cn rs n + _ ∧ cn rs n + _ ≤ _
        omega
    intro k
    induction k with
    | zero => intro n; exact ⟨(a n).1, (a n).2, Int.le_refl _, by rw [Nat.add_zero]; omega⟩
    | succ k ih =>
      intro n
      have h1 := ih n
      have := g ((n + k) % rs.length)
      have e : cn rs (n + (k + 1)) = cn rs (n + k) + rs.getD ((n + k) % rs.length) 0 := rfl
      omega
  have h := up (rs.length - n) n
  rw [Nat.add_sub_cancel' hn, cn_all] at h
  omega
theorem Df_less {rs : List Int} (hb : Bits rs) (n : Nat) (hn : n ≤ rs.length) : ((Df rs n).natAbs : Int) ≤ rs.sum * (rs.length - rs.sum) := by
  obtain ⟨h1, h2, h3, h4⟩ := cn_bits hb n hn
  have h5 := (cn_bits hb rs.length (Nat.le_refl _))
  rw [cn_all] at h5
  have s0 : 0 ≤ rs.sum := h5.1
  have s1 : rs.sum ≤ rs.length := h5.2.1
  unfold Df
  generalize cn rs n = c at *
  generalize rs.sum = a at *
  generalize (rs.length : Int) = m at *
  generalize (n : Int) = x at *
  have u1 : c * a ≤ x * a := Int.mul_le_mul_of_nonneg_right h2 s0
  have u2 : c * (m - a) ≤ a * (m - a) := Int.mul_le_mul_of_nonneg_right h3 (by omega)
  have u3 : (x - c) * a ≤ (m - a) * a := Int.mul_le_mul_of_nonneg_right h4 s0
  have u4 : 0 ≤ c * (m - a) := Int.mul_nonneg h1 (by omega)
  rw [Int.mul_sub] at u2 u4 ⊢
  rw [Int.mul_sub] at u2
  rw [Int.sub_mul, Int.sub_mul] at u3
  have e1 : m * a = a * m := Int.mul_comm ..
  omega
theorem quarter (a m : Int) : 4 * (a * (m - a)) ≤ m * m := by
  have h : 0 ≤ (2 * a - m) * (2 * a - m) := by
    rcases Int.le_total 0 (2 * a - m) with z | z
    · exact Int.mul_nonneg z z
    · exact Int.mul_nonneg_of_nonpos_of_nonpos z z
  rw [Int.mul_sub] at h ⊢
  rw [Int.sub_mul, Int.sub_mul] at h
  have e1 : 2 * a * (2 * a) = 4 * (a * a) := by
    rw [Int.mul_assoc, Int.mul_left_comm a, ← Int.mul_assoc]
    rfl
  have e2 : 2 * a * m = 2 * (a * m) := Int.mul_assoc ..
  have e3 : m * (2 * a) = 2 * (a * m) := by rw [Int.mul_left_comm, Int.mul_comm m a]
  omega
theorem Vi_bound {rs : List Int} {t b : Int} {N : Nat} (hb : Bits rs) (h1 : 1 ≤ rs.length) (ht : 0 < t) (hb0 : 0 < b) (hv : Vi rs t b N) : (N : Int) ≤ (((rs.length : Int) / 4 + 2) * b) / t + rs.length := by
  have l1 := Nat.mod_lt N (show 0 < rs.length by omega)
  have d := Df_less hb (N % rs.length) (by omega)
  rw [← Df_mod] at d
  have q4 := quarter rs.sum rs.length
  unfold Vi at hv
  generalize ((Df rs N).natAbs : Int) = D at *
  have m0 : (0 : Int) < rs.length := by omega
  generalize (rs.length : Int) = m at *
  generalize (N : Int) = x at *
  -- 4 t x m < m m b
  have c1 : 4 * D * b ≤ m * m * b := Int.mul_le_mul_of_nonneg_right (by omega) (by omega)
  have c2 : 4 * (t * x) * m < (m * b) * m := by
    have : 4 * (t * x * m) < 4 * (D * b) := by omega
    rw [Int.mul_assoc, Int.mul_assoc m b m, Int.mul_comm b m, ← Int.mul_assoc m m b]
    rw [Int.mul_assoc] at c1
    omega
  have c3 : 4 * (t * x) < m * b := Int.lt_of_mul_lt_mul_right c2 (by omega)
  have c4 : m ≤ 4 * (m / 4 + 2) := by omega
  have c5 : m * b ≤ 4 * (m / 4 + 2) * b := Int.mul_le_mul_of_nonneg_right c4 (by omega)
  have c6 : x * t ≤ (m / 4 + 2) * b := by
    rw [Int.mul_comm x t]
    rw [Int.mul_assoc] at c5
    omega
  have c7 : x ≤ (m / 4 + 2) * b / t := (Int.le_ediv_iff_mul_le ht).mpr c6
  omega
/-! where a number stands first -/
theorem flat_ints (xs : List Int) : (xs.map V.int).all flatV = true := by
  rw [List.all_eq_true]
  intro x hx
  obtain ⟨i, _, rfl⟩ := List.mem_map.mp hx
  rfl
theorem in_ints (xs : List Int) (k : Int) : inV (.int k) (xs.map V.int) = decide (k ∈ xs) := by
  unfold inV
  rw [Bool.eq_iff_iff, List.any_eq_true, decide_eq_true_iff]
  constructor
  · rintro ⟨y, hy, e⟩
    obtain ⟨i, hi, rfl⟩ := List.mem_map.mp hy
    have : i = k := by
      have e : (i == k) = true := e
      exact eq_of_beq e
    rw [← this]
    exact hi
  · intro h
    exact ⟨_, List.mem_map.mpr ⟨k, h, rfl⟩, show (k == k) = true from beq_self_eq_true k⟩
theorem first_of {xs : List Int} {k : Int} : k ∈ xs → ∃ j : Nat, xs[j]? = some k ∧ ∀ m, m < j → xs[m]? ≠ some k := by
  induction xs with
  | nil => intro h; cases h
  | cons x r ih =>
    intro h
    by_cases e : x = k
    · exact ⟨0, by rw [e]; rfl, fun m hm => by omega⟩
    · rcases List.mem_cons.mp h with h | h
      · exact absurd h.symm e
      · obtain ⟨j, h1, h2⟩ := ih h
        refine ⟨j + 1, h1, fun m hm => ?_⟩
        cases m with
        | zero => exact fun z => e (Option.some.inj z)
        | succ m => exact h2 m (by omega)
/-! the program: ones, offs, the worst part -/
def sp_ones (_ : PySem.W.Frag) : Sp := fun vs H Q _ => ∃ (a : Addr) (rs : List Int), vs = [.ref a] ∧ H a = some (.tup (rs.map V.int)) ∧ Q (.int rs.sum) H
theorem ok_ones (T : Defs K mg) : FnOk P w K mg base CX0 1 T.f_ones T.fd_ones ["row"] (sp_ones K) := by
  refine T.F_ones.ok sc_ones (fun vs H Q E h => ?_) (fun cdv A outer s H vs Q E hr h => ?_)
  · obtain ⟨a, rs, rfl, ha, q⟩ := h
    rfl
  · obtain ⟨a, rs, rfl, ha, q⟩ := h
    refine ⟨_, PSs.nox (pss_one (ps_ret (pe_callB (cr_sumT rfl) (by rfl) T.m_sum bt_sum (pa_cons (pv 0) pa_nil)))), ?_⟩
    exact ⟨.ref a, rfl, a, rs, rfl, SqT.mk ha, q⟩
def OL (rs : List Int) (i : Nat) : List V := ((List.range i).map (Df rs)).map V.int
theorem OL_succ (rs : List Int) (i : Nat) : OL rs (i + 1) = OL rs i ++ [.int (Df rs i)] := by
  unfold OL
  rw [List.range_succ, List.map_append, List.map_append]
  rfl
theorem OL_len (rs : List Int) (i : Nat) : (OL rs i).length = i := by
  unfold OL
  rw [List.length_map, List.length_map, List.length_range]
def sp_offs_by (_ : PySem.W.Frag) : Sp := fun vs H Q _ => ∃ (a : Addr) (rs : List Int), vs = [.ref a, .int rs.sum, .int (rs.length : Nat)] ∧ H a = some (.tup (rs.map V.int)) ∧ rs.length ≤ 100000 ∧
  ∀ H' p, Same H H' → H p = none → H' p = some (.lst (OL rs (rs.length + 1))) → Q (.ref p) H'
theorem ok_offs_by (T : Defs K mg) : FnOk P w K mg base CX0 1 T.f_offs_by T.fd_offs_by ["row", "many", "length"] (sp_offs_by K) := by
  refine T.F_offs_by.ok sc_offs_by (fun vs H Q E h => ?_) (fun cdv A outer s H vs Q E hr h => ?_)
  · obtain ⟨a, rs, rfl, ha, hl, q⟩ := h
    rfl
  · obtain ⟨a, rs, rfl, ha, hl, q⟩ := h
    refine ⟨_, PSs.nox (pss_cons (ps_set (i := 3) sc_offs_by.nd rfl (.inl rfl) (pe_lst (pa_cons pe_int pa_nil)))
    (pss_cons (ps_for PassesOwn.never rfl (pi_tup (pv 0)) (pg_name (i := 4) sc_offs_by.nd rfl (.inl rfl)) (pss_one (ps_expr (pe_bm PySem.F.plainAttrs_list PySem.F.slot_list_append PySem.F.type_list_append mt_append (pv 3) (pa_cons (pe_op op_sub (pe_op op_add (pe_ix ix_list (pv 3) (pe_un un_neg pe_int) (fun _ _ => rfl)) (pe_op op_mul (pv 2) (pv 4))) (pv 1)) pa_nil)))))
    (pss_one (ps_ret (pv 3))))), ?_⟩
    have hsl : sizeLine = 16777216 := by decide
    refine ⟨(show 1 ≤ sizeLine by decide), fun p np => ?_⟩
    have s0 : Same H (upd H p (.lst [.int 0])) := same_upd np
    refine ⟨.ref a, rfl, a, rfl, ⟨_, SqT.mk (s0 _ _ ha)⟩, for_tup (xs := rs.map V.int) (fun i σ H1 => ∃ y3, σ = [some (.ref a), some (.int rs.sum), some (.int (rs.length : Nat)), some (.ref p), y3] ∧ Same H H1 ∧ H1 p = some (.lst (OL rs i ++ [.int (Df rs i)]))) ⟨none, rfl, s0, ?_⟩ ?_ ?_ ?_⟩
    · rw [upd_same, Df_zero]
      rfl
    · rintro i σ H1 hi ⟨y3, rfl, s1, hp⟩
      exact SqT.mk (s1 _ _ ha)
    · rintro i x σ H1 hx ⟨y3, rfl, s1, hp⟩
      rw [List.getElem?_map] at hx
      obtain ⟨b, hb, rfl⟩ := Option.map_eq_some_iff.mp hx
      have hi : i < rs.length := (List.getElem?_eq_some_iff.mp hb).1
      have eb : rs.getD (i % rs.length) 0 = b := by
        rw [Nat.mod_eq_of_lt hi, List.getD_eq_getElem?_getD, hb]
        rfl
      refine ⟨.ref p, rfl, .inl ⟨rfl, _, SqL.mk hp⟩, .ref p, rfl, 1, rfl, p, _, _, _, rfl, rfl, SqL.mk hp, atI_last _ _, ?_⟩
      refine ⟨.int (rs.length : Nat), rfl, .int b, rfl, _, _, rfl, rfl, .inl ⟨by omega, by omega⟩, _, _, rfl, rfl, .int rs.sum, rfl, _, _, rfl, rfl, ?_⟩
      have ll : (OL rs i ++ [V.int (Df rs i)]).length = i + 1 := by
        rw [List.length_append, OL_len]
        rfl
      refine ⟨p, _, _, rfl, rfl, hp, by rw [ll]; omega, ?_⟩
      refine ⟨_, rfl, same_newer s1 np, ?_⟩
      rw [upd_same, OL_succ, Df_step, eb]
    · rintro σ H1 ⟨y3, rfl, s1, hp⟩
      rw [List.length_map, ← OL_succ] at hp
      exact ⟨.ref p, rfl, q H1 p s1 np hp⟩
def sp_offs_of (_ : PySem.W.Frag) : Sp := fun vs H Q _ => ∃ (a : Addr) (rs : List Int), vs = [.ref a] ∧ H a = some (.tup (rs.map V.int)) ∧ rs.length ≤ 100000 ∧
  ∀ H' p, Same H H' → H p = none → H' p = some (.lst (OL rs (rs.length + 1))) → Q (.ref p) H'
theorem ok_offs_of (T : Defs K mg) : FnOk P w K mg base CX0 2 T.f_offs_of T.fd_offs_of ["row"] (sp_offs_of K) := by
  have G_offs_by : FnOk P w K mg base CX0 1 T.f_offs_by T.fd_offs_by ["row", "many", "length"] (sp_offs_by K) := ok_offs_by T
  have G_ones : FnOk P w K mg base CX0 1 T.f_ones T.fd_ones ["row"] (sp_ones K) := ok_ones T
  refine T.F_offs_of.ok sc_offs_of (fun vs H Q E h => ?_) (fun cdv A outer s H vs Q E hr h => ?_)
  · obtain ⟨a, rs, rfl, ha, hl, q⟩ := h
    rfl
  · obtain ⟨a, rs, rfl, ha, hl, q⟩ := h
    refine ⟨_, PSs.nox (pss_one (ps_ret (pe_call G_offs_by (hr.mono (by decide)) (by rfl) T.g_offs_by T.F_offs_by.kp T.b_offs_by .nil pass0 (pa_cons (pv 0) (pa_cons (pe_call G_ones (hr.mono (by decide)) (by rfl) T.g_ones T.F_ones.kp T.b_ones .nil pass0 (pa_cons (pv 0) pa_nil)) (pa_cons (pe_callB call_len_seq (by rfl) T.m_len bt_len (pa_cons (pv 0) pa_nil)) pa_nil)))))), ?_⟩
    refine ⟨.ref a, rfl, .ref a, rfl, a, rs, rfl, ha, .ref a, rfl, a, _, rfl, .inr (SqT.mk ha), a, rs, by rw [List.length_map]; rfl, ha, hl, q⟩
theorem s_len {n : Nat} (h : n ≤ 100000) : S 4000 (n : Int) := S.mono (n := 20) (show ((n : Int)).natAbs < 2 ^ 20 by omega) (by decide)
/-! the program: from how many bits on -/
theorem lg60 {j : Int} (h0 : 0 < j) (h1 : j < 2 ^ 60) : j ≠ 0 ∧ j.natAbs.log2 < 9000 := ⟨by omega, (wide_div (i := 0) (j := j) (b := 60) h0 (by omega) (by decide) (by decide)).2⟩
theorem fdv {a j : Int} (h0 : 0 < j) : a.fdiv j = a / j := Int.fdiv_eq_ediv_of_nonneg _ (by omega)
theorem mul_lt {a b c d : Int} (a0 : 0 ≤ a) (h1 : a ≤ c) (b0 : 0 ≤ b) (h2 : b ≤ d) : 0 ≤ a * b ∧ a * b ≤ c * d := ⟨Int.mul_nonneg a0 b0, Int.mul_le_mul h1 h2 b0 (by omega)⟩
def sp_last_beyond (_ : PySem.W.Frag) : Sp := fun vs H Q _ => ∃ (ea : Addr) (o t b : Int) (n m : Nat), vs = [.int o, .int (n : Nat), .int (m : Nat), .ref ea] ∧ H ea = some (.tup [.int t, .int b]) ∧ 0 < t ∧ t < 1073741824 ∧ 0 < b ∧ b < 1073741824 ∧ 1 ≤ m ∧ m ≤ 100000 ∧ Q (.int (lb ((o * b - 1) / (t * m)) n m)) H
theorem ok_last_beyond (T : Defs K mg) : FnOk P w K mg base CX0 1 T.f_last_beyond T.fd_last_beyond ["off", "n", "length", "e"] (sp_last_beyond K) := by
  refine T.F_last_beyond.ok sc_last_beyond (fun vs H Q E h => ?_) (fun cdv A outer s H vs Q E hr h => ?_)
  · obtain ⟨ea, o, t, b, n, m, rfl, he, t0, t1, b0, b1, m0, m1, q⟩ := h
    rfl
  · obtain ⟨ea, o, t, b, n, m, rfl, he, t0, t1, b0, b1, m0, m1, q⟩ := h
    refine ⟨_, PSs.nox (pss_cons (ps_asg (pv 3) (pg_tup rfl (pgs_cons (pg_name (i := 4) sc_last_beyond.nd rfl (.inl rfl)) (pgs_cons (pg_name (i := 5) sc_last_beyond.nd rfl (.inl rfl)) pgs_nil))))
    (pss_cons (ps_set (i := 6) sc_last_beyond.nd rfl (.inl rfl) (pe_op op_fdivNW (pe_op op_sub (pe_op op_mul (pv 0) (pv 5)) pe_int) (pe_op op_mul (pv 4) (pv 2))))
    (pss_cons (ps_if (pt_cmpR op_lt (pv 6) (pv 1) (nomark _)) (pss_one (ps_ret pe_int)) pss_nil)
    (pss_one (ps_ret (pe_op op_sub (pv 6) (pe_op op_mod (pe_op op_sub (pv 6) (pv 1)) (pv 2)))))))), ?_⟩
    have tm := mul_lt (show 0 ≤ t by omega) (show t ≤ 1073741824 by omega) (show 0 ≤ (m : Int) by omega) (show (m : Int) ≤ 100000 by omega)
    have tmp : 0 < t * (m : Int) := Int.mul_pos t0 (by omega)
    refine ⟨.ref ea, rfl, ea, _, rfl, SqT.mk he, rfl, _, _, rfl, _, _, rfl, rfl, ?_⟩
    refine ⟨.int o, rfl, .int b, rfl, _, _, rfl, rfl, .inr ⟨by omega, by omega⟩, _, _, rfl, rfl, .int t, rfl, .int (m : Nat), rfl, _, _, rfl, rfl, .inl ⟨by omega, by omega⟩, _, _, rfl, rfl, lg60 tmp (by omega), ?_⟩
    try dsimp only
    rw [fdv tmp]
    refine ⟨_, rfl, .int (n : Nat), rfl, _, _, rfl, rfl, _, rfl, ite2 (fun e => ?_) (fun e => ?_)⟩
    · have e : (o * b - 1) / (t * (m : Int)) < (n : Int) := of_decide_eq_true e
      unfold lb at q
      rw [if_pos e] at q
      exact q
    · have e : ¬ (o * b - 1) / (t * (m : Int)) < (n : Int) := fun z => e (decide_eq_true z)
      unfold lb at q
      rw [if_neg e] at q
      exact ⟨_, rfl, _, rfl, .int (n : Nat), rfl, _, _, rfl, rfl, .int (m : Nat), rfl, _, _, rfl, rfl, (show (0 : Int) < (m : Int) by omega), _, _, rfl, rfl, q⟩
theorem all_zero {rs : List Int} {t b : Int} (ht : 0 < t) (h1 : 1 ≤ rs.length) (h : ∀ i, i ≤ rs.length → Df rs i = 0) : IsLast (Vi rs t b) 0 := ⟨.inl rfl, fun N _ => Vi_zero (by omega) (by
  have l := Nat.mod_lt N (show 0 < rs.length by omega)
  rw [Df_mod]
  exact h _ (by omega))⟩
def sp_beats_for (_ : PySem.W.Frag) : Sp := fun vs H Q _ => ∃ (a ea : Addr) (rs : List Int) (t b : Int), vs = [.ref a, .ref ea] ∧ H a = some (.tup (rs.map V.int)) ∧ H ea = some (.tup [.int t, .int b]) ∧ 1 ≤ rs.length ∧ rs.length ≤ 100000 ∧ 0 < t ∧ t < 1073741824 ∧ 0 < b ∧ b < 1073741824 ∧
  ∀ H' (L : Nat), Same H H' → IsLast (Vi rs t b) L → Q (.int (1 + (L : Int))) H'
theorem ok_beats_for (T : Defs K mg) : FnOk P w K mg base CX0 3 T.f_beats_for T.fd_beats_for ["row", "e"] (sp_beats_for K) := by
  have G_offs_of : FnOk P w K mg base CX0 2 T.f_offs_of T.fd_offs_of ["row"] (sp_offs_of K) := ok_offs_of T
  have G_last_beyond : FnOk P w K mg base CX0 1 T.f_last_beyond T.fd_last_beyond ["off", "n", "length", "e"] (sp_last_beyond K) := ok_last_beyond T
  refine T.F_beats_for.ok sc_beats_for (fun vs H Q E h => ?_) (fun cdv A outer s H vs Q E hr h => ?_)
  · obtain ⟨a, ea, rs, t, b, rfl, ha, he, h1, hl, t0, t1, b0, b1, q⟩ := h
    rfl
  · obtain ⟨a, ea, rs, t, b, rfl, ha, he, h1, hl, t0, t1, b0, b1, q⟩ := h
    refine ⟨_, PSs.nox (pss_cons (ps_set (i := 2) sc_beats_for.nd rfl (.inr rfl) (pe_lc (own := [("off", 3)]) (g := gName 3) (tt := tYes) rfl sc_beats_for.nd (pi_list (pe_call G_offs_of (hr.mono (by decide)) (by rfl) T.g_offs_of T.F_offs_of.kp T.b_offs_of .nil pass0 (pa_cons (pv 0) pa_nil))) (blkOk_by (N := N_beats_for) (sc := defScope s_beats_for) (by decide +kernel)) (fun _ _ _ _ _ => (pg_name (i := 3) sc_beats_for.nd rfl (.inl rfl))) (fun _ _ _ _ _ => pts_nil) (fun _ _ _ _ _ => (pe_callB call_abs (by rfl) T.m_abs bt_abs (pa_cons (pv 3) pa_nil)))))
    (pss_cons (ps_if (pt_cmpR op_eq (pe_callB (cr_max rfl) (by rfl) T.m_max bt_max (pa_cons (pv 2) pa_nil)) pe_int (nomark _)) (pss_one (ps_ret pe_int)) pss_nil)
    (pss_cons (ps_if (pt_cmpR op_eq (pe_ix ix_tup (pv 1) pe_int (fun _ _ => rfl)) pe_int (nomark _)) (pss_one (ps_ret pe_non)) pss_nil)
    (pss_one (ps_ret (pe_op op_add pe_int (pe_callB (cr_max rfl) (by rfl) T.m_max bt_max (pa_cons (pe_lc (own := [("n", 4)]) (g := gName 4) (tt := tYes) rfl sc_beats_for.nd (pi_range1 (by rfl) T.m_range (pa_cons (pe_callB call_len_seq (by rfl) T.m_len bt_len (pa_cons (pv 0) pa_nil)) pa_nil)) (blkOk_by (N := N_beats_for) (sc := defScope s_beats_for) (by decide +kernel)) (fun _ _ _ _ _ => (pg_name (i := 4) sc_beats_for.nd rfl (.inl rfl))) (fun _ _ _ _ _ => pts_nil) (fun _ _ _ _ _ => (pe_call G_last_beyond (hr.mono (by decide)) (by rfl) T.g_last_beyond T.F_last_beyond.kp T.b_last_beyond .nil pass0 (pa_cons (pe_ix (ixlK (K := K) rfl) (pv 2) (pv 4) (fun _ _ => rfl)) (pa_cons (pv 4) (pa_cons (pe_callB (lenK (K := K) rfl) (by rfl) T.m_len bt_len (pa_cons (pv 0) pa_nil)) (pa_cons (pv 1) pa_nil))))))) pa_nil)))))))), ?_⟩
    have hsl : sizeLine = 16777216 := by decide
    refine ⟨.ref a, rfl, a, rs, rfl, ha, hl, fun H1 p s1 np hp => ?_⟩
    refine ⟨p, rfl, ⟨_, SqL.mk hp⟩, fun D nD => ?_⟩
    refine lc_list (xs := OL rs (rs.length + 1)) (fun i H2 => Same H1 H2 ∧ H2 D = some (.lst (((List.range i).map fun i => ((Df rs i).natAbs : Int)).map V.int))) ⟨same_upd nD, upd_same⟩ (fun i H2 _ h2 => SqL.mk (h2.1 _ _ hp)) (fun i x H2 hx h2 => ?_) (fun H2 h2 => ?_)
    · obtain ⟨s2, hD⟩ := h2
      unfold OL at hx
      have hi := (List.getElem?_eq_some_iff.mp hx).1
      rw [List.length_map, List.length_map, List.length_range] at hi
      rw [List.getElem?_map, List.getElem?_map, List.getElem?_range hi] at hx
      cases hx
      refine ⟨rfl, yes_ite ?_⟩
      refine ⟨_, rfl, _, rfl, _, hD, by rw [List.length_map, List.length_map, List.length_range]; omega, same_newer s2 nD, ?_⟩
      rw [upd_same, List.range_succ, List.map_append, List.map_append, abs_eq]
      rfl
    obtain ⟨s2, hD⟩ := h2
    rw [OL_len] at hD
    have s02 := s1.trans s2
    have at_ : ∀ i, i ≤ rs.length → ((List.range (rs.length + 1)).map (fun i => ((Df rs i).natAbs : Int)))[i]? = some ((Df rs i).natAbs : Int) := fun i hi => by
      rw [List.getElem?_map, List.getElem?_range (by omega)]
      rfl
    refine ⟨.ref D, rfl, D, _, rfl, SqL.mk hD, by rw [List.length_map, List.length_range]; omega, fun w hw hm => ⟨rfl, _, rfl, ite2 (fun e => ?_) (fun e => ?_)⟩⟩
    · have w0 : w = 0 := by
        have := of_decide_eq_true e
        exact V.int.inj this
      refine q H2 0 s02 (all_zero t0 h1 fun i hi => ?_)
      have := hm _ (List.mem_of_getElem? (at_ i hi))
      omega
    refine ⟨.ref ea, rfl, ea, _, 0, _, rfl, rfl, SqT.mk (s02 _ _ he), atI_nat (j := 0) rfl, rfl, _, rfl, ite2 (fun e2 => ?_) (fun _ => ?_)⟩
    · exfalso
      have := V.int.inj (of_decide_eq_true e2)
      omega
    refine ⟨.ref a, rfl, a, _, rfl, .inr (SqT.mk (s02 _ _ ha)), _, rfl, by rw [List.length_map]; omega, by rw [List.length_map]; omega, fun D' nD' => ?_⟩
    refine lc_range (fun i H3 => Same H2 H3 ∧ H3 D' = some (.lst (((List.range i).map fun i => Lb rs t b i).map V.int))) ⟨same_upd nD', upd_same⟩ (fun i H3 hi h3 => ?_) (fun H3 h3 => ?_)
    · obtain ⟨s3, hD3⟩ := h3
      rw [Int.toNat_natCast, List.length_map] at hi
      have s03 := s02.trans s3
      refine ⟨rfl, yes_ite ?_⟩
      refine ⟨.ref D, rfl, .int (0 + (i : Int)), rfl, D, _, _, .int ((Df rs i).natAbs : Int), rfl, rfl, SqL.mk (s3 _ _ hD), ?_, .int (0 + (i : Int)), rfl, .ref a, rfl, a, _, rfl, .inr (SqT.mk (s03 _ _ ha)), .ref ea, rfl, ?_⟩
      · rw [Int.zero_add]
        exact atI_nat (by rw [List.getElem?_map, at_ i (by omega)]; rfl)
      · refine ⟨ea, _, t, b, i, rs.length, by rw [Int.zero_add, List.length_map]; rfl, s03 _ _ he, t0, t1, b0, b1, h1, hl, ?_⟩
        refine ⟨_, hD3, by rw [List.length_map, List.length_map, List.length_range]; omega, same_newer s3 nD', ?_⟩
        rw [upd_same, List.range_succ, List.map_append, List.map_append]
        rfl
    · obtain ⟨s3, hD3⟩ := h3
      rw [Int.toNat_natCast, List.length_map] at hD3
      refine ⟨D', _, rfl, SqL.mk hD3, by rw [List.length_map, List.length_range]; omega, fun M hM hle => ⟨_, _, rfl, rfl, ?_⟩⟩
      obtain ⟨n, hn, eM⟩ := List.mem_map.mp hM
      have M0 : 0 ≤ M := by
        rw [← eM]
        exact lb_nat (by omega)
      obtain ⟨L, rfl⟩ := Int.eq_ofNat_of_zero_le M0
      exact q H3 L (s02.trans s3) (last_of h1 t0 (.inr ⟨n, eM⟩) fun k hk _ => hle _ (List.mem_map.mpr ⟨k, List.mem_range.mpr hk, rfl⟩))
/-! rows of eight ways -/
theorem rp_bits {k : Nat} {x : Int} (hx : x = 0 ∨ x = 1) : Bits (List.replicate k x) := fun y hy => by
  rw [List.eq_of_mem_replicate hy]
  exact hx
theorem ap_bits {xs ys : List Int} (h1 : Bits xs) (h2 : Bits ys) : Bits (xs ++ ys) := fun y hy => by
  rcases List.mem_append.mp hy with z | z
  · exact h1 y z
  · exact h2 y z
theorem nat_of {x : Int} (h : 0 ≤ x) : ∃ m : Nat, x = (m : Nat) := Int.eq_ofNat_of_zero_le h
theorem b01 {c : Prop} [Decidable c] : (if c then (1 : Int) else 0) = 0 ∨ (if c then (1 : Int) else 0) = 1 := by
  split
  · exact .inr rfl
  · exact .inl rfl
def sp__law_row (_ : PySem.W.Frag) : Sp := fun vs H Q _ => ∃ (p : Addr) (m n : Nat), vs = [.ref p, .int (m : Nat)] ∧ Bx H p n ∧ 1 ≤ m ∧ m ≤ 4096 ∧ n < 1000000000 ∧
  ∀ H' a (rs : List Int), But p H H' → Bx H' p (n + 5000) → H' a = some (.tup (rs.map V.int)) → rs.length = m → Bits rs → Q (.ref a) H'
theorem ok__law_row (T : Defs K mg) : FnOk P w K mg base CX0 2 T.f__law_row T.fd__law_row ["_law_box_here", "_law_many"] (sp__law_row K) := by
  have G__law_take : FnOk P w K mg base CX0 1 T.f__law_take T.fd__law_take ["_law_box_here", "_law_many"] (sp__law_take K) := ok__law_take T
  refine T.F__law_row.ok sc__law_row (fun vs H Q E h => ?_) (fun cdv A outer s H vs Q E hr h => ?_)
  · obtain ⟨p, m, n, rfl, hB, hm, hm2, hn, q⟩ := h
    rfl
  · obtain ⟨p, m, n, rfl, hB, hm, hm2, hn, q⟩ := h
    refine ⟨_, PSs.nox (pss_cons (ps_set (i := 2) sc__law_row.nd rfl (.inl rfl) (pe_call G__law_take (hr.mono (by decide)) (by rfl) T.g__law_take T.F__law_take.kp T.b__law_take .nil pass0 (pa_cons (pv 0) (pa_cons pe_int pa_nil))))
    (pss_cons (ps_if (pt_cmpR op_lt (pv 2) pe_int (nomark _)) (pss_one (ps_ret (pe_callTy call_tuple_of (by rfl) T.m_tuple bt_tuple (pa_cons (pe_lc (own := [("_law_k", 6)]) (g := gName 6) (tt := tYes) rfl sc__law_row.nd (pi_range1 (by rfl) T.m_range (pa_cons (pv 1) pa_nil)) (blkOk_by (N := N__law_row) (sc := defScope s__law_row) (by decide +kernel)) (fun _ _ _ _ _ => (pg_name (i := 6) sc__law_row.nd rfl (.inl rfl))) (fun _ _ _ _ _ => pts_nil) (fun _ _ _ _ _ => (pe_call G__law_take (hr.mono (by decide)) (by rfl) T.g__law_take T.F__law_take.kp T.b__law_take .nil pass0 (pa_cons (pv 0) (pa_cons pe_int pa_nil))))) pa_nil)))) pss_nil)
    (pss_cons (ps_if (pt_cmpR op_eq (pv 2) pe_int (nomark _)) (pss_one (ps_ret (pe_op op_repA (pe_tup (pa_cons (pe_call G__law_take (hr.mono (by decide)) (by rfl) T.g__law_take T.F__law_take.kp T.b__law_take .nil pass0 (pa_cons (pv 0) (pa_cons pe_int pa_nil))) pa_nil)) (pv 1)))) pss_nil)
    (pss_cons (ps_asg (pe_tup (pa_cons (pe_call G__law_take (hr.mono (by decide)) (by rfl) T.g__law_take T.F__law_take.kp T.b__law_take .nil pass0 (pa_cons (pv 0) (pa_cons (pe_op op_add (pv 1) pe_int) pa_nil))) (pa_cons (pe_op op_add pe_int (pe_call G__law_take (hr.mono (by decide)) (by rfl) T.g__law_take T.F__law_take.kp T.b__law_take .nil pass0 (pa_cons (pv 0) (pa_cons (pv 1) pa_nil)))) (pa_cons (pe_call G__law_take (hr.mono (by decide)) (by rfl) T.g__law_take T.F__law_take.kp T.b__law_take .nil pass0 (pa_cons (pv 0) (pa_cons (pv 1) pa_nil))) pa_nil)))) (pg_tup rfl (pgs_cons (pg_name (i := 3) sc__law_row.nd rfl (.inr rfl)) (pgs_cons (pg_name (i := 4) sc__law_row.nd rfl (.inr rfl)) (pgs_cons (pg_name (i := 5) sc__law_row.nd rfl (.inr rfl)) pgs_nil)))))
    (pss_cons (ps_if (pt_cmpR op_eq (pv 2) pe_int (nomark _)) (pss_one (ps_ret (pe_op op_catA (pe_op op_repB (pe_tup (pa_cons pe_int pa_nil)) (pv 3)) (pe_op op_repB (pe_tup (pa_cons pe_int pa_nil)) (pe_op op_sub (pv 1) (pv 3)))))) pss_nil)
    (pss_cons (ps_if (pt_cmpR op_eq (pv 2) pe_int (nomark _)) (pss_one (ps_ret (pe_op op_catA (pe_op op_repB (pe_tup (pa_cons pe_int pa_nil)) (pe_op op_sub (pv 1) (pv 3))) (pe_op op_repB (pe_tup (pa_cons pe_int pa_nil)) (pv 3))))) pss_nil)
    (pss_cons (ps_if (pt_cmpR op_eq (pv 2) pe_int (nomark _)) (pss_one (ps_ret (pe_callTy call_tuple_of (by rfl) T.m_tuple bt_tuple (pa_cons (pe_lc (own := [("_law_k", 6)]) (g := gName 6) (tt := tYes) rfl sc__law_row.nd (pi_range1 (by rfl) T.m_range (pa_cons (pv 1) pa_nil)) (blkOk_by (N := N__law_row) (sc := defScope s__law_row) (by decide +kernel)) (fun _ _ _ _ _ => (pg_name (i := 6) sc__law_row.nd rfl (.inl rfl))) (fun _ _ _ _ _ => pts_nil) (fun _ _ _ _ _ => (pe_callTy call_int1 (by rfl) T.m_int bt_int (pa_cons (pe_cmpR op_lt (pe_op op_mod (pe_op op_add (pv 5) (pe_op op_mul (pv 4) (pv 6))) (pv 1)) (pv 3) (nomark _)) pa_nil)))) pa_nil)))) pss_nil)
    (pss_one (ps_ret (pe_callTy call_tuple_of (by rfl) T.m_tuple bt_tuple (pa_cons (pe_lc (own := [("_law_k", 6)]) (g := gName 6) (tt := tYes) rfl sc__law_row.nd (pi_range1 (by rfl) T.m_range (pa_cons (pv 1) pa_nil)) (blkOk_by (N := N__law_row) (sc := defScope s__law_row) (by decide +kernel)) (fun _ _ _ _ _ => (pg_name (i := 6) sc__law_row.nd rfl (.inl rfl))) (fun _ _ _ _ _ => pts_nil) (fun _ _ _ _ _ => (pe_callTy call_int1 (by rfl) T.m_int bt_int (pa_cons (pe_cmpR op_eq (pe_call G__law_take (hr.mono (by decide)) (by rfl) T.g__law_take T.F__law_take.kp T.b__law_take .nil pass0 (pa_cons (pv 0) (pa_cons pe_int pa_nil))) pe_int (nomark _)) pa_nil)))) pa_nil))))))))))), ?_⟩
    refine ⟨.ref p, rfl, p, 8, n, rfl, hB, by decide, by decide, by omega, fun H1 r1 b1 B1 l1 u1 => ?_⟩
    refine ⟨.int r1, rfl, _, _, rfl, rfl, _, rfl, ite2 (fun _ => ?_) (fun _ => ?_)⟩
    · refine ⟨.int (m : Nat), rfl, m, rfl, by omega, by omega, fun D nD => ?_⟩
      refine lc_range (PV p D H1 (n + 1)) (pv_start nD B1) (fun i H5 hi h5 => ?_) (fun H5 h5 => ?_)
      · refine ⟨rfl, yes_ite ?_⟩
        have h5' := h5
        obtain ⟨_, _, _, _, B5, _⟩ := h5'
        refine ⟨.ref p, rfl, p, 2, n + 1 + i, rfl, B5, by decide, by decide, by omega, fun H6 r6 b6 B6 l6 u6 => ?_⟩
        exact pv_step nD (ne_new B1 nD) h5 b6 B6 (by omega) (by omega)
      · obtain ⟨rs, hl, hb, b5, B5, hD⟩ := h5
        refine ⟨D, _, rfl, .inl ⟨SqL.mk hD, fun l nl => ?_⟩⟩
        exact q _ l rs ((b1.trans b5).new nl) ((B5.new nl).mono (by omega)) upd_same (by omega) hb
    refine ⟨.int r1, rfl, rfl, _, rfl, ite2 (fun _ => ?_) (fun _ => ?_)⟩
    · refine ⟨.ref p, rfl, p, 2, n + 1, rfl, B1, by decide, by decide, by omega, fun H2 r2 b2 B2 l2 u2 => ?_⟩
      have hbit : r2 = 0 ∨ r2 = 1 := by omega
      refine ⟨(show 1 ≤ sizeLine by decide), fun t nt => ?_⟩
      refine ⟨.int (m : Nat), rfl, t, m, _, rfl, rfl, SqT.mk upd_same, by simp, hm, (show 1 * m ≤ 1000000 by omega), fun z => ?_, fun z a na => ?_⟩
      · exact q _ t [r2] ((b1.trans b2).new nt) ((B2.new nt).mono (by omega)) upd_same z.symm (fun x hx => by
          rw [List.mem_singleton] at hx
          rw [hx]
          exact hbit)
      · refine q _ a (List.replicate m r2) (((b1.trans b2).new nt).new na) (((B2.new nt).new na).mono (by omega)) ?_ List.length_replicate (rp_bits hbit)
        rw [upd_same, rep_one]
    refine ⟨.ref p, rfl, .int (m : Nat), rfl, _, _, rfl, rfl, p, _, n + 1, rfl, B1, by omega, by omega, by omega, fun H2 r2 b2 B2 l2 u2 => ?_⟩
    refine ⟨.ref p, rfl, .int (m : Nat), rfl, p, m, n + 2, rfl, B2, by omega, by omega, by omega, fun H3 r3 b3 B3 l3 u3 => ⟨_, _, rfl, rfl, ?_⟩⟩
    refine ⟨.ref p, rfl, .int (m : Nat), rfl, p, m, n + 3, rfl, B3, by omega, by omega, by omega, fun H4 r4 b4 B4 l4 u4 => ?_⟩
    obtain ⟨c, rfl⟩ := nat_of l2
    refine ⟨(show 3 ≤ sizeLine by decide), fun t nt => ?_⟩
    refine ⟨t, _, rfl, SqT.mk upd_same, rfl, _, _, rfl, _, _, rfl, _, _, rfl, rfl, ?_⟩
    have B5 := B4.new (o := .tup [.int (c : Nat), .int (1 + r3), .int r4]) nt
    have b5 := (((b1.trans b2).trans b3).trans b4).new (o := .tup [.int (c : Nat), .int (1 + r3), .int r4]) nt
    generalize upd H4 t (.tup [.int (c : Nat), .int (1 + r3), .int r4]) = H5 at *
    refine ⟨.int r1, rfl, rfl, _, rfl, ite2 (fun _ => ?_) (fun _ => ?_)⟩
    · refine ⟨(show 1 ≤ sizeLine by decide), fun t1 n1 => ?_⟩
      refine ⟨.int (c : Nat), rfl, rep_go (k := c) rfl upd_same (by omega) fun G1 p1 s1 hp1 => ?_⟩
      refine ⟨(show 1 ≤ sizeLine by decide), fun t2 n2 => ?_⟩
      refine ⟨.int (m : Nat), rfl, .int (c : Nat), rfl, _, _, rfl, rfl, rep_go (k := m - c) (by omega) upd_same (by omega) fun G2 p2 s2 hp2 => ?_⟩
      refine cat_go (rs := List.replicate c 1) (ss := List.replicate (m - c) 0) (s2 _ _ ((same_upd n2) _ _ hp1)) hp2 (by rw [List.length_replicate, List.length_replicate]; omega) fun G3 o s3 ho => ?_
      have S3 : Same H5 G3 := (((same_upd n1).trans s1).trans ((same_upd n2).trans s2)).trans s3
      exact q G3 o _ (b5.trans (same_but S3)) ((B5.same S3).mono (by omega)) ho (by rw [List.length_append, List.length_replicate, List.length_replicate]; omega) (ap_bits (rp_bits (.inr rfl)) (rp_bits (.inl rfl)))
    refine ⟨.int r1, rfl, rfl, _, rfl, ite2 (fun _ => ?_) (fun _ => ?_)⟩
    · refine ⟨(show 1 ≤ sizeLine by decide), fun t1 n1 => ?_⟩
      refine ⟨.int (m : Nat), rfl, .int (c : Nat), rfl, _, _, rfl, rfl, rep_go (k := m - c) (by omega) upd_same (by omega) fun G1 p1 s1 hp1 => ?_⟩
      refine ⟨(show 1 ≤ sizeLine by decide), fun t2 n2 => ?_⟩
      refine ⟨.int (c : Nat), rfl, rep_go (k := c) rfl upd_same (by omega) fun G2 p2 s2 hp2 => ?_⟩
      refine cat_go (rs := List.replicate (m - c) 0) (ss := List.replicate c 1) (s2 _ _ ((same_upd n2) _ _ hp1)) hp2 (by rw [List.length_replicate, List.length_replicate]; omega) fun G3 o s3 ho => ?_
      have S3 : Same H5 G3 := (((same_upd n1).trans s1).trans ((same_upd n2).trans s2)).trans s3
      exact q G3 o _ (b5.trans (same_but S3)) ((B5.same S3).mono (by omega)) ho (by rw [List.length_append, List.length_replicate, List.length_replicate]; omega) (ap_bits (rp_bits (.inl rfl)) (rp_bits (.inr rfl)))
    refine ⟨.int r1, rfl, rfl, _, rfl, ite2 (fun _ => ?_) (fun _ => ?_)⟩
    · refine ⟨.int (m : Nat), rfl, m, rfl, by omega, by omega, fun D nD => ?_⟩
      refine lc_range (PV p D H5 (n + 4)) (pv_start nD B5) (fun i H6 hi h6 => ?_) (fun H6 h6 => ?_)
      · refine ⟨rfl, yes_ite ?_⟩
        have h6' := h6
        obtain ⟨_, _, _, _, B6, _⟩ := h6'
        have st : ∀ x : Int, (x = 0 ∨ x = 1) → _ := fun x hx => pv_step (H4 := H6) nD (ne_new B5 nD) h6 (But.refl p H6) (B6.mono (by omega)) (by omega) hx
        refine ⟨.int r4, rfl, .int (1 + r3), rfl, _, rfl, _, _, rfl, rfl, .inl ⟨by omega, by omega⟩, _, _, rfl, rfl, .int (m : Nat), rfl, _, _, rfl, rfl, (show (0 : Int) < (m : Int) by omega), .int (c : Nat), rfl, _, _, rfl, rfl, .inr ⟨_, rfl, st _ b01⟩⟩
      · obtain ⟨rs, hl, hb, b6, B6, hD⟩ := h6
        refine ⟨D, _, rfl, .inl ⟨SqL.mk hD, fun l nl => ?_⟩⟩
        exact q _ l rs ((b5.trans b6).new nl) ((B6.new nl).mono (by omega)) upd_same (by omega) hb
    · refine ⟨.int (m : Nat), rfl, m, rfl, by omega, by omega, fun D nD => ?_⟩
      refine lc_range (PV p D H5 (n + 4)) (pv_start nD B5) (fun i H6 hi h6 => ?_) (fun H6 h6 => ?_)
      · refine ⟨rfl, yes_ite ?_⟩
        have h6' := h6
        obtain ⟨_, _, _, _, B6, _⟩ := h6'
        refine ⟨.ref p, rfl, p, 9, n + 4 + i, rfl, B6, by decide, by decide, by omega, fun H7 r7 b7 B7 l7 u7 => ⟨rfl, .inr ⟨_, rfl, ?_⟩⟩⟩
        exact pv_step nD (ne_new B5 nD) h6 b7 B7 (by omega) b01
      · obtain ⟨rs, hl, hb, b6, B6, hD⟩ := h6
        refine ⟨D, _, rfl, .inl ⟨SqL.mk hD, fun l nl => ?_⟩⟩
        exact q _ l rs ((b5.trans b6).new nl) ((B6.new nl).mono (by omega)) upd_same (by omega) hb
/-! the law's lowest terms -/
def sp__law_lowest (_ : PySem.W.Frag) : Sp := fun vs H Q _ => ∃ t b : Int, vs = [.int t, .int b] ∧ 0 ≤ t ∧ 0 < b ∧ S 4000 b ∧ ∀ H' p, Same H H' → H p = none → H' p = some (.tup [.int (frT t b), .int (frB t b)]) → Q (.ref p) H'
theorem ok__law_lowest (T : Defs K mg) : FnOk P w K mg base CX0 1 T.f__law_lowest T.fd__law_lowest ["_law_top", "_law_bottom"] (sp__law_lowest K) := by
  refine T.F__law_lowest.ok sc__law_lowest (fun vs H Q E h => ?_) (fun cdv A outer s H vs Q E hr h => ?_)
  · obtain ⟨t, b, rfl, ht, hb, hs, q⟩ := h
    rfl
  · obtain ⟨t, b, rfl, ht, hb, hs, q⟩ := h
    refine ⟨_, PSs.nox (pss_cons (ps_par (i := 2) (j := 3) (by rfl) sc__law_lowest.nd rfl rfl (by decide) rfl rfl (pa_cons (pv 0) (pa_cons (pv 1) pa_nil)) (by rfl))
    (pss_cons (ps_while PassesOwn.never (pt_cmpR op_gt (pv 3) pe_int (nomark _)) (pss_one (ps_par (i := 2) (j := 3) (by rfl) sc__law_lowest.nd rfl rfl (by decide) rfl rfl (pa_cons (pv 3) (pa_cons (pe_op op_mod (pv 2) (pv 3)) pa_nil)) (by rfl))))
    (pss_one (ps_ret (pe_tup (pa_cons (pe_op op_fdivNW (pv 0) (pv 2)) (pa_cons (pe_op op_fdivNW (pv 1) (pv 2)) pa_nil))))))), ?_⟩
    refine ⟨.int t, rfl, .int b, rfl, _, _, rfl, ?_⟩
    refine while_by (fun σ H1 => H1 = H ∧ ∃ x y : Nat, σ = [some (.int t), some (.int b), some (.int (x : Nat)), some (.int (y : Nat))] ∧ Nat.gcd x y = Int.gcd t b) (fun σ _ => match σ with | [_, _, _, some (.int y)] => y.toNat | _ => 0) ⟨rfl, t.natAbs, b.natAbs, ?_, rfl⟩ ?_ ?_
    · rw [Int.natAbs_of_nonneg ht, Int.natAbs_of_nonneg (Int.le_of_lt hb)]
      rfl
    · rintro σ H1 ⟨rfl, x, y, rfl, hg⟩
      refine ⟨.int (y : Nat), rfl, _, _, rfl, rfl, _, rfl, ite2 (fun e => ?_) (fun e => ?_)⟩
      · have hy : (0 : Int) < (y : Int) := of_decide_eq_true e
        refine ⟨.int (y : Nat), rfl, .int (x : Nat), rfl, .int (y : Nat), rfl, _, _, rfl, rfl, hy, _, _, rfl, ⟨rfl, y, x % y, ?_, ?_⟩, ?_⟩
        · rfl
        · rw [gcd_step, hg]
        · show ((x : Int) % (y : Int)).toNat < ((y : Int)).toNat
          have := Int.emod_lt_of_pos (x : Int) hy
          have := Int.emod_nonneg (x : Int) (show (y : Int) ≠ 0 by omega)
          omega
      · have hy : ¬ (0 : Int) < (y : Int) := fun z => e (decide_eq_true z)
        have y0 : y = 0 := by omega
        subst y0
        rw [Nat.gcd_zero_right] at hg
        subst hg
        have hp : 0 < Int.gcd t b := Int.gcd_pos_of_ne_zero_right t (by omega)
        have hd := gcd_small (t := t) (show b ≠ 0 by omega) hs
        refine ⟨.int t, rfl, .int (Int.gcd t b : Nat), rfl, _, _, rfl, rfl, ⟨by omega, hd⟩, .int b, rfl, .int (Int.gcd t b : Nat), rfl, _, _, rfl, rfl, ⟨by omega, hd⟩, (show 2 ≤ sizeLine by decide), fun p np => ?_⟩
        refine q _ p (same_upd np) np ?_
        rw [upd_same]
        exact congrArg some (by rw [← (fr_ge t hb).1, ← (fr_ge t hb).2])
    · rintro σ H1 Q1 Q2 hQ ⟨v, hv, i, j, e1, e2, k, e3, h3⟩
      exact ⟨v, hv, i, j, e1, e2, k, e3, hQ _ _ h3⟩
/-! a row's begin -/
theorem slice_take {K : PySem.W.Frag} {H : Hp} {a : Addr} {rs : List Int} {b : Nat} {Q : VK} (ha : H a = some (.tup (rs.map V.int))) (hb : b ≤ rs.length)
    (q : ∀ H' p, Same H H' → H' p = some (.tup ((rs.take b).map V.int)) → Q (.ref p) H') : rSlA K (.ref a) none (some (b : Int)) H Q := by
  refine ⟨a, _, rfl, SqT.mk ha, fun z => ?_, fun z p np => ?_⟩
  · have z1 := z.2
    rw [HT.sIx_nat, List.length_map] at z1
    refine q H a (Same.refl H) ?_
    rw [List.take_of_length_le (by omega)]
    exact ha
  · refine q _ p (same_upd np) ?_
    rw [upd_same, cut_take]
theorem bits_sum : ∀ (r : List Int), Bits r → 0 ≤ r.sum ∧ r.sum ≤ r.length
  | [], _ => ⟨Int.le_refl 0, Int.le_refl 0⟩
  | x :: r, h => by
    have ih := bits_sum r fun y hy => h y (List.mem_cons_of_mem _ hy)
    have hx := h x List.mem_cons_self
    rw [List.sum_cons, List.length_cons]
    omega
/-! the law's shares -/
theorem fr_top {t b : Int} (ht : 0 < t) (hb : 0 < b) : 0 < frT t b := by
  have e := fr_eq t (show b ≠ 0 by omega)
  have p := fr_pos t (show b ≠ 0 by omega)
  have h : 0 < frT t b * b := by
    rw [e]
    exact Int.mul_pos ht p
  exact Int.pos_of_mul_pos_left h hb
def sp__law_share (_ : PySem.W.Frag) : Sp := fun vs H Q _ => ∃ (p a : Addr) (rs : List Int) (n : Nat), vs = [.ref p, .ref a] ∧ Bx H p n ∧ H a = some (.tup (rs.map V.int)) ∧ 1 ≤ rs.length ∧ rs.length ≤ 4096 ∧ Bits rs ∧ n < 1000000000 ∧
  ∀ H' ea t b, But p H H' → Bx H' p (n + 10) → H' ea = some (.tup [.int t, .int b]) → 0 < t → t < 1073741824 → 0 < b → b < 1073741824 → Q (.ref ea) H'
theorem ok__law_share (T : Defs K mg) : FnOk P w K mg base CX0 2 T.f__law_share T.fd__law_share ["_law_box_here", "_law_row_here"] (sp__law_share K) := by
  have G__law_lowest : FnOk P w K mg base CX0 1 T.f__law_lowest T.fd__law_lowest ["_law_top", "_law_bottom"] (sp__law_lowest K) := ok__law_lowest T
  have G__law_take : FnOk P w K mg base CX0 1 T.f__law_take T.fd__law_take ["_law_box_here", "_law_many"] (sp__law_take K) := ok__law_take T
  refine T.F__law_share.ok sc__law_share (fun vs H Q E h => ?_) (fun cdv A outer s H vs Q E hr h => ?_)
  · obtain ⟨p, a, rs, n, rfl, hB, ha, h1, hl, hb, hn, q⟩ := h
    rfl
  · obtain ⟨p, a, rs, n, rfl, hB, ha, h1, hl, hb, hn, q⟩ := h
    refine ⟨_, PSs.nox (pss_cons (ps_par (i := 2) (j := 3) (by rfl) sc__law_share.nd rfl rfl (by decide) rfl rfl (pa_cons (pe_call G__law_take (hr.mono (by decide)) (by rfl) T.g__law_take T.F__law_take.kp T.b__law_take .nil pass0 (pa_cons (pv 0) (pa_cons pe_int pa_nil))) (pa_cons (pe_op op_add pe_int (pe_call G__law_take (hr.mono (by decide)) (by rfl) T.g__law_take T.F__law_take.kp T.b__law_take .nil pass0 (pa_cons (pv 0) (pa_cons (pe_callB call_len_seq (by rfl) T.m_len bt_len (pa_cons (pv 1) pa_nil)) pa_nil)))) pa_nil)) (by rfl))
    (pss_cons (ps_set (i := 4) sc__law_share.nd rfl (.inl rfl) (pe_callB call_abs (by rfl) T.m_abs bt_abs (pa_cons (pe_op op_sub (pe_op op_mul (pe_callB (cr_sumT rfl) (by rfl) T.m_sum bt_sum (pa_cons (pe_slice sl_tupA (pv 1) po_none (po_some (pv 3))) pa_nil)) (pe_callB call_len_seq (by rfl) T.m_len bt_len (pa_cons (pv 1) pa_nil))) (pe_op op_mul (pv 3) (pe_callB (cr_sumT rfl) (by rfl) T.m_sum bt_sum (pa_cons (pv 1) pa_nil)))) pa_nil)))
    (pss_cons (ps_if (PW.pt (pw_and (pt_cmpR op_lt (pv 2) pe_int (nomark _)) (pw_and1 (pt_cmpR op_gt (pv 4) pe_int (nomark _))))) (pss_cons (ps_par (i := 5) (j := 6) (by rfl) sc__law_share.nd rfl rfl (by decide) rfl rfl (pa_cons (pv 4) (pa_cons (pe_op op_mul (pv 3) (pe_callB call_len_seq (by rfl) T.m_len bt_len (pa_cons (pv 1) pa_nil))) pa_nil)) (by rfl))
    (pss_cons (ps_if (pt_cmpR op_eq (pv 2) pe_int (nomark _)) (pss_one (ps_par (i := 5) (j := 6) (by rfl) sc__law_share.nd rfl rfl (by decide) rfl rfl (pa_cons (pe_op op_add (pe_op op_mul (pv 5) pe_int) pe_int) (pa_cons (pe_op op_mul (pv 6) pe_int) pa_nil)) (by rfl))) pss_nil)
    (pss_one (ps_if (PW.pt (pw_and (pt_cmpR op_ge (pe_op op_mul (pv 5) pe_int) (pv 6) (nomark _)) (pw_and1 (pt_cmpR op_le (pv 5) (pv 6) (nomark _))))) (pss_one (ps_ret (pe_call G__law_lowest (hr.mono (by decide)) (by rfl) T.g__law_lowest T.F__law_lowest.kp T.b__law_lowest .nil pass0 (pa_cons (pv 5) (pa_cons (pv 6) pa_nil))))) pss_nil)))) pss_nil)
    (pss_cons (ps_set (i := 6) sc__law_share.nd rfl (.inl rfl) (pe_ix ix_list (pe_lst (pa_cons (pe_op op_add pe_int (pe_call G__law_take (hr.mono (by decide)) (by rfl) T.g__law_take T.F__law_take.kp T.b__law_take .nil pass0 (pa_cons (pv 0) (pa_cons pe_int pa_nil)))) (pa_cons (pe_op op_add pe_int (pe_call G__law_take (hr.mono (by decide)) (by rfl) T.g__law_take T.F__law_take.kp T.b__law_take .nil pass0 (pa_cons (pv 0) (pa_cons pe_int pa_nil)))) (pa_cons pe_int pa_nil)))) (pe_call G__law_take (hr.mono (by decide)) (by rfl) T.g__law_take T.F__law_take.kp T.b__law_take .nil pass0 (pa_cons (pv 0) (pa_cons pe_int pa_nil))) (fun _ _ => rfl)))
    (pss_one (ps_ret (pe_call G__law_lowest (hr.mono (by decide)) (by rfl) T.g__law_lowest T.F__law_lowest.kp T.b__law_lowest .nil pass0 (pa_cons (pe_ix ix_list (pe_lst (pa_cons pe_int (pa_cons pe_int (pa_cons (pe_op op_add pe_int (pe_call G__law_take (hr.mono (by decide)) (by rfl) T.g__law_take T.F__law_take.kp T.b__law_take .nil pass0 (pa_cons (pv 0) (pa_cons (pv 6) pa_nil)))) pa_nil)))) (pe_call G__law_take (hr.mono (by decide)) (by rfl) T.g__law_take T.F__law_take.kp T.b__law_take .nil pass0 (pa_cons (pv 0) (pa_cons pe_int pa_nil))) (fun _ _ => rfl)) (pa_cons (pv 6) pa_nil))))))))), ?_⟩
    have e4 : ((rs.map V.int).length : Int) = (rs.length : Int) := by rw [List.length_map]
    refine ⟨.ref p, rfl, p, 5, n, rfl, hB, by decide, by decide, by omega, fun H1 r1 b1 B1 l1 u1 => ?_⟩
    have ha1 := b1 _ _ (hB.ne_tup ha) ha
    refine ⟨.ref p, rfl, .ref a, rfl, a, _, rfl, .inr (SqT.mk ha1), p, rs.length, n + 1, by rw [List.length_map]; rfl, B1, by omega, by omega, by omega, fun H2 r2 b2 B2 l2 u2 => ⟨_, _, rfl, rfl, _, _, rfl, ?_⟩⟩
    have ha2 := b2 _ _ (B1.ne_tup ha1) ha1
    obtain ⟨pl, hpl⟩ : ∃ m : Nat, 1 + r2 = (m : Nat) := ⟨(1 + r2).toNat, by omega⟩
    try dsimp only
    rw [hpl]
    have pl1 : 1 ≤ pl := by omega
    have pl2 : pl ≤ rs.length := by omega
    have b02 := b1.trans b2
    -- off
    refine ⟨.ref a, rfl, ?_⟩
    dsimp only [tNoPart]
    refine ⟨.int (pl : Nat), rfl, (pl : Nat), rfl, ?_⟩
    refine slice_take (K := K) (b := pl) ha2 pl2 fun H3 p3 s3 hp3 => ?_
    have ha3 := s3 _ _ ha2
    have s01 := bits_sum rs hb
    have bt : Bits (rs.take pl) := fun x hx => hb x (List.mem_of_mem_take hx)
    have s02 := bits_sum (rs.take pl) bt
    have lt : (rs.take pl).length = pl := by
      rw [List.length_take]
      omega
    rw [lt] at s02
    refine ⟨p3, _, rfl, SqT.mk hp3, .ref a, rfl, a, _, rfl, .inr (SqT.mk ha3), _, _, rfl, rfl, .inl ⟨by omega, by omega⟩, .int (pl : Nat), rfl, .ref a, rfl, a, rs, rfl, SqT.mk ha3, _, _, rfl, rfl, .inl ⟨by omega, by omega⟩, _, _, rfl, rfl, _, rfl, ?_⟩
    try dsimp only
    rw [abs_eq, e4]
    have m1 := mul_lt s02.1 (show (rs.take pl).sum ≤ 4096 by omega) (show 0 ≤ (rs.length : Int) by omega) (show (rs.length : Int) ≤ 4096 by omega)
    have m2 := mul_lt (show 0 ≤ (pl : Int) by omega) (show (pl : Int) ≤ 4096 by omega) s01.1 (show rs.sum ≤ 4096 by omega)
    have m3 := mul_lt (show 0 ≤ (pl : Int) by omega) (show (pl : Int) ≤ 4096 by omega) (show 0 ≤ (rs.length : Int) by omega) (show (rs.length : Int) ≤ 4096 by omega)
    have m3p : 0 < (pl : Int) * (rs.length : Int) := Int.mul_pos (by omega) (by omega)
    obtain ⟨o, ho⟩ : ∃ o : Int, ((((rs.take pl).sum * (rs.length : Int) - (pl : Int) * rs.sum).natAbs : Nat) : Int) = o := ⟨_, rfl⟩
    have o0 : 0 ≤ o := by omega
    have o1 : o ≤ 16777216 := by omega
    rw [ho]
    have b03 : But p H H3 := b02.trans (same_but s3)
    have B3 : Bx H3 p (n + 2) := B2.same s3
    clear ho m1 m2 hp3 s3 ha1 ha2 B1 B2 b1 b2 b02 bt s02 lt
    have s4 : ∀ x : Int, 0 < x → x < 1073741824 → S 4000 x := fun x h0 h1 => S.mono (n := 30) (show x.natAbs < 2 ^ 30 by omega) (by decide)
    have low : ∀ x y : Int, 0 < x → x < 1073741824 → 0 < y → y < 1073741824 → 0 < frT x y ∧ frT x y < 1073741824 ∧ 0 < frB x y ∧ frB x y < 1073741824 := fun x y x0 x1 y0 y1 => by
      have a1 := fr_absT x (show y ≠ 0 by omega)
      have a2 := fr_absB x (show y ≠ 0 by omega)
      have a3 := fr_top x0 y0
      have a4 := fr_pos x (show y ≠ 0 by omega)
      omega
    refine ⟨.int r1, rfl, _, _, rfl, rfl, _, rfl, ite2 (fun _ => ?_) (fun _ => iteF ?_)⟩
    refine ⟨.int o, rfl, _, _, rfl, rfl, _, rfl, ite2 (fun e => ?_) (fun _ => ?_)⟩
    have op : 0 < o := of_decide_eq_true e
    refine ⟨.int o, rfl, .int (pl : Nat), rfl, .ref a, rfl, a, _, rfl, .inr (SqT.mk ha3), _, _, rfl, rfl, .inl ⟨by omega, by omega⟩, _, _, rfl, ?_⟩
    try dsimp only
    rw [e4]
    refine ⟨.int r1, rfl, rfl, _, rfl, ite2 (fun _ => ?_) (fun _ => ?_)⟩
    refine ⟨.int o, rfl, _, _, rfl, rfl, .inr ⟨by decide, by decide⟩, _, _, rfl, rfl, _, rfl, _, _, rfl, rfl, .inr ⟨by decide, by decide⟩, _, _, rfl, ?_⟩
    obtain ⟨T, hT⟩ : ∃ T, o * 3 + 1 = T := ⟨_, rfl⟩
    obtain ⟨W, hW⟩ : ∃ W, (pl : Int) * (rs.length : Int) * 3 = W := ⟨_, rfl⟩
    try dsimp only
    rw [hT, hW]
    have T0 : 0 < T ∧ T < 1073741824 ∧ 0 < W ∧ W < 1073741824 := by omega
    rotate_left
    obtain ⟨W, hW⟩ : ∃ W, (pl : Int) * (rs.length : Int) = W := ⟨_, rfl⟩
    rw [hW]
    obtain ⟨T, rfl⟩ : ∃ T, T = o := ⟨o, rfl⟩
    have T0 : 0 < T ∧ T < 1073741824 ∧ 0 < W ∧ W < 1073741824 := by omega
    rotate_right
    iterate 2
      refine ⟨.int T, rfl, _, _, rfl, rfl, .inr ⟨by decide, by decide⟩, .int W, rfl, _, _, rfl, rfl, _, rfl, ite2 (fun _ => ?_) (fun _ => iteF ?_)⟩
      refine ⟨.int T, rfl, .int W, rfl, _, _, rfl, rfl, _, rfl, ite2 (fun _ => ?_) (fun _ => ?_)⟩
      refine ⟨.int T, rfl, .int W, rfl, T, W, rfl, by omega, by omega, s4 W (by omega) (by omega), fun H9 ea s9 ne9 he9 => ?_⟩
      obtain ⟨z1, z2, z3, z4⟩ := low T W (by omega) (by omega) (by omega) (by omega)
      exact q H9 ea _ _ (b03.trans (same_but s9)) ((B3.same s9).mono (by omega)) he9 z1 z2 z3 z4
      rotate_left 2
    all_goals
      refine ⟨.ref p, rfl, p, 1000, n + 2, rfl, B3, by decide, by decide, by omega, fun H4 r4 b4 B4 l4 u4 => ⟨_, _, rfl, rfl, ?_⟩⟩
      refine ⟨.ref p, rfl, p, 30, n + 3, rfl, B4, by decide, by decide, by omega, fun H5 r5 b5 B5 l5 u5 => ⟨_, _, rfl, rfl, ?_⟩⟩
      refine ⟨(show 3 ≤ sizeLine by decide), fun l nl => ?_⟩
      refine ⟨.ref p, rfl, p, 3, n + 4, rfl, B5.new nl, by decide, by decide, by omega, fun H6 r6 b6 B6 l6 u6 => ?_⟩
      obtain ⟨v, ev, hv⟩ := at_menu (Pr := fun v => 1 ≤ v ∧ v ≤ 1000) (xs := [1 + r4, 1 + r5, 1000]) l6 u6 (fun x hx => by
        rcases List.mem_cons.mp hx with rfl | hx
        · omega
        rcases List.mem_cons.mp hx with rfl | hx
        · omega
        rcases List.mem_cons.mp hx with rfl | hx
        · omega
        · cases hx)
      refine ⟨l, _, _, _, rfl, rfl, SqL.mk (b6 _ _ (ne_new B5 nl) upd_same), ev, ?_⟩
      refine ⟨.ref p, rfl, .int v, rfl, p, v, n + 5, rfl, B6, by omega, by omega, by omega, fun H7 r7 b7 B7 l7 u7 => ⟨_, _, rfl, rfl, ?_⟩⟩
      refine ⟨(show 3 ≤ sizeLine by decide), fun l' nl' => ?_⟩
      refine ⟨.ref p, rfl, p, 3, n + 6, rfl, B7.new nl', by decide, by decide, by omega, fun H8 r8 b8 B8 l8 u8 => ?_⟩
      obtain ⟨v', ev', hv'⟩ := at_menu (Pr := fun x => 1 ≤ x ∧ x ≤ 1001) (xs := [1, 1, 1 + r7]) l8 u8 (fun x hx => by
        rcases List.mem_cons.mp hx with rfl | hx
        · omega
        rcases List.mem_cons.mp hx with rfl | hx
        · omega
        rcases List.mem_cons.mp hx with rfl | hx
        · omega
        · cases hx)
      refine ⟨l', _, _, _, rfl, rfl, SqL.mk (b8 _ _ (ne_new B7 nl') upd_same), ev', .int v, rfl, v', v, rfl, by omega, by omega, s4 v (by omega) (by omega), fun H9 ea s9 ne9 he9 => ?_⟩
      obtain ⟨z1, z2, z3, z4⟩ := low v' v (by omega) (by omega) (by omega) (by omega)
      exact q H9 ea _ _ ((((((b03.trans b4).trans b5).new nl).trans (b6.trans b7)).new nl').trans (b8.trans (same_but s9))) ((B8.same s9).mono (by omega)) he9 z1 z2 z3 z4
/-! the law's own counting -/
theorem at_mod {rs : List Int} {n L : Nat} {x : Int} (hL : rs.length = L) (h1 : 0 < L) (hx : x = (n : Int)) : atI (rs.map V.int) ((1 + (x : Int) - 1) % (L : Int)) = some (.int (rs.getD (n % rs.length) 0)) := by
  subst hx hL
  have e : (1 + (n : Int) - 1) % (rs.length : Int) = ((n % rs.length : Nat) : Int) := by
    rw [show (1 + (n : Int) - 1) = (n : Int) by omega]
    omega
  rw [e]
  have hl := Nat.mod_lt n h1
  exact atI_nat (by rw [List.getElem?_map, List.getElem?_eq_getElem hl, List.getD_eq_getElem?_getD, List.getElem?_eq_getElem hl]; rfl)
def sp__law_due (_ : PySem.W.Frag) : Sp := fun vs H Q _ => ∃ (a ea : Addr) (rs : List Int) (t b : Int), vs = [.ref a, .ref ea] ∧ H a = some (.tup (rs.map V.int)) ∧ H ea = some (.tup [.int t, .int b]) ∧ 1 ≤ rs.length ∧ rs.length ≤ 4096 ∧ Bits rs ∧ 0 < t ∧ t < 1073741824 ∧ 0 < b ∧ b < 1073741824 ∧
  ∀ H' (L : Nat), Same H H' → IsLast (Vi rs t b) L → Q (.int (1 + (L : Int))) H'
theorem ok__law_due (T : Defs K mg) : FnOk P w K mg base CX0 1 T.f__law_due T.fd__law_due ["_law_row_here", "_law_e"] (sp__law_due K) := by
  refine T.F__law_due.ok sc__law_due (fun vs H Q E h => ?_) (fun cdv A outer s H vs Q E hr h => ?_)
  · obtain ⟨a, ea, rs, t, b, rfl, ha, he, h1, hl, hb, t0, t1, b0, b1, q⟩ := h
    rfl
  · obtain ⟨a, ea, rs, t, b, rfl, ha, he, h1, hl, hb, t0, t1, b0, b1, q⟩ := h
    refine ⟨_, PSs.nox (pss_cons (ps_asg (pe_tup (pa_cons (pe_callB (cr_sumT rfl) (by rfl) T.m_sum bt_sum (pa_cons (pv 0) pa_nil)) (pa_cons (pe_callB call_len_seq (by rfl) T.m_len bt_len (pa_cons (pv 0) pa_nil)) (pa_cons pe_int (pa_cons pe_int pa_nil))))) (pg_tup rfl (pgs_cons (pg_name (i := 2) sc__law_due.nd rfl (.inl rfl)) (pgs_cons (pg_name (i := 3) sc__law_due.nd rfl (.inl rfl)) (pgs_cons (pg_name (i := 4) sc__law_due.nd rfl (.inl rfl)) (pgs_cons (pg_name (i := 5) sc__law_due.nd rfl (.inl rfl)) pgs_nil))))))
    (pss_cons (ps_for PassesOwn.never rfl (pi_range2 (by rfl) T.m_range (pa_cons pe_int (pa_cons (pe_op op_add (pe_op op_add (pe_op op_fdiv (pe_op op_mul (pe_op op_add (pe_op op_fdiv (pv 3) pe_int) pe_int) (pe_ix ix_tup (pv 1) pe_int (fun _ _ => rfl))) (pe_ix ix_tup (pv 1) pe_int (fun _ _ => rfl))) (pv 3)) pe_int) pa_nil))) (pg_name (i := 6) sc__law_due.nd rfl (.inl rfl)) (pss_cons (ps_set (i := 4) sc__law_due.nd rfl (.inl rfl) (pe_op op_add (pv 4) (pe_ix ix_tup (pv 0) (pe_op op_mod (pe_op op_sub (pv 6) pe_int) (pv 3)) (fun _ _ => rfl))))
    (pss_one (ps_if (pt_cmpR op_gt (pe_op op_mul (pe_callB call_abs (by rfl) T.m_abs bt_abs (pa_cons (pe_op op_sub (pe_op op_mul (pv 4) (pv 3)) (pe_op op_mul (pv 6) (pv 2))) pa_nil)) (pe_ix ix_tup (pv 1) pe_int (fun _ _ => rfl))) (pe_op op_mul (pe_op op_mul (pe_ix ix_tup (pv 1) pe_int (fun _ _ => rfl)) (pv 6)) (pv 3)) (nomark _)) (pss_one (ps_set (i := 5) sc__law_due.nd rfl (.inl rfl) (pv 6))) pss_nil))))
    (pss_one (ps_ret (pe_op op_add (pv 5) pe_int))))), ?_⟩
    refine ⟨.ref a, rfl, a, rs, rfl, SqT.mk ha, .ref a, rfl, a, _, rfl, .inr (SqT.mk ha), (show 4 ≤ sizeLine by decide), fun tt nt => ?_⟩
    refine ⟨tt, _, rfl, SqT.mk upd_same, rfl, _, _, rfl, _, _, rfl, _, _, rfl, _, _, rfl, rfl, ?_⟩
    rw [List.length_map]
    have s1 : Same H (upd H tt (.tup [.int rs.sum, .int (rs.length : Nat), .int 0, .int 0])) := same_upd nt
    generalize upd H tt (.tup [.int rs.sum, .int (rs.length : Nat), .int 0, .int 0]) = H1 at s1 ⊢
    have ha1 := s1 _ _ ha
    have he1 := s1 _ _ he
    have sm := bits_sum rs hb
    have c1 := mul_lt (show 0 ≤ (rs.length : Int) / 4 + 2 by omega) (show (rs.length : Int) / 4 + 2 ≤ 2048 by omega) (show 0 ≤ b by omega) (show b ≤ 1073741824 by omega)
    have c2 : 0 ≤ ((rs.length : Int) / 4 + 2) * b / t := Int.ediv_nonneg c1.1 (by omega)
    have c3 : ((rs.length : Int) / 4 + 2) * b / t ≤ 2048 * 1073741824 := Int.le_trans (Int.ediv_le_self _ c1.1) c1.2
    refine ⟨.int (rs.length : Nat), rfl, _, _, rfl, rfl, ⟨by decide, by decide⟩, _, _, rfl, rfl, .ref ea, rfl, ea, _, 1, _, rfl, rfl, SqT.mk he1, atI_nat (j := 1) rfl, _, _, rfl, rfl, .inl ⟨by omega, by omega⟩, .ref ea, rfl, ea, _, 0, _, rfl, rfl, SqT.mk he1, atI_nat (j := 0) rfl, _, _, rfl, rfl, ⟨t0, t1⟩, .int (rs.length : Nat), rfl, _, _, rfl, rfl, _, _, rfl, rfl, _, _, rfl, ⟨by decide, by decide, by omega, by omega⟩, ?_⟩
    refine for_range (fun i σ G => ∃ y6, ∃ L : Nat, σ = [some (.ref a), some (.ref ea), some (.int rs.sum), some (.int (rs.length : Nat)), some (.int (cn rs i)), some (.int (L : Nat)), y6] ∧ G = H1 ∧ L ≤ i ∧ (L = 0 ∨ Vi rs t b L) ∧ ∀ N, L < N → N ≤ i → ¬ Vi rs t b N) ⟨none, 0, rfl, rfl, Nat.le_refl 0, .inl rfl, fun N h2 h3 => by omega⟩ ?_ ?_
    · rintro i σ G hi ⟨y6, L, rfl, rfl, hL, hv, hno⟩
      refine ⟨.int (cn rs i), rfl, .ref a, rfl, .int (1 + (i : Int)), rfl, _, _, rfl, rfl, .int (rs.length : Nat), rfl, _, _, rfl, rfl, (show (0 : Int) < (rs.length : Int) by omega), a, _, _, _, rfl, rfl, SqT.mk ha1, at_mod rfl (by omega) rfl, _, _, rfl, rfl, ?_⟩
      refine ⟨.int (cn rs (i + 1)), rfl, .int (rs.length : Nat), rfl, _, _, rfl, rfl, .inr ⟨by omega, by omega⟩, .int (1 + (i : Int)), rfl, .int rs.sum, rfl, _, _, rfl, rfl, .inr ⟨by omega, by omega⟩, _, _, rfl, rfl, _, rfl, .ref ea, rfl, ea, _, 1, _, rfl, rfl, SqT.mk he1, atI_nat (j := 1) rfl, _, _, rfl, rfl, .inr ⟨by omega, by omega⟩, .ref ea, rfl, ea, _, 0, _, rfl, rfl, SqT.mk he1, atI_nat (j := 0) rfl, .int (1 + (i : Int)), rfl, _, _, rfl, rfl, .inl ⟨by omega, by omega⟩, .int (rs.length : Nat), rfl, _, _, rfl, rfl, .inr ⟨by omega, by omega⟩, _, _, rfl, rfl, _, rfl, ?_⟩
      have eo : (if cn rs (i + 1) * (rs.length : Int) - (1 + (i : Int)) * rs.sum < 0 then -(cn rs (i + 1) * (rs.length : Int) - (1 + (i : Int)) * rs.sum) else cn rs (i + 1) * (rs.length : Int) - (1 + (i : Int)) * rs.sum) = ((Df rs (i + 1)).natAbs : Int) := by
        rw [abs_eq]
        unfold Df
        rw [show (1 + (i : Int)) = ((i + 1 : Nat) : Int) by omega]
      try dsimp only
      rw [eo]
      have ev : (t * (1 + (i : Int)) * (rs.length : Int) < ((Df rs (i + 1)).natAbs : Int) * b) = Vi rs t b (i + 1) := by
        unfold Vi
        rw [show (1 + (i : Int)) = ((i + 1 : Nat) : Int) by omega]
      refine ite2 (fun e => ?_) (fun e => ?_)
      · have e : t * (1 + (i : Int)) * (rs.length : Int) < ((Df rs (i + 1)).natAbs : Int) * b := of_decide_eq_true e
        rw [ev] at e
        refine ⟨.int (1 + (i : Int)), rfl, some (.int (1 + (i : Int))), i + 1, ?_, rfl, Nat.le_refl _, .inr e, fun N h2 h3 => by omega⟩
        rw [show (1 + (i : Int)) = ((i + 1 : Nat) : Int) by omega]
        rfl
      · have e : ¬ (t * (1 + (i : Int)) * (rs.length : Int) < ((Df rs (i + 1)).natAbs : Int) * b) := fun z => e (decide_eq_true z)
        rw [ev] at e
        refine ⟨_, L, rfl, rfl, by omega, hv, fun N h2 h3 => ?_⟩
        by_cases z : N = i + 1
        · rw [z]
          exact e
        · exact hno N h2 (by omega)
    · rintro σ G ⟨y6, L, rfl, rfl, hL, hv, hno⟩
      refine ⟨.int (L : Nat), rfl, _, _, rfl, rfl, ?_⟩
      have k := q G L s1 ⟨hv, fun N hN z => ?_⟩
      · rw [Int.add_comm] at k
        exact k
      · have bd := Vi_bound hb h1 t0 b0 z
        exact hno N hN (by omega) z
def sp__law_by_places (_ : PySem.W.Frag) : Sp := fun vs H Q _ => ∃ (a ea : Addr) (rs : List Int) (t b : Int), vs = [.ref a, .ref ea] ∧ H a = some (.tup (rs.map V.int)) ∧ H ea = some (.tup [.int t, .int b]) ∧ 1 ≤ rs.length ∧ rs.length ≤ 4096 ∧ Bits rs ∧ 0 < t ∧ t < 1073741824 ∧ 0 < b ∧ b < 1073741824 ∧
  ∀ H' (L : Nat), Same H H' → IsLast (Vi rs t b) L → Q (.int (1 + (L : Int))) H'
theorem lb_other {l : Int} {n m : Nat} (hm : 0 < m) (h : ¬ l < n) : lb l n m = n + (l - n) / m * m := by
  unfold lb
  rw [if_neg h]
  have h3 := Int.mul_ediv_add_emod (l - n) m
  rw [Int.mul_comm] at h3
  omega
theorem ok__law_by_places (T : Defs K mg) : FnOk P w K mg base CX0 1 T.f__law_by_places T.fd__law_by_places ["_law_row_here", "_law_e"] (sp__law_by_places K) := by
  refine T.F__law_by_places.ok sc__law_by_places (fun vs H Q E h => ?_) (fun cdv A outer s H vs Q E hr h => ?_)
  · obtain ⟨a, ea, rs, t, b, rfl, ha, he, h1, hl, hb, t0, t1, b0, b1, q⟩ := h
    rfl
  · obtain ⟨a, ea, rs, t, b, rfl, ha, he, h1, hl, hb, t0, t1, b0, b1, q⟩ := h
    refine ⟨_, PSs.nox (pss_cons (ps_asg (pe_tup (pa_cons (pe_callB (cr_sumT rfl) (by rfl) T.m_sum bt_sum (pa_cons (pv 0) pa_nil)) (pa_cons (pe_callB call_len_seq (by rfl) T.m_len bt_len (pa_cons (pv 0) pa_nil)) (pa_cons pe_int (pa_cons pe_int pa_nil))))) (pg_tup rfl (pgs_cons (pg_name (i := 2) sc__law_by_places.nd rfl (.inl rfl)) (pgs_cons (pg_name (i := 3) sc__law_by_places.nd rfl (.inl rfl)) (pgs_cons (pg_name (i := 4) sc__law_by_places.nd rfl (.inl rfl)) (pgs_cons (pg_name (i := 5) sc__law_by_places.nd rfl (.inl rfl)) pgs_nil))))))
    (pss_cons (ps_for PassesOwn.never rfl (pi_enumT (by rfl) T.m_enumerate (pa_cons (pv 0) pa_nil)) (pg_tup rfl (pgs_cons (pg_name (i := 6) sc__law_by_places.nd rfl (.inl rfl)) (pgs_cons (pg_name (i := 7) sc__law_by_places.nd rfl (.inl rfl)) pgs_nil))) (pss_cons (ps_set (i := 4) sc__law_by_places.nd rfl (.inl rfl) (pe_op op_add (pv 4) (pv 7)))
    (pss_cons (ps_set (i := 8) sc__law_by_places.nd rfl (.inl rfl) (pe_callB call_abs (by rfl) T.m_abs bt_abs (pa_cons (pe_op op_sub (pe_op op_mul (pv 4) (pv 3)) (pe_op op_mul (pe_op op_add (pv 6) pe_int) (pv 2))) pa_nil)))
    (pss_cons (ps_set (i := 9) sc__law_by_places.nd rfl (.inl rfl) (pe_op op_fdivNW (pe_op op_sub (pe_op op_mul (pv 8) (pe_ix ix_tup (pv 1) pe_int (fun _ _ => rfl))) pe_int) (pe_op op_mul (pe_ix ix_tup (pv 1) pe_int (fun _ _ => rfl)) (pv 3))))
    (pss_one (ps_if (pt_cmpR op_gt (pv 9) (pv 6) (nomark _)) (pss_one (ps_set (i := 5) sc__law_by_places.nd rfl (.inl rfl) (pe_callB (call_max2 rfl) (by rfl) T.m_max bt_max (pa_cons (pv 5) (pa_cons (pe_op op_add (pe_op op_add (pv 6) pe_int) (pe_op op_mul (pe_op op_fdiv (pe_op op_sub (pe_op op_sub (pv 9) (pv 6)) pe_int) (pv 3)) (pv 3))) pa_nil))))) pss_nil))))))
    (pss_one (ps_ret (pe_op op_add (pv 5) pe_int))))), ?_⟩
    refine ⟨.ref a, rfl, a, rs, rfl, SqT.mk ha, .ref a, rfl, a, _, rfl, .inr (SqT.mk ha), (show 4 ≤ sizeLine by decide), fun tt nt => ?_⟩
    refine ⟨tt, _, rfl, SqT.mk upd_same, rfl, _, _, rfl, _, _, rfl, _, _, rfl, _, _, rfl, rfl, ?_⟩
    rw [List.length_map]
    have s1 : Same H (upd H tt (.tup [.int rs.sum, .int (rs.length : Nat), .int 0, .int 0])) := same_upd nt
    generalize upd H tt (.tup [.int rs.sum, .int (rs.length : Nat), .int 0, .int 0]) = H1 at s1 ⊢
    have ha1 := s1 _ _ ha
    have he1 := s1 _ _ he
    have sm := bits_sum rs hb
    have tm := mul_lt (show 0 ≤ t by omega) (show t ≤ 1073741824 by omega) (show 0 ≤ (rs.length : Int) by omega) (show (rs.length : Int) ≤ 4096 by omega)
    have tmp : 0 < t * (rs.length : Int) := Int.mul_pos t0 (by omega)
    refine ⟨.ref a, rfl, a, _, rfl, SqT.mk ha1, for_it (walk_enumT (xs := rs.map V.int)) (fun i σ G => ∃ y6 y7 y8 y9, ∃ L : Nat, σ = [some (.ref a), some (.ref ea), some (.int rs.sum), some (.int (rs.length : Nat)), some (.int (cn rs i)), some (.int (L : Nat)), y6, y7, y8, y9] ∧ Same H1 G ∧ (L = 0 ∨ ∃ n, Lb rs t b n = (L : Int)) ∧ ∀ n, n ≤ i → n ≠ 0 → Lb rs t b n ≤ L) ⟨none, none, none, none, 0, rfl, Same.refl H1, .inl rfl, fun n h2 h3 => by omega⟩ ?_ ?_ ?_⟩
    · rintro i σ G hi ⟨y6, y7, y8, y9, L, rfl, sG, _⟩
      exact SqT.mk (sG _ _ ha1)
    · rintro i x σ G G2 hi ⟨y6, y7, y8, y9, L, rfl, sG, hat, hall⟩ ⟨T2, x1, x2, rfl, nT, rfl, e1, e2⟩
      rw [List.length_map] at hi
      have ex1 : x1 = .int (i : Nat) := (Option.some.inj e1).symm
      have ex2 : x2 = .int (rs.getD (i % rs.length) 0) := by
        have e2 : (rs.map V.int)[i]? = some x2 := e2
        rw [List.getElem?_map, List.getElem?_eq_getElem hi] at e2
        rw [← Option.some.inj e2, Nat.mod_eq_of_lt hi, List.getD_eq_getElem?_getD, List.getElem?_eq_getElem hi]
        rfl
      subst ex1 ex2
      have s2 : Same H1 (upd G T2 (.tup [.int (i : Nat), .int (rs.getD (i % rs.length) 0)])) := sG.trans (same_upd nT)
      refine ⟨T2, _, rfl, SqT.mk upd_same, rfl, _, _, rfl, _, _, rfl, rfl, ?_⟩
      generalize upd G T2 (.tup [.int (i : Nat), .int (rs.getD (i % rs.length) 0)]) = G3 at s2 ⊢
      have he3 := s2 _ _ he1
      refine ⟨.int (cn rs i), rfl, _, rfl, _, _, rfl, rfl, ?_⟩
      refine ⟨.int (cn rs (i + 1)), rfl, .int (rs.length : Nat), rfl, _, _, rfl, rfl, .inr ⟨by omega, by omega⟩, .int (i : Nat), rfl, _, _, rfl, rfl, .int rs.sum, rfl, _, _, rfl, rfl, .inr ⟨by omega, by omega⟩, _, _, rfl, rfl, _, rfl, ?_⟩
      have eo : (if cn rs (i + 1) * (rs.length : Int) - ((i : Int) + 1) * rs.sum < 0 then -(cn rs (i + 1) * (rs.length : Int) - ((i : Int) + 1) * rs.sum) else cn rs (i + 1) * (rs.length : Int) - ((i : Int) + 1) * rs.sum) = ((Df rs (i + 1)).natAbs : Int) := by
        rw [abs_eq]
        unfold Df
        rw [show ((i : Int) + 1) = ((i + 1 : Nat) : Int) by omega]
      try dsimp only
      rw [eo]
      refine ⟨_, rfl, .ref ea, rfl, ea, _, 1, _, rfl, rfl, SqT.mk he3, atI_nat (j := 1) rfl, _, _, rfl, rfl, .inr ⟨by omega, by omega⟩, _, _, rfl, rfl, .ref ea, rfl, ea, _, 0, _, rfl, rfl, SqT.mk he3, atI_nat (j := 0) rfl, .int (rs.length : Nat), rfl, _, _, rfl, rfl, .inl ⟨by omega, by omega⟩, _, _, rfl, rfl, lg60 tmp (by omega), ?_⟩
      try dsimp only
      rw [fdv tmp]
      have eL : ∀ z : Int, (((Df rs (i + 1)).natAbs : Int) * b - 1) / (t * (rs.length : Int)) = z → Lb rs t b (i + 1) = lb z (i + 1) rs.length := fun z hz => by rw [← hz]
      obtain ⟨l, hl2⟩ : ∃ l, (((Df rs (i + 1)).natAbs : Int) * b - 1) / (t * (rs.length : Int)) = l := ⟨_, rfl⟩
      have eL := eL l hl2
      rw [hl2]
      refine ⟨.int l, rfl, .int (i : Nat), rfl, _, _, rfl, rfl, _, rfl, ite2 (fun e => ?_) (fun e => ?_)⟩
      · have e : (i : Int) < l := of_decide_eq_true e
        have n1 : ¬ l < ((i + 1 : Nat) : Int) := by omega
        rw [lb_other (by omega) n1] at eL
        refine ⟨.int (L : Nat), rfl, .int (i : Nat), rfl, _, _, rfl, rfl, .int l, rfl, .int (i : Nat), rfl, _, _, rfl, rfl, _, _, rfl, rfl, .int (rs.length : Nat), rfl, _, _, rfl, rfl, ⟨(show (0 : Int) < (rs.length : Int) by omega), (show (rs.length : Int) < 1073741824 by omega)⟩, .int (rs.length : Nat), rfl, _, _, rfl, rfl, .inr ⟨by omega, by omega⟩, _, _, rfl, rfl, _, _, rfl, ?_⟩
        have ew : (i : Int) + 1 + (l - (i : Int) - 1) / (rs.length : Int) * (rs.length : Int) = Lb rs t b (i + 1) := by
          rw [eL, show ((i + 1 : Nat) : Int) = (i : Int) + 1 by omega, show l - ((i : Int) + 1) = l - (i : Int) - 1 by omega]
        try dsimp only
        rw [ew]
        have L0 : 0 ≤ Lb rs t b (i + 1) := lb_nat (by omega)
        obtain ⟨M, hM⟩ := Int.eq_ofNat_of_zero_le L0
        rw [hM]
        have em : (if (M : Int) > (L : Int) then (M : Int) else (L : Int)) = ((max L M : Nat) : Int) := by
          split <;> omega
        rw [em]
        refine ⟨_, _, _, _, max L M, rfl, s2, ?_, fun n h2 h3 => ?_⟩
        · by_cases z : L ≤ M
          · rw [Nat.max_eq_right z]
            exact .inr ⟨_, hM⟩
          · rw [Nat.max_eq_left (by omega)]
            exact hat
        · by_cases z : n = i + 1
          · rw [z, hM]
            omega
          · have := hall n (by omega) h3
            omega
      · have e : ¬ (i : Int) < l := fun z => e (decide_eq_true z)
        refine ⟨_, _, _, _, L, rfl, s2, hat, fun n h2 h3 => ?_⟩
        by_cases z : n = i + 1
        · rw [z, eL]
          unfold lb
          rw [if_pos (by omega)]
          omega
        · exact hall n (by omega) h3
    · rintro σ G ⟨y6, y7, y8, y9, L, rfl, sG, hat, hall⟩
      rw [List.length_map] at hall
      refine ⟨.int (L : Nat), rfl, _, _, rfl, rfl, ?_⟩
      have k := q G L (s1.trans sG) (last_of h1 t0 hat fun n hn n0 => hall n (by omega) n0)
      rw [Int.add_comm] at k
      exact k
/-! the law -/
theorem kIn {K : PySem.W.Frag} {a b : String} {r : Bool} (h : kitB a b = some r) : PySem.W.kitOne K (.type a) (.type b) = some r := kit_ty h
theorem k_ib : kitB "int" "bool" = some false := by decide +kernel
theorem k_ii : kitB "int" "int" = some true := by decide +kernel
def sp_law (K : PySem.W.Frag) : Sp := fun vs H Q _ => ∃ (a : Addr) (ns : List Int), vs = [.ref a] ∧ SqL K H a (ns.map V.int) ∧ ns.length ≤ 63 ∧ ∀ H', Q (.bl true) H'
theorem ok_law (T : Defs K mg) : FnOk P w K mg base CX0 4 T.f_law T.fd_law ["_law_script"] (sp_law K) := by
  have G__law_folded : FnOk P w K mg base CX0 1 T.f__law_folded T.fd__law_folded ["_law_script", "_law_many"] (sp__law_folded K) := ok__law_folded T
  have G__law_box : FnOk P w K mg base CX0 1 T.f__law_box T.fd__law_box ["_law_script", "_law_k"] (sp__law_box K) := ok__law_box T
  have G__law_row : FnOk P w K mg base CX0 2 T.f__law_row T.fd__law_row ["_law_box_here", "_law_many"] (sp__law_row K) := ok__law_row T
  have G__law_share : FnOk P w K mg base CX0 2 T.f__law_share T.fd__law_share ["_law_box_here", "_law_row_here"] (sp__law_share K) := ok__law_share T
  have G__law_due : FnOk P w K mg base CX0 1 T.f__law_due T.fd__law_due ["_law_row_here", "_law_e"] (sp__law_due K) := ok__law_due T
  have G__law_by_places : FnOk P w K mg base CX0 1 T.f__law_by_places T.fd__law_by_places ["_law_row_here", "_law_e"] (sp__law_by_places K) := ok__law_by_places T
  have G_beats_for : FnOk P w K mg base CX0 3 T.f_beats_for T.fd_beats_for ["row", "e"] (sp_beats_for K) := ok_beats_for T
  have G__law_take : FnOk P w K mg base CX0 1 T.f__law_take T.fd__law_take ["_law_box_here", "_law_many"] (sp__law_take K) := ok__law_take T
  refine T.F_law.ok sc_law (fun vs H Q E h => ?_) (fun cdv A outer s H vs Q E hr h => ?_)
  · obtain ⟨a, ns, rfl, hS, hlen, q⟩ := h
    rfl
  · obtain ⟨a, ns, rfl, hS, hlen, q⟩ := h
    refine ⟨_, PSs.nox (pss_cons (ps_set (i := 1) sc_law.nd rfl (.inl rfl) (pe_call G__law_folded (hr.mono (by decide)) (by rfl) T.g__law_folded T.F__law_folded.kp T.b__law_folded .nil pass0 (pa_cons (pv 0) (pa_cons pe_int pa_nil))))
    (pss_cons (ps_for PassesOwn.never rfl (pi_range1 (by rfl) T.m_range (pa_cons (pe_callB (call_max2 rfl) (by rfl) T.m_max bt_max (pa_cons pe_int (pa_cons (pe_callB call_len_seq (by rfl) T.m_len bt_len (pa_cons (pv 1) pa_nil)) pa_nil))) pa_nil)) (pg_name (i := 2) sc_law.nd rfl (.inl rfl)) (pss_cons (ps_set (i := 3) sc_law.nd rfl (.inl rfl) (pe_call G__law_box (hr.mono (by decide)) (by rfl) T.g__law_box T.F__law_box.kp T.b__law_box .nil pass0 (pa_cons (pv 1) (pa_cons (pv 2) pa_nil))))
    (pss_one (ps_for PassesOwn.never rfl (pi_range1 (by rfl) T.m_range (pa_cons pe_int pa_nil)) (pg_name (i := 4) sc_law.nd rfl (.inl rfl)) (pss_cons (ps_set (i := 5) sc_law.nd rfl (.inl rfl) (pe_call G__law_row (hr.mono (by decide)) (by rfl) T.g__law_row T.F__law_row.kp T.b__law_row .nil pass0 (pa_cons (pv 3) (pa_cons (pe_op op_add pe_int (pe_call G__law_take (hr.mono (by decide)) (by rfl) T.g__law_take T.F__law_take.kp T.b__law_take .nil pass0 (pa_cons (pv 3) (pa_cons (pe_ix ix_list (pe_lst (pa_cons pe_int (pa_cons pe_int (pa_cons pe_int (pa_cons pe_int (pa_cons pe_int (pa_cons pe_int (pa_cons pe_int (pa_cons pe_int (pa_cons pe_int pa_nil)))))))))) (pe_call G__law_take (hr.mono (by decide)) (by rfl) T.g__law_take T.F__law_take.kp T.b__law_take .nil pass0 (pa_cons (pv 3) (pa_cons pe_int pa_nil))) (fun _ _ => rfl)) pa_nil)))) pa_nil))))
    (pss_cons (ps_set (i := 6) sc_law.nd rfl (.inl rfl) (pe_call G__law_share (hr.mono (by decide)) (by rfl) T.g__law_share T.F__law_share.kp T.b__law_share .nil pass0 (pa_cons (pv 3) (pa_cons (pv 5) pa_nil))))
    (pss_cons (ps_set (i := 7) sc_law.nd rfl (.inl rfl) (pe_ifExp (pt_cmpR op_lt (pe_callB call_len_seq (by rfl) T.m_len bt_len (pa_cons (pv 5) pa_nil)) pe_int (nomark _)) (pe_call G__law_due (hr.mono (by decide)) (by rfl) T.g__law_due T.F__law_due.kp T.b__law_due .nil pass0 (pa_cons (pv 5) (pa_cons (pv 6) pa_nil))) (pe_call G__law_by_places (hr.mono (by decide)) (by rfl) T.g__law_by_places T.F__law_by_places.kp T.b__law_by_places .nil pass0 (pa_cons (pv 5) (pa_cons (pv 6) pa_nil)))))
    (pss_one (ps_for PassesOwn.never rfl (pi_range1 (by rfl) T.m_range (pa_cons pe_int pa_nil)) (pg_name (i := 8) sc_law.nd rfl (.inl rfl)) (pss_cons (ps_set (i := 9) sc_law.nd rfl (.inl rfl) (pe_call G_beats_for (hr.mono (by decide)) (by rfl) T.g_beats_for T.F_beats_for.kp T.b_beats_for .nil pass0 (pa_cons (pv 5) (pa_cons (pv 6) pa_nil))))
    (pss_one (ps_if (PW.pt (pw_or (pt_not (pt_val (pe_callB call_isi (by rfl) T.m_isinstance bt_isinstance (pa_cons (pv 9) (pa_cons (pe_bltn (v := .ty "int") (by rfl) T.m_int bt_int rfl) pa_nil))))) (pw_or (pt_val (pe_callB call_isi (by rfl) T.m_isinstance bt_isinstance (pa_cons (pv 9) (pa_cons (pe_bltn (v := .ty "bool") (by rfl) T.m_bool bt_bool rfl) pa_nil)))) (pw_or1 (pt_cmpR op_ne (pv 9) (pv 7) (nomark _)))))) (pss_one (ps_ret pe_bl)) pss_nil))))))))))))
    (pss_one (ps_ret pe_bl)))), ?_⟩
    refine ⟨.ref a, rfl, a, ns, 4, rfl, hS, hlen, by decide, by decide, fun H1 c cs s1 nc hc lc => ?_⟩
    have hn : (if (((cs.map V.int).length : Nat) : Int) > 2 then (((cs.map V.int).length : Nat) : Int) else 2) ≤ 4 ∧ 0 ≤ (if (((cs.map V.int).length : Nat) : Int) > 2 then (((cs.map V.int).length : Nat) : Int) else 2) := by
      rw [List.length_map]
      split <;> omega
    refine ⟨.ref c, rfl, c, _, rfl, .inl (SqL.mk hc), _, _, rfl, _, rfl, by omega, by omega, for_range (fun i σ H2 => ∃ y2 y3 y4 y5 y6 y7 y8 y9, σ = [some (.ref a), some (.ref c), y2, y3, y4, y5, y6, y7, y8, y9] ∧ Same H1 H2) ⟨none, none, none, none, none, none, none, none, rfl, Same.refl H1⟩ ?_ ?_⟩
    rotate_left
    · rintro σ H2 ⟨y2, y3, y4, y5, y6, y7, y8, y9, rfl, s2⟩
      exact q _
    rintro i σ H2 hi ⟨y2, y3, y4, y5, y6, y7, y8, y9, rfl, s2⟩
    have hi2 : i < 1000 := by omega
    refine ⟨.ref c, rfl, .int (0 + (i : Int)), rfl, c, cs, i, by rw [Int.zero_add]; rfl, SqL.mk (s2 _ _ hc), hi2, fun H3 b s3 nb hB => ?_⟩
    have nb1 : H1 b = none := s2.free nb
    have s13 := s2.trans s3
    refine ⟨4, rfl, by decide, by decide, for_range (n := 4) (fun j σ G => ∃ y4 y5 y6 y7 y8 y9, σ = [some (.ref a), some (.ref c), some (.int (0 + (i : Int))), some (.ref b), y4, y5, y6, y7, y8, y9] ∧ But b H3 G ∧ Bx G b (6000 * j)) ⟨_, _, _, _, _, _, rfl, But.refl b H3, hB⟩ ?_ ?_⟩
    rotate_left
    · rintro σ G ⟨y4, y5, y6, y7, y8, y9, rfl, bG, BG⟩
      exact ⟨_, _, _, _, _, _, _, _, rfl, But.same nb1 s13 bG⟩
    rintro j σ G hj ⟨y4, y5, y6, y7, y8, y9, rfl, bG, BG⟩
    refine ⟨.ref b, rfl, .ref b, rfl, (show 9 ≤ sizeLine by decide), fun l nl => ?_⟩
    refine ⟨.ref b, rfl, b, 9, 6000 * j, rfl, BG.new nl, by decide, by decide, by omega, fun G1 r1 c1 B1 l1 u1 => ?_⟩
    obtain ⟨v, ev, hv⟩ := at_menu (Pr := fun v => 24 ≤ v ∧ v ≤ 4096) (xs := [24, 24, 60, 24, 24, 60, 24, 24, 4096]) l1 u1 (fun x hx => by
      simp only [List.mem_cons, List.not_mem_nil, or_false] at hx
      omega)
    refine ⟨l, _, _, _, rfl, rfl, SqL.mk (c1 _ _ (ne_new BG nl) upd_same), ev, b, v, _, rfl, B1, by omega, by omega, by omega, fun G2 r2 c2 B2 l2 u2 => ⟨_, _, rfl, rfl, ?_⟩⟩
    have bG2 : But b H3 G2 := (bG.new nl).trans (c1.trans c2)
    obtain ⟨m, hm⟩ : ∃ m : Nat, 1 + r2 = (m : Nat) := ⟨(1 + r2).toNat, by omega⟩
    refine ⟨b, m, _, congrArg (fun z => [V.ref b, V.int z]) hm, B2, by omega, by omega, by omega, fun G3 o rs c3 B3 ho lr br => ?_⟩
    refine ⟨.ref b, rfl, .ref o, rfl, b, o, rs, _, rfl, B3, ho, by omega, by omega, br, by omega, fun G4 ea t e c4 B4 he t0 t1 e0 e1 => ?_⟩
    have ho4 := c4 _ _ (B3.ne_tup ho) ho
    have b4 : But b H3 G4 := bG2.trans (c3.trans c4)
    have R1 : 1 ≤ rs.length := by omega
    have R2 : rs.length ≤ 4096 := by omega
    clear ev hv c1 c2 c3 c4 B1 B2 B3 l1 u1 l2 u2 hm bG
    refine ⟨.ref o, rfl, o, _, rfl, .inr (SqT.mk ho4), _, _, rfl, rfl, _, rfl, ite2 (fun _ => ?_) (fun _ => ?_)⟩
    all_goals
      refine ⟨.ref o, rfl, .ref ea, rfl, o, ea, rs, t, e, rfl, ho4, he, by omega, by omega, br, t0, t1, e0, e1, fun G5 L s5 hL => ?_⟩
      refine ⟨2, rfl, by decide, by decide, for_range (n := 2) (fun j' σ F => ∃ y8 y9, σ = [some (.ref a), some (.ref c), some (.int (0 + (i : Int))), some (.ref b), some (.int (0 + (j : Int))), some (.ref o), some (.ref ea), some (.int (1 + (L : Int))), y8, y9] ∧ Same G4 F) ⟨_, _, rfl, s5⟩ ?_ ?_⟩
      · rintro j' σ F hj' ⟨y8, y9, rfl, sF⟩
        refine ⟨.ref o, rfl, .ref ea, rfl, o, ea, rs, t, e, rfl, sF _ _ ho4, sF _ _ he, by omega, by omega, t0, t1, e0, e1, fun F1 L' sF1 hL' => ?_⟩
        obtain rfl := hL.uniq hL'
        refine ⟨_, rfl, _, _, _, _, _, rfl, .ty "int", .base (.int _), kIn k_ii, _, rfl, ?_⟩
        refine iteF ?_
        refine ⟨_, rfl, _, _, _, _, _, rfl, .ty "bool", .base (.int _), kIn k_ib, _, rfl, ?_⟩
        refine iteF ?_
        refine ⟨_, rfl, _, rfl, rfl, _, rfl, ?_⟩
        rw [decide_eq_true rfl]
        refine iteF ?_
        exact ⟨_, _, rfl, sF.trans sF1⟩
      · rintro σ F ⟨y8, y9, rfl, sF⟩
        exact ⟨_, _, _, _, _, _, rfl, b4.trans (same_but sF), (B4.same sF).mono (by omega)⟩
end
def d_ones : He.DefD := ⟨("ones", none), "ones", "ones", defArgs s_ones, defBody s_ones, defScope s_ones, [], []⟩
def d_offs_by : He.DefD := ⟨("offs_by", none), "offs_by", "offs_by", defArgs s_offs_by, defBody s_offs_by, defScope s_offs_by, [], []⟩
def d_offs_of : He.DefD := ⟨("offs_of", none), "offs_of", "offs_of", defArgs s_offs_of, defBody s_offs_of, defScope s_offs_of, [], []⟩
def d_last_beyond : He.DefD := ⟨("last_beyond", none), "last_beyond", "last_beyond", defArgs s_last_beyond, defBody s_last_beyond, defScope s_last_beyond, [], []⟩
def d_beats_for : He.DefD := ⟨("beats_for", none), "beats_for", "beats_for", defArgs s_beats_for, defBody s_beats_for, defScope s_beats_for, [], []⟩
def d__law_box : He.DefD := ⟨("_law_box", none), "_law_box", "_law_box", defArgs s__law_box, defBody s__law_box, defScope s__law_box, [], []⟩
def d__law_take : He.DefD := ⟨("_law_take", none), "_law_take", "_law_take", defArgs s__law_take, defBody s__law_take, defScope s__law_take, [], []⟩
def d__law_folded : He.DefD := ⟨("_law_folded", none), "_law_folded", "_law_folded", defArgs s__law_folded, defBody s__law_folded, defScope s__law_folded, [], []⟩
def d__law_lowest : He.DefD := ⟨("_law_lowest", none), "_law_lowest", "_law_lowest", defArgs s__law_lowest, defBody s__law_lowest, defScope s__law_lowest, [], []⟩
def d__law_row : He.DefD := ⟨("_law_row", none), "_law_row", "_law_row", defArgs s__law_row, defBody s__law_row, defScope s__law_row, [], []⟩
def d__law_share : He.DefD := ⟨("_law_share", none), "_law_share", "_law_share", defArgs s__law_share, defBody s__law_share, defScope s__law_share, [], []⟩
def d__law_due : He.DefD := ⟨("_law_due", none), "_law_due", "_law_due", defArgs s__law_due, defBody s__law_due, defScope s__law_due, [], []⟩
def d__law_by_places : He.DefD := ⟨("_law_by_places", none), "_law_by_places", "_law_by_places", defArgs s__law_by_places, defBody s__law_by_places, defScope s__law_by_places, [], []⟩
def d_law : He.DefD := ⟨("law", none), "law", "law", defArgs s_law, defBody s_law, defScope s_law, [], []⟩
def hfn : List He.DefD := [d_ones, d_offs_by, d_offs_of, d_last_beyond, d_beats_for, d__law_box, d__law_take, d__law_folded, d__law_lowest, d__law_row, d__law_share, d__law_due, d__law_by_places, d_law]
def hfa : List He.Fa := [.glo "ones", .glo "offs_by", .glo "offs_of", .glo "last_beyond", .glo "beats_for", .glo "_law_box", .glo "_law_take", .glo "_law_folded", .glo "_law_lowest", .glo "_law_row", .glo "_law_share", .glo "_law_due", .glo "_law_by_places", .glo "law", .free "abs", .free "bool", .free "divmod", .free "enumerate", .free "int", .free "isinstance", .free "len", .free "list", .free "max", .free "range", .free "sum", .free "tuple"]
abbrev R : PySem.W.OpenRow := PySem.W.OpenLaw.row PySem.Challenge.rw_shareones_k30_beats_enough
abbrev hk : PySem.W.Hook := He.hookD 4 hfa hfn
def ob (s : PySem.W.SharedT) : He.AlD := He.obsDG 4 hfa hfn (HandSHeadRun.getT s)
theorem ob_eq (s : PySem.W.SharedT) : ob s = hk.obs s.abs := He.obsDG_eq (HandSHeadRun.getT_eq s)
def loose : List Str := ["ones", "offs_by", "offs_of", "last_beyond", "beats_for", "_law_box", "_law_take", "_law_folded", "_law_lowest", "_law_row", "_law_share", "_law_due", "_law_by_places"]
theorem run (w : World) : HandSHeadRun.RunEq R (PySem.W.view R.prog [16]) hk ob 6000 loose w := by
  intro os
  kernel_rfl
theorem facts {P : Program} {w : World} {K : PySem.W.Frag} {h : Heap} {mg : Str → Option Value} {f : Addr} (X : K.In h) (G : h.Ns mainGlobals mg) (hfa_ : mg ("law" : Str) = some (.ref f)) (c : He.SaysD hfa hfn K) :
    ∃ fd : FuncData, (∀ (s : Shared) (v : Value), BindsTo s fd ⟨[v], []⟩ [("_law_script", v)]) ∧ ∀ base : Heap, K.In base → base.Ns mainGlobals mg → FnOk P w K mg base CX0 4 f fd ["_law_script"] (sp_law K) := by
  obtain ⟨fd_ones, F_ones⟩ := c.def_ 0 (d := d_ones) rfl
  obtain ⟨fd_offs_by, F_offs_by⟩ := c.def_ 1 (d := d_offs_by) rfl
  obtain ⟨fd_offs_of, F_offs_of⟩ := c.def_ 2 (d := d_offs_of) rfl
  obtain ⟨fd_last_beyond, F_last_beyond⟩ := c.def_ 3 (d := d_last_beyond) rfl
  obtain ⟨fd_beats_for, F_beats_for⟩ := c.def_ 4 (d := d_beats_for) rfl
  obtain ⟨fd__law_box, F__law_box⟩ := c.def_ 5 (d := d__law_box) rfl
  obtain ⟨fd__law_take, F__law_take⟩ := c.def_ 6 (d := d__law_take) rfl
  obtain ⟨fd__law_folded, F__law_folded⟩ := c.def_ 7 (d := d__law_folded) rfl
  obtain ⟨fd__law_lowest, F__law_lowest⟩ := c.def_ 8 (d := d__law_lowest) rfl
  obtain ⟨fd__law_row, F__law_row⟩ := c.def_ 9 (d := d__law_row) rfl
  obtain ⟨fd__law_share, F__law_share⟩ := c.def_ 10 (d := d__law_share) rfl
  obtain ⟨fd__law_due, F__law_due⟩ := c.def_ 11 (d := d__law_due) rfl
  obtain ⟨fd__law_by_places, F__law_by_places⟩ := c.def_ 12 (d := d__law_by_places) rfl
  obtain ⟨fd_law, F_law⟩ := c.def_ 13 (d := d_law) rfl
  have e := hfa_.symm.trans (He.glo_ok X G (c.fact 13 (f := .glo "law") rfl))
  cases e
  have b := FunD.bindsA (ps := ["_law_script"]) F_law fun _ _ _ _ _ _ us hl => match us, hl with | [_], _ => rfl
  refine ⟨fd_law, fun s v => b s [v] rfl, fun base _ _ => ok_law (T := ⟨_, fd_ones, F_ones, (He.glo_ok X G (c.fact 0 (f := .glo "ones") rfl)), (FunD.bindsN F_ones fun _ _ _ _ _ _ us hl => match us, hl with | [_], _ => rfl), _, fd_offs_by, F_offs_by, (He.glo_ok X G (c.fact 1 (f := .glo "offs_by") rfl)), (FunD.bindsN F_offs_by fun _ _ _ _ _ _ us hl => match us, hl with | [_, _, _], _ => rfl), _, fd_offs_of, F_offs_of, (He.glo_ok X G (c.fact 2 (f := .glo "offs_of") rfl)), (FunD.bindsN F_offs_of fun _ _ _ _ _ _ us hl => match us, hl with | [_], _ => rfl), _, fd_last_beyond, F_last_beyond, (He.glo_ok X G (c.fact 3 (f := .glo "last_beyond") rfl)), (FunD.bindsN F_last_beyond fun _ _ _ _ _ _ us hl => match us, hl with | [_, _, _, _], _ => rfl), _, fd_beats_for, F_beats_for, (He.glo_ok X G (c.fact 4 (f := .glo "beats_for") rfl)), (FunD.bindsN F_beats_for fun _ _ _ _ _ _ us hl => match us, hl with | [_, _], _ => rfl), _, fd__law_box, F__law_box, (He.glo_ok X G (c.fact 5 (f := .glo "_law_box") rfl)), (FunD.bindsN F__law_box fun _ _ _ _ _ _ us hl => match us, hl with | [_, _], _ => rfl), _, fd__law_take, F__law_take, (He.glo_ok X G (c.fact 6 (f := .glo "_law_take") rfl)), (FunD.bindsN F__law_take fun _ _ _ _ _ _ us hl => match us, hl with | [_, _], _ => rfl), _, fd__law_folded, F__law_folded, (He.glo_ok X G (c.fact 7 (f := .glo "_law_folded") rfl)), (FunD.bindsN F__law_folded fun _ _ _ _ _ _ us hl => match us, hl with | [_, _], _ => rfl), _, fd__law_lowest, F__law_lowest, (He.glo_ok X G (c.fact 8 (f := .glo "_law_lowest") rfl)), (FunD.bindsN F__law_lowest fun _ _ _ _ _ _ us hl => match us, hl with | [_, _], _ => rfl), _, fd__law_row, F__law_row, (He.glo_ok X G (c.fact 9 (f := .glo "_law_row") rfl)), (FunD.bindsN F__law_row fun _ _ _ _ _ _ us hl => match us, hl with | [_, _], _ => rfl), _, fd__law_share, F__law_share, (He.glo_ok X G (c.fact 10 (f := .glo "_law_share") rfl)), (FunD.bindsN F__law_share fun _ _ _ _ _ _ us hl => match us, hl with | [_, _], _ => rfl), _, fd__law_due, F__law_due, (He.glo_ok X G (c.fact 11 (f := .glo "_law_due") rfl)), (FunD.bindsN F__law_due fun _ _ _ _ _ _ us hl => match us, hl with | [_, _], _ => rfl), _, fd__law_by_places, F__law_by_places, (He.glo_ok X G (c.fact 12 (f := .glo "_law_by_places") rfl)), (FunD.bindsN F__law_by_places fun _ _ _ _ _ _ us hl => match us, hl with | [_, _], _ => rfl), _, fd_law, F_law, (He.glo_ok X G (c.fact 13 (f := .glo "law") rfl)), (FunD.bindsN F_law fun _ _ _ _ _ _ us hl => match us, hl with | [_], _ => rfl), (He.free_ok X G (c.fact 14 (f := .free "abs") rfl)), (He.free_ok X G (c.fact 15 (f := .free "bool") rfl)), (He.free_ok X G (c.fact 16 (f := .free "divmod") rfl)), (He.free_ok X G (c.fact 17 (f := .free "enumerate") rfl)), (He.free_ok X G (c.fact 18 (f := .free "int") rfl)), (He.free_ok X G (c.fact 19 (f := .free "isinstance") rfl)), (He.free_ok X G (c.fact 20 (f := .free "len") rfl)), (He.free_ok X G (c.fact 21 (f := .free "list") rfl)), (He.free_ok X G (c.fact 22 (f := .free "max") rfl)), (He.free_ok X G (c.fact 23 (f := .free "range") rfl)), (He.free_ok X G (c.fact 24 (f := .free "sum") rfl)), (He.free_ok X G (c.fact 25 (f := .free "tuple") rfl))⟩)⟩
end Fq
open PySem PySem.W PySem.Calls PyProof.Rows
set_option maxHeartbeats 0 in
theorem PySem.Challenge.cw_shareones_k30_beats_enough_holds : PySem.Challenge.rw_shareones_k30_beats_enough.Holds := by
  w_on; o_law
  refine HandSHeadRun.head_any (r := OpenLaw.row PySem.Challenge.rw_shareones_k30_beats_enough) (q := view (OpenLaw.row PySem.Challenge.rw_shareones_k30_beats_enough).prog [16]) (H := Fq.hk) (ob := Fq.ob) (M := 6000) (loose := Fq.loose) (d := HandSHeadRun.topDef (OpenLaw.row PySem.Challenge.rw_shareones_k30_beats_enough).prog 16) (kwd := []) Fq.ob_eq
    (by kernel_rfl) (fun s => by kernel_rfl) Fq.run (by kernel_rfl) (by kernel_rfl) (by kernel_rfl) (by rfl) (by first | assumption | decide +kernel) (by decide +kernel) ⟨rfl, rfl, rfl, rfl, rfl, by decide +kernel⟩ ?hw ?hc
  case hw => w_witness2
  case hc =>
    refine L2.walk_ofE (l := PySem.Challenge.rw_shareones_k30_beats_enough) (n := 63) (k := 4) (x := "_law_script") (CX := L2.CX0) rfl (by decide) (by kernel_rfl) ⟨rfl, by decide, by decide⟩ ?F (fun _ _ _ _ z => z)
    intro w mg fa h Y G hmg0
    obtain ⟨K, KX, c⟩ := Y
    have hmg : mg ("law" : PySem.Str) = some (.ref fa) := by
      have e : (HandSHeadRun.topDef (OpenLaw.row PySem.Challenge.rw_shareones_k30_beats_enough).prog 16).name = ("law" : PySem.Str) := by kernel_rfl
      rw [← e]
      exact hmg0
    obtain ⟨fd, hb, hF⟩ := Fq.facts (P := (PySem.Challenge.rw_shareones_k30_beats_enough).prog) (w := w) KX G hmg c
    exact ⟨K, fd, Fq.sp_law K, KX, hb, fun H a ns hl _ hS => ⟨a, ns, rfl, hS, hl, fun _ => rfl⟩, hF⟩
