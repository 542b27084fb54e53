import PyProof.Rows.All
import Wide.All
import OpenK.AllK
import Wide.FinOn
import KE.KStateDown
import Lean
import HandS.ForMost
import HandS.Wide
import HandS.WideBits
import HandS.IsInst
import HandS.Walk
import HandS.Evl
import HandS.Style
import HandS.NoneIn
import HandS.Defaults
import HandS.Head0
import HandS.Head1
import HandS.Head2
import HandS.HeadEnd
import HandS.HeadHook1
import HandS.HeadHook2
import HandS.AnyAll
import HandS.TupAny
import HandS.TupMul
import HandS.Zip
import HandS.HeadHook3
import HandS.HeadHook4
import HandS.HeadWalk
import HandS.EndTab
import PyProof.TupleOfGen
import KE.KNest
import KE.KDictWalk
import HandS.Set
import HandS.Strs
import KE.GoesSet
import KE.GoesMore
import KE.GoesZip
import KE.GoesEnum
import PyProof.GenCompT
import HandS.Conv
import HandS.Flow
import HandS.Style
import PySem.Challenge.RW_shareones_k31_never_beyond_and_reached
set_option Elab.async false
set_option pp.maxSteps 250
set_option linter.all false
set_option maxRecDepth 100000
set_option maxHeartbeats 4000000
namespace Fq
open PySem PySem.Spec PyProof.Rows L2
section
variable {P : Program} {w : World} {K : PySem.W.Frag} {mg : Str → Option Value} {base : Heap}
def topS (i : Nat) : Stmt := PySem.Challenge.pw_shareones_k31_never_beyond_and_reached.main.body.getD i (.Pass ⟨0, 0, 0, 0⟩)
abbrev FnP (K : PySem.W.Frag) (x : Str) (st : Stmt) (f : Addr) (fd : FuncData) : Prop := FunD K x x (defArgs st) (defBody st) (defScope st) [] [] f fd
abbrev s_common_divisor : Stmt := topS 1
abbrev N_common_divisor : List Str := ["one", "other"]
theorem sc_common_divisor : FnScope N_common_divisor ["one", "other"] (defScope s_common_divisor) := ⟨rfl, rfl, rfl, by decide +kernel, rfl, by decide +kernel, by decide +kernel⟩
abbrev s_fraction : Stmt := topS 2
abbrev N_fraction : List Str := ["top", "bottom", "divisor"]
theorem sc_fraction : FnScope N_fraction ["top", "bottom"] (defScope s_fraction) := ⟨rfl, rfl, rfl, by decide +kernel, rfl, by decide +kernel, by decide +kernel⟩
abbrev s_ones : Stmt := topS 4
abbrev N_ones : List Str := ["row"]
theorem sc_ones : FnScope N_ones ["row"] (defScope s_ones) := ⟨rfl, rfl, rfl, by decide +kernel, rfl, by decide +kernel, by decide +kernel⟩
abbrev s_turned : Stmt := topS 5
abbrev N_turned : List Str := ["row", "bit"]
theorem sc_turned : FnScope N_turned ["row"] (defScope s_turned) := ⟨rfl, rfl, rfl, by decide +kernel, rfl, by decide +kernel, by decide +kernel⟩
abbrev s_round_late : Stmt := topS 6
abbrev N_round_late : List Str := ["row", "by", "at"]
theorem sc_round_late : FnScope N_round_late ["row", "by"] (defScope s_round_late) := ⟨rfl, rfl, rfl, by decide +kernel, rfl, by decide +kernel, by decide +kernel⟩
abbrev s_again : Stmt := topS 7
abbrev N_again : List Str := ["row", "many"]
theorem sc_again : FnScope N_again ["row", "many"] (defScope s_again) := ⟨rfl, rfl, rfl, by decide +kernel, rfl, by decide +kernel, by decide +kernel⟩
abbrev s_offs_by : Stmt := topS 9
abbrev N_offs_by : List Str := ["row", "many", "length", "offs", "bit"]
theorem sc_offs_by : FnScope N_offs_by ["row", "many", "length"] (defScope s_offs_by) := ⟨rfl, rfl, rfl, by decide +kernel, rfl, by decide +kernel, by decide +kernel⟩
abbrev s_offs_of : Stmt := topS 10
abbrev N_offs_of : List Str := ["row"]
theorem sc_offs_of : FnScope N_offs_of ["row"] (defScope s_offs_of) := ⟨rfl, rfl, rfl, by decide +kernel, rfl, by decide +kernel, by decide +kernel⟩
abbrev s_worst_part : Stmt := topS 11
abbrev N_worst_part : List Str := ["row", "sizes", "worst", "off"]
theorem sc_worst_part : FnScope N_worst_part ["row"] (defScope s_worst_part) := ⟨rfl, rfl, rfl, by decide +kernel, rfl, by decide +kernel, by decide +kernel⟩
abbrev s_worst_stretch : Stmt := topS 12
abbrev N_worst_stretch : List Str := ["row", "offs", "least", "greatest", "begin", "end"]
theorem sc_worst_stretch : FnScope N_worst_stretch ["row"] (defScope s_worst_stretch) := ⟨rfl, rfl, rfl, by decide +kernel, rfl, by decide +kernel, by decide +kernel⟩
abbrev s__law_box : Stmt := topS 14
abbrev N__law_box : List Str := ["_law_script", "_law_k", "_law_cell"]
theorem sc__law_box : FnScope N__law_box ["_law_script", "_law_k"] (defScope s__law_box) := ⟨rfl, rfl, rfl, by decide +kernel, rfl, by decide +kernel, by decide +kernel⟩
abbrev s__law_take : Stmt := topS 15
abbrev N__law_take : List Str := ["_law_box_here", "_law_many", "_law_found", "_law_once"]
theorem sc__law_take : FnScope N__law_take ["_law_box_here", "_law_many"] (defScope s__law_take) := ⟨rfl, rfl, rfl, by decide +kernel, rfl, by decide +kernel, by decide +kernel⟩
abbrev s__law_folded : Stmt := topS 16
abbrev N__law_folded : List Str := ["_law_script", "_law_many", "_law_cells", "_law_k", "_law_cell"]
theorem sc__law_folded : FnScope N__law_folded ["_law_script", "_law_many"] (defScope s__law_folded) := ⟨rfl, rfl, rfl, by decide +kernel, rfl, by decide +kernel, by decide +kernel⟩
abbrev s__law_lowest : Stmt := topS 17
abbrev N__law_lowest : List Str := ["_law_top", "_law_bottom", "_law_one", "_law_other"]
theorem sc__law_lowest : FnScope N__law_lowest ["_law_top", "_law_bottom"] (defScope s__law_lowest) := ⟨rfl, rfl, rfl, by decide +kernel, rfl, by decide +kernel, by decide +kernel⟩
abbrev s__law_scattered : Stmt := topS 18
abbrev N__law_scattered : List Str := ["_law_box_here", "_law_many", "_law_ones_there", "_law_left", "_law_row", "_law_turn"]
theorem sc__law_scattered : FnScope N__law_scattered ["_law_box_here", "_law_many", "_law_ones_there"] (defScope s__law_scattered) := ⟨rfl, rfl, rfl, by decide +kernel, rfl, by decide +kernel, by decide +kernel⟩
abbrev s__law_more : Stmt := topS 19
abbrev N__law_more : List Str := ["_law_one", "_law_other"]
theorem sc__law_more : FnScope N__law_more ["_law_one", "_law_other"] (defScope s__law_more) := ⟨rfl, rfl, rfl, by decide +kernel, rfl, by decide +kernel, by decide +kernel⟩
abbrev s__law_right : Stmt := topS 20
abbrev N__law_right : List Str := ["_law_box_here", "_law_many", "_law_there", "_law_due", "_law_first", "_law_last", "_law_place", "_law_turn", "_law_row", "_law_part", "_law_stretch"]
theorem sc__law_right : FnScope N__law_right ["_law_box_here", "_law_many", "_law_there"] (defScope s__law_right) := ⟨rfl, rfl, rfl, by decide +kernel, rfl, by decide +kernel, by decide +kernel⟩
abbrev s_law : Stmt := topS 21
abbrev N_law : List Str := ["_law_script", "_law_cells", "_law_k", "_law_box_here", "_law_many", "_law_there"]
theorem sc_law : FnScope N_law ["_law_script"] (defScope s_law) := ⟨rfl, rfl, rfl, by decide +kernel, rfl, by decide +kernel, by decide +kernel⟩
/-- the code object of the def at f is the one at c -/
def CodeAt (K : PySem.W.Frag) (f c : Addr) : Prop := ∀ (oc : Value) (od : Option Addr) (fd : FuncData) (osl : Array (Option Value)), K.lookup f = some ⟨oc, od, .func fd, osl⟩ → ∀ b, fd.code = .ref b → b = c
theorem okC {P : Program} {w : World} {K : PySem.W.Frag} {mg : Str → Option Value} {base : Heap} {x : Str} {st : Stmt} {f c : Addr} {fd : FuncData} {N ps : List Str} {k : Nat} {sp : Sp} (F : FnP K x st f fd) (hc : CodeAt K f c) (S : FnScope N ps (defScope st)) (len : ∀ vs H Q E, sp vs H Q E → vs.length = ps.length)
    (hb : ∀ (A : Around) (outer : List Env) (s : Shared) (H : Hp) (vs : List V) (Q : VK) (E : XK), Room k (A.deeper (envOfC x (defScope st) s.heap.objs.size f (.ref c))) → sp vs H Q E →
      ∃ t, PSs (cxOf CX0 P w K mg base N x (defScope st) f (.ref c) A outer s H E) (defBody st) t ∧ t { nx := fun _ H' => Q .non H', rt := Q } (L2.start N vs) H) : FnOk P w K mg base CX0 (k + 1) f fd ps sp := by
  obtain ⟨oc, od, dV, kV, doc, pm, an, cdv, ct, osl, rfl, lk, hcd, _, _⟩ := F.ex
  obtain ⟨b, rfl⟩ := He.codeIn_ref hcd
  have e := hc oc od _ osl lk b rfl
  subst e
  exact fn_of lk hcd S len hb
structure Defs (K : PySem.W.Frag) (mg : Str → Option Value) where
  f_common_divisor : Addr
  fd_common_divisor : FuncData
  F_common_divisor : FnP K "common_divisor" s_common_divisor f_common_divisor fd_common_divisor
  g_common_divisor : mg "common_divisor" = some (.ref f_common_divisor)
  b_common_divisor : Binds K fd_common_divisor ["one", "other"] []
  f_fraction : Addr
  fd_fraction : FuncData
  F_fraction : FnP K "fraction" s_fraction f_fraction fd_fraction
  g_fraction : mg "fraction" = some (.ref f_fraction)
  b_fraction : Binds K fd_fraction ["top", "bottom"] []
  f_ones : Addr
  fd_ones : FuncData
  F_ones : FnP K "ones" s_ones f_ones fd_ones
  g_ones : mg "ones" = some (.ref f_ones)
  b_ones : Binds K fd_ones ["row"] []
  f_turned : Addr
  fd_turned : FuncData
  F_turned : FnP K "turned" s_turned f_turned fd_turned
  g_turned : mg "turned" = some (.ref f_turned)
  b_turned : Binds K fd_turned ["row"] []
  f_round_late : Addr
  fd_round_late : FuncData
  F_round_late : FnP K "round_late" s_round_late f_round_late fd_round_late
  g_round_late : mg "round_late" = some (.ref f_round_late)
  b_round_late : Binds K fd_round_late ["row", "by"] []
  f_again : Addr
  fd_again : FuncData
  F_again : FnP K "again" s_again f_again fd_again
  g_again : mg "again" = some (.ref f_again)
  b_again : Binds K fd_again ["row", "many"] []
  f_offs_by : Addr
  fd_offs_by : FuncData
  F_offs_by : FnP K "offs_by" s_offs_by f_offs_by fd_offs_by
  g_offs_by : mg "offs_by" = some (.ref f_offs_by)
  b_offs_by : Binds K fd_offs_by ["row", "many", "length"] []
  f_offs_of : Addr
  fd_offs_of : FuncData
  F_offs_of : FnP K "offs_of" s_offs_of f_offs_of fd_offs_of
  g_offs_of : mg "offs_of" = some (.ref f_offs_of)
  b_offs_of : Binds K fd_offs_of ["row"] []
  f_worst_part : Addr
  fd_worst_part : FuncData
  F_worst_part : FnP K "worst_part" s_worst_part f_worst_part fd_worst_part
  g_worst_part : mg "worst_part" = some (.ref f_worst_part)
  b_worst_part : Binds K fd_worst_part ["row"] []
  f_worst_stretch : Addr
  fd_worst_stretch : FuncData
  F_worst_stretch : FnP K "worst_stretch" s_worst_stretch f_worst_stretch fd_worst_stretch
  g_worst_stretch : mg "worst_stretch" = some (.ref f_worst_stretch)
  b_worst_stretch : Binds K fd_worst_stretch ["row"] []
  f__law_box : Addr
  fd__law_box : FuncData
  F__law_box : FnP K "_law_box" s__law_box f__law_box fd__law_box
  g__law_box : mg "_law_box" = some (.ref f__law_box)
  b__law_box : Binds K fd__law_box ["_law_script", "_law_k"] []
  f__law_take : Addr
  fd__law_take : FuncData
  F__law_take : FnP K "_law_take" s__law_take f__law_take fd__law_take
  g__law_take : mg "_law_take" = some (.ref f__law_take)
  b__law_take : Binds K fd__law_take ["_law_box_here", "_law_many"] []
  f__law_folded : Addr
  fd__law_folded : FuncData
  F__law_folded : FnP K "_law_folded" s__law_folded f__law_folded fd__law_folded
  g__law_folded : mg "_law_folded" = some (.ref f__law_folded)
  b__law_folded : Binds K fd__law_folded ["_law_script", "_law_many"] []
  f__law_lowest : Addr
  fd__law_lowest : FuncData
  F__law_lowest : FnP K "_law_lowest" s__law_lowest f__law_lowest fd__law_lowest
  g__law_lowest : mg "_law_lowest" = some (.ref f__law_lowest)
  b__law_lowest : Binds K fd__law_lowest ["_law_top", "_law_bottom"] []
  f__law_scattered : Addr
  fd__law_scattered : FuncData
  F__law_scattered : FnP K "_law_scattered" s__law_scattered f__law_scattered fd__law_scattered
  g__law_scattered : mg "_law_scattered" = some (.ref f__law_scattered)
  b__law_scattered : Binds K fd__law_scattered ["_law_box_here", "_law_many", "_law_ones_there"] []
  f__law_more : Addr
  fd__law_more : FuncData
  F__law_more : FnP K "_law_more" s__law_more f__law_more fd__law_more
  g__law_more : mg "_law_more" = some (.ref f__law_more)
  b__law_more : Binds K fd__law_more ["_law_one", "_law_other"] []
  f__law_right : Addr
  fd__law_right : FuncData
  F__law_right : FnP K "_law_right" s__law_right f__law_right fd__law_right
  g__law_right : mg "_law_right" = some (.ref f__law_right)
  b__law_right : Binds K fd__law_right ["_law_box_here", "_law_many", "_law_there"] []
  f_law : Addr
  fd_law : FuncData
  F_law : FnP K "law" s_law f_law fd_law
  g_law : mg "law" = some (.ref f_law)
  b_law : Binds K fd_law ["_law_script"] []
  c_turned : Addr
  P_turned : Addr
  k_turned : CodeAt K f_turned c_turned
  c_round_late : Addr
  P_round_late : Addr
  k_round_late : CodeAt K f_round_late c_round_late
  m_abs : mg "abs" = none
  m_divmod : mg "divmod" = none
  m_enumerate : mg "enumerate" = none
  m_int : mg "int" = none
  m_len : mg "len" = none
  m_list : mg "list" = none
  m_max : mg "max" = none
  m_min : mg "min" = none
  m_range : mg "range" = none
  m_sum : mg "sum" = none
  m_tuple : mg "tuple" = none
structure Tabs {K : PySem.W.Frag} {mg : Str → Option Value} (T : Defs K mg) (base : Heap) : Prop where
  t_turned : GxR.TabB base mg T.c_turned T.P_turned
  t_round_late : GxR.TabB base mg T.c_round_late T.P_round_late
theorem bt_abs : bootBuiltins "abs" = some (.builtin "abs") := by decide +kernel
theorem bt_divmod : bootBuiltins "divmod" = some (.builtin "divmod") := by decide +kernel
theorem bt_enumerate : bootBuiltins "enumerate" = some (.type "enumerate") := by decide +kernel
theorem bt_int : bootBuiltins "int" = some (.type "int") := by decide +kernel
theorem bt_len : bootBuiltins "len" = some (.builtin "len") := by decide +kernel
theorem bt_list : bootBuiltins "list" = some (.type "list") := by decide +kernel
theorem bt_max : bootBuiltins "max" = some (.builtin "max") := by decide +kernel
theorem bt_min : bootBuiltins "min" = some (.builtin "min") := by decide +kernel
theorem bt_range : bootBuiltins "range" = some (.type "range") := by decide +kernel
theorem bt_sum : bootBuiltins "sum" = some (.builtin "sum") := by decide +kernel
theorem bt_tuple : bootBuiltins "tuple" = some (.type "tuple") := by decide +kernel
def frT (t b : Int) : Int := (b.sign * t) / (Int.gcd t b : Int)
def frB (t b : Int) : Int := (b.natAbs : Int) / (Int.gcd t b : Int)
theorem fr_ex (t : Int) {b : Int} (hb : b ≠ 0) : ∃ (g : Nat) (x y : Int), 0 < g ∧ Int.gcd t b = g ∧ t = (g : Int) * x ∧ b = (g : Int) * y ∧ y ≠ 0 ∧ Int.gcd x y = 1 := by
  have hg : 0 < Int.gcd t b := Int.gcd_pos_of_ne_zero_right t hb
  obtain ⟨x, hx⟩ := Int.gcd_dvd_left t b
  obtain ⟨y, hy⟩ := Int.gcd_dvd_right t b
  refine ⟨Int.gcd t b, x, y, hg, rfl, hx, hy, fun e => hb (by rw [hy, e, Int.mul_zero]), ?_⟩
  generalize eg : Int.gcd t b = g at hg hx hy
  have e : g = g * Int.gcd x y := by
    rw [← eg]
    conv => lhs; rw [hx, hy, Int.gcd_mul_left]
    rw [Int.natAbs_natCast, eg]
  exact Nat.eq_of_mul_eq_mul_left hg (by rw [← e, Nat.mul_one])
theorem sgn {b : Int} {g : Nat} {y : Int} (hg : 0 < g) (hb : b = (g : Int) * y) : b.sign = y.sign := by
  rw [hb, Int.sign_mul, Int.sign_eq_one_of_pos (by omega), Int.one_mul]
theorem fr_vals {t b : Int} {g : Nat} {x y : Int} (hg : 0 < g) (eg : Int.gcd t b = g) (ht : t = (g : Int) * x) (hb : b = (g : Int) * y) : frT t b = y.sign * x ∧ frB t b = (y.natAbs : Int) := by
  have g0 : (g : Int) ≠ 0 := by omega
  constructor
  · unfold frT
    rw [eg, sgn hg hb, ht, show y.sign * ((g : Int) * x) = (g : Int) * (y.sign * x) by rw [Int.mul_left_comm]]
    exact Int.mul_ediv_cancel_left _ g0
  · unfold frB
    rw [eg, hb, Int.natAbs_mul, Int.natAbs_natCast, Int.natCast_mul]
    exact Int.mul_ediv_cancel_left _ g0
theorem sgn_abs {y : Int} (hy : y ≠ 0) : y.sign.natAbs = 1 := Int.natAbs_sign_of_ne_zero hy
theorem fr_pos (t : Int) {b : Int} (hb : b ≠ 0) : 0 < frB t b := by
  obtain ⟨g, x, y, hg, eg, ht, hy, hy0, h1⟩ := fr_ex t hb
  rw [(fr_vals hg eg ht hy).2]
  omega
theorem fr_gcd (t : Int) {b : Int} (hb : b ≠ 0) : Int.gcd (frT t b) (frB t b) = 1 := by
  obtain ⟨g, x, y, hg, eg, ht, hy, hy0, h1⟩ := fr_ex t hb
  rw [(fr_vals hg eg ht hy).1, (fr_vals hg eg ht hy).2]
  show Nat.gcd (y.sign * x).natAbs ((y.natAbs : Int)).natAbs = 1
  rw [Int.natAbs_mul, sgn_abs hy0, Nat.one_mul, Int.natAbs_natCast]
  exact h1
theorem fr_eq (t : Int) {b : Int} (hb : b ≠ 0) : frT t b * b = t * frB t b := by
  obtain ⟨g, x, y, hg, eg, ht, hy, hy0, h1⟩ := fr_ex t hb
  rw [(fr_vals hg eg ht hy).1, (fr_vals hg eg ht hy).2]
  rw [ht, hy]
  have e : y * y.sign = (y.natAbs : Int) := Int.mul_sign_self y
  rw [← e]
  simp only [Int.mul_comm, Int.mul_left_comm, Int.mul_assoc]
theorem fr_absT (t : Int) {b : Int} (hb : b ≠ 0) : (frT t b).natAbs ≤ t.natAbs := by
  obtain ⟨g, x, y, hg, eg, ht, hy, hy0, h1⟩ := fr_ex t hb
  rw [(fr_vals hg eg ht hy).1, ht, Int.natAbs_mul, sgn_abs hy0, Nat.one_mul, Int.natAbs_mul, Int.natAbs_natCast]
  exact Nat.le_mul_of_pos_left _ hg
theorem fr_absB (t : Int) {b : Int} (hb : b ≠ 0) : (frB t b).natAbs ≤ b.natAbs := by
  obtain ⟨g, x, y, hg, eg, ht, hy, hy0, h1⟩ := fr_ex t hb
  rw [(fr_vals hg eg ht hy).2, hy, Int.natAbs_mul, Int.natAbs_natCast, Int.natAbs_natCast]
  exact Nat.le_mul_of_pos_left _ hg
theorem fr_negT (t b : Int) : frT (-t) (-b) = frT t b := by
  unfold frT
  rw [Int.sign_neg, Int.neg_mul_neg, Int.gcd_neg, Int.neg_gcd]
theorem fr_negB (t b : Int) : frB (-t) (-b) = frB t b := by
  unfold frB
  rw [Int.natAbs_neg, Int.gcd_neg, Int.neg_gcd]
/-- what the program's two ways reckon -/
theorem fd_pos {g : Nat} {x : Int} (hg : 0 < g) : ((g : Int) * x).fdiv (g : Int) = x := by
  rw [Int.fdiv_eq_ediv_of_nonneg _ (by omega)]
  exact Int.mul_ediv_cancel_left _ (by omega)
theorem fd_neg {g : Nat} {x : Int} (hg : 0 < g) : ((g : Int) * x).fdiv (-(g : Int)) = -x := by
  rw [show (g : Int) * x = -(g : Int) * (-x) by rw [Int.neg_mul_neg]]
  exact Int.mul_fdiv_cancel_left _ (by omega)
theorem fr_lt (t : Int) {b : Int} (hb : b < 0) : t.fdiv (-(Int.gcd t b : Int)) = frT t b ∧ b.fdiv (-(Int.gcd t b : Int)) = frB t b := by
  obtain ⟨g, x, y, hg, eg, ht, hy, hy0, h1⟩ := fr_ex t (show b ≠ 0 by omega)
  rw [(fr_vals hg eg ht hy).1, (fr_vals hg eg ht hy).2, eg]
  have yn : y < 0 := by
    rw [hy] at hb
    exact Int.neg_of_mul_neg_right hb (by omega)
  constructor
  · conv => lhs; rw [ht]
    rw [fd_neg hg, Int.sign_eq_neg_one_of_neg yn]
    omega
  · conv => lhs; rw [hy]
    rw [fd_neg hg]
    omega
theorem fr_ge (t : Int) {b : Int} (hb : 0 < b) : t.fdiv (Int.gcd t b : Int) = frT t b ∧ b.fdiv (Int.gcd t b : Int) = frB t b := by
  obtain ⟨g, x, y, hg, eg, ht, hy, hy0, h1⟩ := fr_ex t (show b ≠ 0 by omega)
  rw [(fr_vals hg eg ht hy).1, (fr_vals hg eg ht hy).2, eg]
  have yn : 0 < y := by
    rw [hy] at hb
    exact Int.pos_of_mul_pos_right hb (by omega)
  constructor
  · conv => lhs; rw [ht]
    rw [fd_pos hg, Int.sign_eq_one_of_pos yn]
    omega
  · conv => lhs; rw [hy]
    rw [fd_pos hg]
    omega
/-! sizes -/
def S (n : Nat) (x : Int) : Prop := x.natAbs < 2 ^ n
theorem S.mono {n m : Nat} {x : Int} (h : S n x) (l : n ≤ m) : S m x := Nat.lt_of_lt_of_le h (Nat.pow_le_pow_right (by decide) l)
theorem S.mul {n m : Nat} {x y : Int} (h : S n x) (k : S m y) : S (n + m) (x * y) := by
  unfold S at *
  rw [Int.natAbs_mul, Nat.pow_add]
  exact Nat.mul_lt_mul'' h k
theorem S.add {n : Nat} {x y : Int} (h : S n x) (k : S n y) : S (n + 1) (x + y) := by
  unfold S at *
  rw [Nat.pow_succ]
  omega
theorem S.sub {n : Nat} {x y : Int} (h : S n x) (k : S n y) : S (n + 1) (x - y) := by
  unfold S at *
  rw [Nat.pow_succ]
  omega
theorem S.frT {n : Nat} {t b : Int} (h : S n t) (hb : b ≠ 0) : S n (frT t b) := Nat.lt_of_le_of_lt (fr_absT t hb) h
theorem S.frB {n : Nat} {t b : Int} (h : S n b) (hb : b ≠ 0) : S n (frB t b) := Nat.lt_of_le_of_lt (fr_absB t hb) h
theorem abs_eq (i : Int) : (if i < 0 then -i else i) = (i.natAbs : Int) := by
  split <;> omega
/-! the same rules with the written part by its name: for the inside of comprehensions -/
theorem pg_tupK {X : Cx} {K : PySem.W.Frag} {es : List Expr} {k n : Nat} {pos : Pos} {t : TGs} (h : X.K = K) (hc : X.calm = true) (hg : PGs X es t) (hn : (assignEach es X.env).length = n := by rfl) (hst : (assignEach es X.env).findIdx? (·.1) = none := by rfl) : PG X (.Tuple es k pos) (gTup K n t) := by
  subst h
  exact pg_tup hc hg hn hst
theorem isiK {X : Cx} {K : PySem.W.Frag} (h : X.K = K) : CallR X (.builtin "isinstance") (rIsi K) := by
  subst h
  exact call_isi
theorem ixlK {X : Cx} {K : PySem.W.Frag} (h : X.K = K) : IxR X (rIxL K) := by
  subst h
  exact ix_list
theorem ixtK {X : Cx} {K : PySem.W.Frag} (h : X.K = K) : IxR X (rIxT K) := by
  subst h
  exact ix_tup
theorem lenK {X : Cx} {K : PySem.W.Frag} (h : X.K = K) : CallR X (.builtin "len") (fun xs H Q => ∃ p ys, xs = [.ref p] ∧ (SqL K H p ys ∨ SqT K H p ys) ∧ Q (.int ys.length) H) := by
  subst h
  exact call_len_seq
theorem sumK {X : Cx} {K : PySem.W.Frag} (h : X.K = K) (hc : X.calm = true) : CallR X (.builtin "sum") (rSum K) := by
  subst h
  exact cr_sum hc
theorem yes_ite {σ : L2.St} {H : Hp} {A B : Hp → Prop} (h : A H) : tYes σ H (fun b H3 => if b = true then A H3 else B H3) := by
  show if true = true then A H else B H
  rw [if_pos rfl]
  exact h
/-! heaps -/
theorem same_upd {H : Hp} {p : Addr} {o : HO} (h : H p = none) : Same H (upd H p o) := fun b x e => by
  rw [upd_ne (ne_of_none e h)]
  exact e
def But (p : Addr) (H H' : Hp) : Prop := ∀ b o, b ≠ p → H b = some o → H' b = some o
theorem But.trans {p : Addr} {H H1 H2 : Hp} (a : But p H H1) (b : But p H1 H2) : But p H H2 := fun c o n e => b c o n (a c o n e)
theorem But.refl (p : Addr) (H : Hp) : But p H H := fun _ _ _ e => e
theorem But.put {p : Addr} {H H' : Hp} {o : HO} (a : But p H H') : But p H (L2.upd H' p o) := fun c x n e => by
  rw [upd_ne n]
  exact a c x n e
theorem same_but {p : Addr} {H H' : Hp} (a : Same H H') : But p H H' := fun c x _ e => a c x e
theorem But.new {p q : Addr} {H H' : Hp} {o : HO} (a : But p H H') (n : H' q = none) : But p H (upd H' q o) := fun c x hn e => by
  have e2 := a c x hn e
  rw [upd_ne (ne_of_none e2 n)]
  exact e2
/-- objects made since H may change: what H has stays -/
theorem same_newer {H H' : Hp} {q : Addr} {o : HO} (a : Same H H') (n : H q = none) : Same H (upd H' q o) := fun c x e => by
  rw [upd_ne (ne_of_none e n)]
  exact a c x e
theorem But.same {p : Addr} {H H1 H2 : Hp} (n : H p = none) (a : Same H H1) (b : But p H1 H2) : Same H H2 := fun c x e =>
  b c x (ne_of_none e n) (a c x e)
/-- the box: a rest, a begin, how often -/
def Bx (H : Hp) (p : Addr) (n : Nat) : Prop := ∃ a b c : Int, H p = some (.lst [.int a, .int b, .int c]) ∧ 0 ≤ a ∧ 0 ≤ b ∧ b < 2147483647 ∧ 0 ≤ c ∧ c ≤ n
theorem Bx.same {H H' : Hp} {p : Addr} {n : Nat} (h : Bx H p n) (s : Same H H') : Bx H' p n := by
  obtain ⟨a, b, c, hp, r⟩ := h
  exact ⟨a, b, c, s _ _ hp, r⟩
theorem Bx.mono {H : Hp} {p : Addr} {n m : Nat} (h : Bx H p n) (l : n ≤ m) : Bx H p m := by
  obtain ⟨a, b, c, hp, h1, h2, h3, h4, h5⟩ := h
  exact ⟨a, b, c, hp, h1, h2, h3, h4, by omega⟩
theorem Bx.new {H : Hp} {p q : Addr} {n : Nat} {o : HO} (h : Bx H p n) (nq : H q = none) : Bx (L2.upd H q o) p n := h.same (same_upd nq)
theorem Bx.ne_tup {H : Hp} {p q : Addr} {n : Nat} {xs : List V} (h : Bx H p n) (e : H q = some (.tup xs)) : q ≠ p := by
  obtain ⟨a, b, c, hp, _⟩ := h
  exact ne_of e hp (fun z => by cases z)
/-- an item of a menu of numbers -/
theorem at_menu {Pr : Int → Prop} {xs : List Int} {r : Int} (h0 : 0 ≤ r) (h1 : r < xs.length) (hx : ∀ x, x ∈ xs → Pr x) : ∃ v, atI (xs.map V.int) r = some (V.int v) ∧ Pr v := by
  obtain ⟨j, rfl⟩ := Int.eq_ofNat_of_zero_le h0
  have hj : j < xs.length := by omega
  refine ⟨xs[j], atI_nat (by rw [List.getElem?_map, List.getElem?_eq_getElem hj]; rfl), hx _ (List.getElem_mem hj)⟩
theorem SqL.mk {K : PySem.W.Frag} {H : Hp} {a : Addr} {xs : List V} (h : H a = some (.lst xs)) : SqL K H a xs := .inl (.inl h)
theorem SqT.mk {K : PySem.W.Frag} {H : Hp} {a : Addr} {xs : List V} (h : H a = some (.tup xs)) : SqT K H a xs := .inl (.inl h)
theorem same_tup {K : PySem.W.Frag} {H H' : Hp} {a : Addr} {xs : List V} (e : Same H H') (h : SqT K H a xs) : SqT K H' a xs := by
  rcases h with (h | ⟨o, h⟩) | h
  · exact .inl (.inl (e _ _ h))
  · exact .inl (.inr ⟨o, e _ _ h⟩)
  · exact .inr h
theorem ixn {n j : Nat} (hj : j < n) : ixN n (j : Int) = some j := by
  unfold ixN
  rw [if_pos (by omega), if_pos (by omega)]
  simp
theorem cdivP {a m : Int} (h0 : 0 < m) (h1 : m < 2 ^ 60) : CDivP a m := ⟨h0, PyProof.noPylong_of_log2 (wide_div (i := a) (b := 60) h0 (by omega) (by decide) (by decide)).2⟩
theorem i01 {c : Prop} [Decidable c] : -(2 ^ 64) < (if c then (1 : Int) else 0) ∧ (if c then (1 : Int) else 0) < 2 ^ 64 := by
  split <;> decide
theorem i01n {c : Prop} [Decidable c] : 0 ≤ (if c then (1 : Int) else 0) := by
  split <;> decide
theorem absn (i : Int) : 0 ≤ (if i < 0 then -i else i) := by
  split <;> omega
/-! the box of a cell -/
def sp__law_box (K : PySem.W.Frag) : Sp := fun vs H Q _ => ∃ (a : Addr) (ns : List Int) (k : Nat), vs = [.ref a, .int (k : Nat)] ∧ SqL K H a (ns.map V.int) ∧ k < 1000 ∧
  ∀ H' p, Same H H' → H p = none → Bx H' p 0 → Q (.ref p) H'
theorem ok__law_box (T : Defs K mg) (TT : Tabs T base) : FnOk P w K mg base CX0 1 T.f__law_box T.fd__law_box ["_law_script", "_law_k"] (sp__law_box K) := by
  refine T.F__law_box.ok sc__law_box (fun vs H Q E h => ?_) (fun cdv A outer s H vs Q E hr h => ?_)
  · obtain ⟨a, ns, k, rfl, hS, hk, q⟩ := h
    rfl
  · obtain ⟨a, ns, k, rfl, hS, hk, q⟩ := h
    refine ⟨_, PSs.nox (pss_cons (ps_set (i := 2) sc__law_box.nd rfl (.inl rfl) pe_int)
    (pss_cons (ps_if (pt_cmpR op_lt (pv 1) (pe_callB call_len_seq (by rfl) T.m_len bt_len (pa_cons (pv 0) pa_nil)) (nomark _)) (pss_one (ps_set (i := 2) sc__law_box.nd rfl (.inl rfl) (pe_ix ix_list (pv 0) (pv 1) (fun _ _ => rfl)))) pss_nil)
    (pss_one (ps_ret (pe_lst (pa_cons (pe_op op_mul (pe_callB call_abs (by rfl) T.m_abs bt_abs (pa_cons (pv 2) pa_nil)) (pe_callTy call_int1 (by rfl) T.m_int bt_int (pa_cons (pe_cmpR op_ge (pe_callB call_abs (by rfl) T.m_abs bt_abs (pa_cons (pv 2) pa_nil)) (pe_op op_pow pe_int pe_int) (nomark _)) pa_nil))) (pa_cons (pe_op op_mod (pe_op op_add (pv 2) (pe_op op_mul (pe_op op_mul pe_int (pv 1)) (pv 1))) pe_int) (pa_cons pe_int pa_nil)))))))), ?_⟩
    refine ⟨.int k, rfl, .ref a, rfl, a, _, rfl, .inl hS, _, _, rfl, rfl, _, rfl, ite2 (fun e => ?_) (fun e => ?_)⟩
    · have hl : (k : Int) < ((ns.map V.int).length : Nat) := of_decide_eq_true e
      rw [List.length_map] at hl
      have hj : k < ns.length := by omega
      refine ⟨.ref a, rfl, .int k, rfl, a, _, _, .int ns[k], rfl, rfl, hS, atI_nat (by rw [List.getElem?_map, List.getElem?_eq_getElem hj]; rfl), ?_⟩
      refine ⟨_, rfl, _, rfl, _, rfl, _, rfl, _, _, rfl, rfl, ⟨by decide, by decide, by decide⟩, _, _, rfl, rfl, .inr ⟨_, rfl, _, _, rfl, rfl, .inr i01, _, rfl, .int k, rfl, _, _, rfl, rfl, .inl ⟨by decide, by decide⟩, .int k, rfl, _, _, rfl, rfl, .inr ⟨by omega, by omega⟩, _, _, rfl, rfl, _, _, rfl, rfl, (show (0 : Int) < 2147483647 by decide), (show 3 ≤ sizeLine by decide), fun p np => ?_⟩⟩
      refine q _ p (same_upd np) np ⟨_, _, _, upd_same, ?_, Int.emod_nonneg _ (by decide), Int.emod_lt_of_pos _ (by decide), Int.le_refl 0, Int.le_refl 0⟩
      exact Int.mul_nonneg (absn _) i01n
    · refine ⟨_, rfl, _, rfl, _, rfl, _, rfl, _, _, rfl, rfl, ⟨by decide, by decide, by decide⟩, _, _, rfl, rfl, .inr ⟨_, rfl, _, _, rfl, rfl, .inr i01, _, rfl, .int k, rfl, _, _, rfl, rfl, .inl ⟨by decide, by decide⟩, .int k, rfl, _, _, rfl, rfl, .inr ⟨by omega, by omega⟩, _, _, rfl, rfl, _, _, rfl, rfl, (show (0 : Int) < 2147483647 by decide), (show 3 ≤ sizeLine by decide), fun p np => ?_⟩⟩
      refine q _ p (same_upd np) np ⟨_, _, _, upd_same, ?_, Int.emod_nonneg _ (by decide), Int.emod_lt_of_pos _ (by decide), Int.le_refl 0, Int.le_refl 0⟩
      exact Int.mul_nonneg (absn _) i01n
/-! one number taken -/
def sp__law_take (K : PySem.W.Frag) : Sp := fun vs H Q _ => ∃ (p : Addr) (m : Int) (n : Nat), vs = [.ref p, .int m] ∧ Bx H p n ∧ 0 < m ∧ m < 2 ^ 60 ∧ n < 1000000000000 ∧
  ∀ H' r, But p H H' → Bx H' p (n + 1) → 0 ≤ r → r < m → Q (.int r) H'
theorem ok__law_take (T : Defs K mg) (TT : Tabs T base) : FnOk P w K mg base CX0 1 T.f__law_take T.fd__law_take ["_law_box_here", "_law_many"] (sp__law_take K) := by
  refine T.F__law_take.ok sc__law_take (fun vs H Q E h => ?_) (fun cdv A outer s H vs Q E hr h => ?_)
  · obtain ⟨p, m, n, rfl, ⟨a, b, c, hp, ha, hb, hb2, hc, hc2⟩, h0, h1, hn, q⟩ := h
    rfl
  · obtain ⟨p, m, n, rfl, ⟨a, b, c, hp, ha, hb, hb2, hc, hc2⟩, h0, h1, hn, q⟩ := h
    refine ⟨_, PSs.nox (pss_cons (ps_if (pt_cmpR op_gt (pe_ix ix_list (pv 0) pe_int (fun _ _ => rfl)) pe_int (nomark _)) (pss_cons (ps_asg (pe_callB call_divmodW (by rfl) T.m_divmod bt_divmod (pa_cons (pe_ix ix_list (pv 0) pe_int (fun _ _ => rfl)) (pa_cons (pv 1) pa_nil))) (pg_tup rfl (pgs_cons (pg_sub (pv 0) pe_int set_list) (pgs_cons (pg_name (i := 2) sc__law_take.nd rfl (.inl rfl)) pgs_nil))))
    (pss_one (ps_ret (pv 2)))) pss_nil)
    (pss_cons (ps_asg (pe_op op_add (pe_ix ix_list (pv 0) pe_int (fun _ _ => rfl)) pe_int) (pg_sub (pv 0) pe_int set_list))
    (pss_cons (ps_set (i := 3) sc__law_take.nd rfl (.inl rfl) (pe_op op_mod (pe_op op_pow (pe_op op_add (pe_ix ix_list (pv 0) pe_int (fun _ _ => rfl)) (pe_op op_mul pe_int (pe_ix ix_list (pv 0) pe_int (fun _ _ => rfl)))) pe_int) pe_int))
    (pss_one (ps_ret (pe_op op_mod (pe_op op_fdiv (pe_op op_mod (pe_op op_add (pe_op op_mul (pv 3) pe_int) (pe_op op_mul (pe_op op_mul (pe_ix ix_list (pv 0) pe_int (fun _ _ => rfl)) (pe_ix ix_list (pv 0) pe_int (fun _ _ => rfl))) pe_int)) pe_int) pe_int) (pv 1))))))), ?_⟩
    have SQ : SqL K H p [.int a, .int b, .int c] := SqL.mk hp
    refine ⟨.ref p, rfl, p, _, 0, _, rfl, rfl, SQ, atI_nat (j := 0) rfl, _, _, rfl, rfl, _, rfl, ite2 (fun e => ?_) (fun e => ?_)⟩
    · refine ⟨.ref p, rfl, p, _, 0, _, rfl, rfl, SQ, atI_nat (j := 0) rfl, .int m, rfl, a, m, rfl, cdivP h0 h1, fun t nt => ?_⟩
      have hp1 : (upd H t (.tup [.int (a / m), .int (a % m)])) p = some (.lst [.int a, .int b, .int c]) := by
        rw [upd_ne (ne_of_none hp nt)]
        exact hp
      refine ⟨t, _, rfl, SqT.mk upd_same, rfl, _, _, rfl, .ref p, rfl, p, _, 0, 0, rfl, rfl, hp1, rfl, _, _, rfl, rfl, _, rfl, ?_⟩
      refine q _ _ ((But.refl p H).new nt).put ⟨_, _, _, upd_same, Int.ediv_nonneg ha (by omega), hb, hb2, hc, by omega⟩ (Int.emod_nonneg _ (by omega)) (Int.emod_lt_of_pos _ h0)
    · refine ⟨.ref p, rfl, p, _, 2, _, rfl, rfl, SQ, atI_nat (j := 2) rfl, _, _, rfl, rfl, .ref p, rfl, p, _, 2, 2, rfl, rfl, hp, rfl, ?_⟩
      have SQ1 : SqL K (upd H p (.lst [.int a, .int b, .int (c + 1)])) p [.int a, .int b, .int (c + 1)] := SqL.mk upd_same
      refine ⟨.ref p, rfl, p, _, 1, _, rfl, rfl, SQ1, atI_nat (j := 1) rfl, .ref p, rfl, p, _, 2, _, rfl, rfl, SQ1, atI_nat (j := 2) rfl, _, _, rfl, rfl, .inl ⟨by decide, by decide⟩, _, _, rfl, rfl, _, _, rfl, rfl, ⟨by decide, by decide, by omega⟩, _, _, rfl, rfl, (show (0 : Int) < 2147483647 by decide), ?_⟩
      refine ⟨_, rfl, _, _, rfl, rfl, .inr ⟨by decide, by decide⟩, .ref p, rfl, p, _, 2, _, rfl, rfl, SQ1, atI_nat (j := 2) rfl, .ref p, rfl, p, _, 2, _, rfl, rfl, SQ1, atI_nat (j := 2) rfl, _, _, rfl, rfl, .inl ⟨by omega, by omega⟩, _, _, rfl, rfl, .inr ⟨by decide, by decide⟩, _, _, rfl, rfl, _, _, rfl, rfl, (show (0 : Int) < 2147483629 by decide), _, _, rfl, rfl, ⟨by decide, by decide⟩, .int m, rfl, _, _, rfl, rfl, h0, ?_⟩
      refine q _ _ (But.refl p H).put ⟨_, _, _, upd_same, ha, hb, hb2, by omega, by omega⟩ (Int.emod_nonneg _ (by omega)) (Int.emod_lt_of_pos _ h0)
/-! the folded cells -/
theorem cut_take (ns : List Int) (m : Nat) : cutV (ns.map V.int) none (some (m : Int)) = (ns.take m).map V.int := by
  unfold cutV
  rw [HT.sIx_none, HT.sIx_nat, List.drop_zero, List.length_map, Nat.sub_zero, ← List.map_take]
  congr 1
  by_cases h : m ≤ ns.length
  · rw [Nat.min_eq_left h]
  · rw [Nat.min_eq_right (by omega), List.take_length, List.take_of_length_le (by omega)]
theorem cut_rest (ns : List Int) (m k : Nat) : ∃ ms : List Int, cutV (ns.map V.int) (some (m : Int)) (some (k : Int)) = ms.map V.int ∧ (0 < ms.length → m < ns.length) ∧ ms.length ≤ ns.length := by
  unfold cutV
  rw [HT.sIx_nat, HT.sIx_nat, List.length_map]
  refine ⟨(ns.drop (min m ns.length)).take (min k ns.length - min m ns.length), ?_, fun h => ?_, ?_⟩
  · rw [List.map_take, List.map_drop]
  · rw [List.length_take, List.length_drop] at h
    omega
  · rw [List.length_take, List.length_drop]
    omega
def sp__law_folded (K : PySem.W.Frag) : Sp := fun vs H Q _ => ∃ (a : Addr) (ns : List Int) (m : Nat), vs = [.ref a, .int (m : Nat)] ∧ SqL K H a (ns.map V.int) ∧ ns.length ≤ 63 ∧ 0 < m ∧ m < 64 ∧
  ∀ H' p (cs : List Int), Same H H' → H p = none → H' p = some (.lst (cs.map V.int)) → cs.length ≤ m → Q (.ref p) H'
theorem ok__law_folded (T : Defs K mg) (TT : Tabs T base) : FnOk P w K mg base CX0 1 T.f__law_folded T.fd__law_folded ["_law_script", "_law_many"] (sp__law_folded K) := by
  refine T.F__law_folded.ok sc__law_folded (fun vs H Q E h => ?_) (fun cdv A outer s H vs Q E hr h => ?_)
  · obtain ⟨a, ns, m, rfl, hS, hlen, hm, hm2, q⟩ := h
    rfl
  · obtain ⟨a, ns, m, rfl, hS, hlen, hm, hm2, q⟩ := h
    refine ⟨_, PSs.nox (pss_cons (ps_set (i := 2) sc__law_folded.nd rfl (.inl rfl) (pe_callTy call_list_of (by rfl) T.m_list bt_list (pa_cons (pe_slice sl_list (pv 0) po_none (po_some (pv 1))) pa_nil)))
    (pss_cons (ps_for PassesOwn.never rfl (pi_enum (by rfl) T.m_enumerate (pa_cons (pe_slice sl_list (pv 0) (po_some (pv 1)) (po_some pe_int)) pa_nil)) (pg_tup rfl (pgs_cons (pg_name (i := 3) sc__law_folded.nd rfl (.inl rfl)) (pgs_cons (pg_name (i := 4) sc__law_folded.nd rfl (.inl rfl)) pgs_nil))) (pss_one (ps_asg (pe_op op_add (pe_ix ix_list (pv 2) (pe_op op_mod (pv 3) (pv 1)) (fun _ _ => rfl)) (pe_op op_mul (pv 4) (pe_op op_add (pv 3) pe_int))) (pg_sub (pv 2) (pe_op op_mod (pv 3) (pv 1)) set_list))))
    (pss_one (ps_ret (pv 2))))), ?_⟩
    refine ⟨.ref a, rfl, .int m, rfl, m, rfl, a, _, rfl, hS, fun c nc => ?_⟩
    rw [cut_take]
    have s1 : Same H (upd H c (.lst ((ns.take m).map V.int))) := same_upd nc
    refine ⟨c, _, rfl, .inl (SqL.mk upd_same), fun l nl => ?_⟩
    have s2 := s1.trans (same_upd nl (o := .lst ((ns.take m).map V.int)))
    refine ⟨.ref a, rfl, .int m, rfl, m, rfl, 63, rfl, a, _, rfl, s2.seq hS, fun d nd => ?_⟩
    obtain ⟨ms, em, hms, hms2⟩ := cut_rest ns m 63
    rw [show (63 : Int) = ((63 : Nat) : Int) from rfl, em]
    have nl0 : H l = none := s1.free nl
    have nd0 : H d = none := s2.free nd
    have ndl : l ≠ d := fun e => by
      rw [← e, upd_same] at nd
      cases nd
    refine ⟨d, _, rfl, SqL.mk upd_same, for_it (walk_enum (xs := ms.map V.int)) (fun i σ H3 => ∃ y3 y4, ∃ cs : List Int, σ = [some (.ref a), some (.int m), some (.ref l), y3, y4] ∧ Same H H3 ∧ H3 l = some (.lst (cs.map V.int)) ∧ cs.length = (ns.take m).length ∧ H3 d = some (.lst (ms.map V.int))) ⟨none, none, ns.take m, rfl, s2.trans (same_upd nd), ?_, rfl, upd_same⟩ ?_ ?_ ?_⟩
    · rw [upd_ne ndl, upd_same]
    · rintro i σ H3 hi ⟨y3, y4, cs, rfl, s3, hl, hc, hd⟩
      exact SqL.mk hd
    · rintro i x σ H3 H4 hi ⟨y3, y4, cs, rfl, s3, hl, hc, hd⟩ ⟨t, x1, x2, rfl, nt, rfl, e1, e2⟩
      rw [List.length_map] at hi
      have lm : m < ns.length := hms (by omega)
      have lc : cs.length = m := by
        rw [hc, List.length_take]
        omega
      have ex1 : x1 = .int (i : Nat) := (Option.some.inj e1).symm
      have ex2 : x2 = .int ms[i] := by
        have e2 : (ms.map V.int)[i]? = some x2 := e2
        rw [List.getElem?_map, List.getElem?_eq_getElem hi] at e2
        exact (Option.some.inj e2).symm
      subst ex1 ex2
      have hl1 : (upd H3 t (.tup [.int (i : Nat), .int ms[i]])) l = some (.lst (cs.map V.int)) := by
        rw [upd_ne (ne_of_none hl nt)]
        exact hl
      have him : i % m < cs.length := by
        rw [lc]
        exact Nat.mod_lt _ hm
      have eim : ((i : Int) % (m : Int)) = ((i % m : Nat) : Int) := by omega
      refine ⟨t, _, rfl, SqT.mk upd_same, rfl, _, _, rfl, _, _, rfl, rfl, ?_⟩
      refine ⟨.ref l, rfl, .int (i : Nat), rfl, .int m, rfl, _, _, rfl, rfl, (show (0 : Int) < (m : Int) by omega), l, _, _, .int cs[i % m], rfl, rfl, SqL.mk hl1, ?_, .int ms[i], rfl, .int (i : Nat), rfl, _, _, rfl, rfl, _, _, rfl, rfl, .inr ⟨by omega, by omega⟩, _, _, rfl, rfl, .ref l, rfl, .int (i : Nat), rfl, .int m, rfl, _, _, rfl, rfl, (show (0 : Int) < (m : Int) by omega), l, _, _, i % m, rfl, rfl, hl1, ?_, ?_⟩
      · rw [eim]
        exact atI_nat (by rw [List.getElem?_map, List.getElem?_eq_getElem him]; rfl)
      · rw [eim]
        exact ixn (by rw [List.length_map]; exact him)
      · refine ⟨_, _, cs.set (i % m) (cs[i % m] + ms[i] * ((i : Int) + 2)), rfl, same_newer (s3.trans (same_upd nt)) nl0, ?_, by rw [List.length_set, hc], ?_⟩
        · rw [upd_same, List.map_set]
        · rw [upd_ne ndl.symm, upd_ne (ne_of_none hd nt)]
          exact hd
    · rintro σ H3 ⟨y3, y4, cs, rfl, s3, hl, hc, hd⟩
      exact ⟨.ref l, rfl, q H3 l cs s3 nl0 hl (by rw [hc, List.length_take]; omega)⟩
/-! the program's own -/
theorem op_fdivNW {X : Cx} : OpR X (binaryOp .FloorDiv) (rI (fun _ j => j ≠ 0 ∧ j.natAbs.log2 < 9000) fun i j => .int (i.fdiv j)) := opI fun _ _ _ _ _ _ _ hc q => floordiv_int hc.1 q (.inl (PyProof.noPylong_of_log2 hc.2))
theorem gcd_step (x y : Nat) : Nat.gcd y (x % y) = Nat.gcd x y := by
  rw [Nat.gcd_comm y, ← Nat.gcd_rec, Nat.gcd_comm]
theorem gcd_small {t b : Int} (hb : b ≠ 0) (h : S 4000 b) : (Int.gcd t b : Int).natAbs.log2 < 9000 := by
  have h1 : Int.gcd t b ≤ b.natAbs := Nat.le_of_dvd (by omega) (Nat.gcd_dvd_right _ _)
  have h2 : 0 < Int.gcd t b := Int.gcd_pos_of_ne_zero_right t hb
  exact (wide_div (i := 0) (j := (Int.gcd t b : Int)) (b := 4000) (by omega) (by rw [Int.natAbs_natCast]; exact Nat.lt_of_le_of_lt h1 h) (by decide) (by decide)).2
def sp_common_divisor (_ : PySem.W.Frag) : Sp := fun vs H Q _ => ∃ a b : Int, vs = [.int a, .int b] ∧ Q (.int (if (1 : Int) > (Int.gcd a b : Int) then 1 else (Int.gcd a b : Int))) H
theorem ok_common_divisor (T : Defs K mg) (TT : Tabs T base) : FnOk P w K mg base CX0 1 T.f_common_divisor T.fd_common_divisor ["one", "other"] (sp_common_divisor K) := by
  refine T.F_common_divisor.ok sc_common_divisor (fun vs H Q E h => ?_) (fun cdv A outer s H vs Q E hr h => ?_)
  · obtain ⟨a, b, rfl, q⟩ := h
    rfl
  · obtain ⟨a, b, rfl, q⟩ := h
    refine ⟨_, PSs.nox (pss_cons (ps_set (i := 0) sc_common_divisor.nd rfl (.inl rfl) (pe_callB call_abs (by rfl) T.m_abs bt_abs (pa_cons (pv 0) pa_nil)))
    (pss_cons (ps_set (i := 1) sc_common_divisor.nd rfl (.inl rfl) (pe_callB call_abs (by rfl) T.m_abs bt_abs (pa_cons (pv 1) pa_nil)))
    (pss_cons (ps_while PassesOwn.never (pt_cmpR op_gt (pv 1) pe_int (nomark _)) (pss_one (ps_par (i := 0) (j := 1) (by rfl) sc_common_divisor.nd rfl rfl (by decide) rfl rfl (pa_cons (pv 1) (pa_cons (pe_op op_mod (pv 0) (pv 1)) pa_nil)) (by rfl))))
    (pss_one (ps_ret (pe_callB (call_max2 rfl) (by rfl) T.m_max bt_max (pa_cons (pv 0) (pa_cons pe_int pa_nil)))))))), ?_⟩
    refine ⟨.int a, rfl, a, rfl, .int b, rfl, b, rfl, ?_⟩
    refine while_by (fun σ H1 => H1 = H ∧ ∃ x y : Nat, σ = [some (.int (x : Nat)), some (.int (y : Nat))] ∧ Nat.gcd x y = Int.gcd a b) (fun σ _ => match σ with | [_, some (.int y)] => y.toNat | _ => 0) ⟨rfl, a.natAbs, b.natAbs, ?_, rfl⟩ ?_ ?_
    · rw [abs_eq, abs_eq]
      rfl
    · rintro σ H1 ⟨rfl, x, y, rfl, hg⟩
      refine ⟨.int (y : Nat), rfl, _, _, rfl, rfl, _, rfl, ite2 (fun e => ?_) (fun e => ?_)⟩
      · have hy : (0 : Int) < (y : Int) := of_decide_eq_true e
        refine ⟨.int (y : Nat), rfl, .int (x : Nat), rfl, .int (y : Nat), rfl, _, _, rfl, rfl, hy, _, _, rfl, ⟨rfl, y, x % y, ?_, ?_⟩, ?_⟩
        · rfl
        · rw [gcd_step, hg]
        · show ((x : Int) % (y : Int)).toNat < ((y : Int)).toNat
          have := Int.emod_lt_of_pos (x : Int) hy
          have := Int.emod_nonneg (x : Int) (show (y : Int) ≠ 0 by omega)
          omega
      · have hy : ¬ (0 : Int) < (y : Int) := fun z => e (decide_eq_true z)
        have y0 : y = 0 := by omega
        subst y0
        rw [Nat.gcd_zero_right] at hg
        refine ⟨.int (x : Nat), rfl, _, _, rfl, ?_⟩
        rw [hg]
        exact q
    · rintro σ H1 Q1 Q2 hQ ⟨v, hv, i, j, e1, e2, k, e3, h3⟩
      exact ⟨v, hv, i, j, e1, e2, k, e3, hQ _ _ h3⟩
def sp_fraction (_ : PySem.W.Frag) : Sp := fun vs H Q _ => ∃ t b : Int, vs = [.int t, .int b] ∧ b ≠ 0 ∧ S 4000 b ∧ ∀ H' p, Same H H' → H p = none → H' p = some (.tup [.int (frT t b), .int (frB t b)]) → Q (.ref p) H'
theorem ok_fraction (T : Defs K mg) (TT : Tabs T base) : FnOk P w K mg base CX0 2 T.f_fraction T.fd_fraction ["top", "bottom"] (sp_fraction K) := by
  have G_common_divisor : FnOk P w K mg base CX0 1 T.f_common_divisor T.fd_common_divisor ["one", "other"] (sp_common_divisor K) := ok_common_divisor T TT
  refine T.F_fraction.ok sc_fraction (fun vs H Q E h => ?_) (fun cdv A outer s H vs Q E hr h => ?_)
  · obtain ⟨t, b, rfl, hb, hs, q⟩ := h
    rfl
  · obtain ⟨t, b, rfl, hb, hs, q⟩ := h
    refine ⟨_, PSs.nox (pss_cons (ps_set (i := 2) sc_fraction.nd rfl (.inl rfl) (pe_call G_common_divisor (hr.mono (by decide)) (by rfl) T.g_common_divisor T.F_common_divisor.kp T.b_common_divisor .nil pass0 (pa_cons (pv 0) (pa_cons (pv 1) pa_nil))))
    (pss_cons (ps_if (pt_cmpR op_lt (pv 1) pe_int (nomark _)) (pss_one (ps_set (i := 2) sc_fraction.nd rfl (.inl rfl) (pe_un un_neg (pv 2)))) pss_nil)
    (pss_one (ps_ret (pe_tup (pa_cons (pe_op op_fdivNW (pv 0) (pv 2)) (pa_cons (pe_op op_fdivNW (pv 1) (pv 2)) pa_nil))))))), ?_⟩
    have hg : 0 < Int.gcd t b := Int.gcd_pos_of_ne_zero_right t hb
    have hd := gcd_small (t := t) hb hs
    refine ⟨.int t, rfl, .int b, rfl, t, b, rfl, ?_⟩
    rw [if_neg (show ¬ (1 : Int) > (Int.gcd t b : Int) by omega)]
    refine ⟨.int b, rfl, _, _, rfl, rfl, _, rfl, ite2 (fun e => ?_) (fun e => ?_)⟩
    · have hb1 : b < 0 := of_decide_eq_true e
      refine ⟨_, rfl, _, rfl, .int t, rfl, _, rfl, _, _, rfl, rfl, ⟨by omega, by rw [Int.natAbs_neg]; exact hd⟩, .int b, rfl, _, rfl, _, _, rfl, rfl, ⟨by omega, by rw [Int.natAbs_neg]; exact hd⟩, (show 2 ≤ sizeLine by decide), fun p np => ?_⟩
      refine q _ p (same_upd np) np ?_
      rw [upd_same]
      exact congrArg some (by rw [← (fr_lt t hb1).1, ← (fr_lt t hb1).2])
    · have hb1 : ¬ b < 0 := fun z => e (decide_eq_true z)
      refine ⟨.int t, rfl, _, rfl, _, _, rfl, rfl, ⟨by omega, hd⟩, .int b, rfl, _, rfl, _, _, rfl, rfl, ⟨by omega, hd⟩, (show 2 ≤ sizeLine by decide), fun p np => ?_⟩
      refine q _ p (same_upd np) np ?_
      rw [upd_same]
      exact congrArg some (by rw [← (fr_ge t (show 0 < b by omega)).1, ← (fr_ge t (show 0 < b by omega)).2])
/-! sum(tuple) -/
theorem preSum_take (ns : List Int) : ∀ k, preSum (fun i => ns.getD i 0) k = (ns.take k).sum
  | 0 => rfl
  | k + 1 => by
    show preSum (fun i => ns.getD i 0) k + ns.getD k 0 = _
    rw [preSum_take ns k, List.take_add_one, List.getD_eq_getElem?_getD]
    cases ns[k]? with
    | none => simp
    | some x => simp
def rSumT (K : PySem.W.Frag) : List V → Hp → VK → Prop := fun vs H Q => ∃ (a : Addr) (ns : List Int), vs = [V.ref a] ∧ SqT K H a (ns.map V.int) ∧ Q (.int ns.sum) H
theorem cr_sumT {X : Cx} (hc : X.calm = true) : CallR X (.builtin "sum") (rSumT X.K) := by
  intro pins s σ H vs us Q I r h
  obtain ⟨a, ns, rfl, hs, q⟩ := h
  obtain ⟨its, rv, ht, _⟩ := I.tuple hs
  rw [Vals.ref1 r]
  have hh := I.ok.hd hc
  have lta : a < s.heap.objs.size := by
    obtain ⟨o, ho, _⟩ := ht
    exact Heap.lt_size ho
  have hl := rv.length
  rw [List.length_map] at hl
  refine call_sum_walkG (wpAny_pyIter_tuple (show s.heap.IsTuple a its.toArray from ht) ⟨s.heap.objs.size, _, _, _, _, _, fun i => ns.getD i 0, rfl, Walks.tuple (A := X.A.in1) hh s.heap.objs.size a (Nat.ne_of_lt lta) its.toArray, ⟨⟨_, Heap.get?_push_size _ rfl, rfl, rfl⟩, (show s.heap.IsTuple a its.toArray from ht).at fun o e => Heap.get?_push_of_some _ e⟩, fun b hb => ?_, fun i v hv => ?_, fun h' tk t' hk => ?_⟩)
  · show b < (s.heap.push _).objs.size
    rw [Heap.size_push]
    rcases List.mem_cons.mp hb with z | z
    · rw [z]
      exact Nat.lt_succ_self _
    · rw [List.mem_singleton.mp z]
      exact Nat.lt_succ_of_lt lta
  · have hv2 : its[i]? = some v := by simpa using hv
    have hi : i < ns.length := by
      have := (List.getElem?_eq_some_iff.mp hv2).1
      omega
    obtain ⟨u, hu, ru⟩ := rv.get (show (ns.map V.int)[i]? = some (V.int ns[i]) by rw [List.getElem?_map, List.getElem?_eq_getElem hi]; rfl)
    rw [hv2] at hu
    cases hu
    obtain ⟨t, rfl⟩ := (show ∃ t, v = Value.int ns[i] t from ru)
    exact ⟨t, by
      show Value.int ns[i] t = Value.int (ns.getD i 0) t
      rw [List.getD_eq_getElem?_getD, List.getElem?_eq_getElem hi]
      rfl⟩
  · rw [preSum_take, List.take_of_length_le (by rw [List.size_toArray]; omega)]
    refine ⟨.int _, H, I.kept fun b o e => hk b o (fun z => ?_) (Heap.get?_push_of_some _ e), ⟨_, rfl⟩, q⟩
    rw [List.mem_singleton] at z
    rw [z] at e
    exact Nat.lt_irrefl _ (Heap.lt_size e)
theorem sumTK {X : Cx} {K : PySem.W.Frag} (h : X.K = K) (hc : X.calm = true) : CallR X (.builtin "sum") (rSumT K) := by
  subst h
  exact cr_sumT hc
/-! heaps with tables -/
theorem trip0 : TriplesOk (#[] : Array Value).toList := trivial
structure Sam (H H' : Hp) : Prop where
  obj : ∀ b o, (∀ ps, o ≠ .tbl ps) → H b = some o → H' b = some o
  tab : ∀ b ps, H b = some (.tbl ps) → ∃ ps', H' b = some (.tbl ps') ∧ (TriplesOk ps.toList → TriplesOk ps'.toList)
theorem Sam.of {H H' : Hp} (s : Same H H') : Sam H H' := ⟨fun b o _ e => s b o e, fun b ps e => ⟨ps, s b _ e, fun z => z⟩⟩
theorem Sam.refl (H : Hp) : Sam H H := .of (Same.refl H)
theorem Sam.trans {H H1 H2 : Hp} (a : Sam H H1) (b : Sam H1 H2) : Sam H H2 := ⟨fun c o n e => b.obj c o n (a.obj c o n e), fun c ps e => by
  obtain ⟨p1, e1, t1⟩ := a.tab c ps e
  obtain ⟨p2, e2, t2⟩ := b.tab c p1 e1
  exact ⟨p2, e2, fun z => t2 (t1 z)⟩⟩
theorem Sam.tabG {H H' : Hp} {P : Addr} (a : Sam H H') (t : GxR.TabG H P) : GxR.TabG H' P := by
  obtain ⟨ps, e, z⟩ := t
  obtain ⟨p1, e1, t1⟩ := a.tab P ps e
  exact ⟨p1, e1, t1 z⟩
theorem Sam.tup {H H' : Hp} {a : Addr} {xs : List V} (s : Sam H H') (h : H a = some (.tup xs)) : H' a = some (.tup xs) := s.obj _ _ (fun _ z => by cases z) h
theorem Sam.lst {H H' : Hp} {a : Addr} {xs : List V} (s : Sam H H') (h : H a = some (.lst xs)) : H' a = some (.lst xs) := s.obj _ _ (fun _ z => by cases z) h
theorem Sam.free {H H' : Hp} (s : Sam H H') {l : Addr} (h : H' l = none) : H l = none := by
  cases q : H l with
  | none => rfl
  | some o =>
    cases o with
    | tbl ps =>
      obtain ⟨p1, e1, _⟩ := s.tab l ps q
      rw [e1] at h
      cases h
    | _ =>
      rw [s.obj l _ (fun _ z => by cases z) q] at h
      cases h
theorem Sam.tabbed {P : Addr} {H H' : Hp} (g : GxR.TabG H P) (t : GxR.Tabbed P H H') : Sam H H' := by
  obtain ⟨⟨p1, e1, z1⟩, k⟩ := t
  obtain ⟨p0, e0, _⟩ := g
  refine ⟨fun b o n e => ?_, fun b ps e => ?_⟩
  · by_cases hb : b = P
    · rw [hb, e0] at e
      exact absurd (Option.some.inj e).symm (n p0)
    · rw [k b hb]
      exact e
  · by_cases hb : b = P
    · rw [hb]
      exact ⟨p1, e1, fun _ => z1⟩
    · exact ⟨ps, by rw [k b hb]; exact e, fun z => z⟩
theorem sam_newer {H H' : Hp} {q : Addr} {o : HO} (a : Sam H H') (n : H q = none) : Sam H (upd H' q o) := ⟨fun c x hx e => by
    rw [upd_ne (ne_of_none e n)]
    exact a.obj c x hx e, fun c ps e => by
    obtain ⟨p1, e1, t1⟩ := a.tab c ps e
    exact ⟨p1, by rw [upd_ne (ne_of_none e n)]; exact e1, t1⟩⟩
/-- all but the box stays, tables grow -/
structure Bus (p : Addr) (H H' : Hp) : Prop where
  obj : ∀ b o, b ≠ p → (∀ ps, o ≠ .tbl ps) → H b = some o → H' b = some o
  tab : ∀ b ps, b ≠ p → H b = some (.tbl ps) → ∃ ps', H' b = some (.tbl ps') ∧ (TriplesOk ps.toList → TriplesOk ps'.toList)
theorem Bus.of {p : Addr} {H H' : Hp} (s : But p H H') : Bus p H H' := ⟨fun b o n _ e => s b o n e, fun b ps n e => ⟨ps, s b _ n e, fun z => z⟩⟩
theorem Bus.sam {p : Addr} {H H' : Hp} (s : Sam H H') : Bus p H H' := ⟨fun b o _ n e => s.obj b o n e, fun b ps _ e => s.tab b ps e⟩
theorem Bus.refl (p : Addr) (H : Hp) : Bus p H H := .of (But.refl p H)
theorem Bus.trans {p : Addr} {H H1 H2 : Hp} (a : Bus p H H1) (b : Bus p H1 H2) : Bus p H H2 := ⟨fun c o h n e => b.obj c o h n (a.obj c o h n e), fun c ps h e => by
  obtain ⟨p1, e1, t1⟩ := a.tab c ps h e
  obtain ⟨p2, e2, t2⟩ := b.tab c p1 h e1
  exact ⟨p2, e2, fun z => t2 (t1 z)⟩⟩
theorem Bus.tup {p : Addr} {H H' : Hp} {n : Nat} {a : Addr} {xs : List V} (s : Bus p H H') (B : Bx H p n) (h : H a = some (.tup xs)) : H' a = some (.tup xs) := s.obj _ _ (B.ne_tup h) (fun _ z => by cases z) h
theorem Bus.lst {p : Addr} {H H' : Hp} {a : Addr} {xs : List V} (s : Bus p H H') (ne : a ≠ p) (h : H a = some (.lst xs)) : H' a = some (.lst xs) := s.obj _ _ ne (fun _ z => by cases z) h
theorem Bus.tabG {p : Addr} {H H' : Hp} {n : Nat} {P : Addr} (s : Bus p H H') (B : Bx H p n) (t : GxR.TabG H P) : GxR.TabG H' P := by
  obtain ⟨ps, e, z⟩ := t
  obtain ⟨a, b, c, hp, _⟩ := B
  obtain ⟨p1, e1, t1⟩ := s.tab P ps (ne_of e hp (fun z => by cases z)) e
  exact ⟨p1, e1, t1 z⟩
theorem Bus.new {p q : Addr} {H H' : Hp} {o : HO} (a : Bus p H H') (n : H' q = none) : Bus p H (upd H' q o) := a.trans (.of ((But.refl p H').new n))
/-- a thing made since H may change -/
theorem bus_newer {p q : Addr} {H H' : Hp} {o : HO} (a : Bus p H H') (n : H q = none) : Bus p H (upd H' q o) := ⟨fun c x h hx e => by
    rw [upd_ne (ne_of_none e n)]
    exact a.obj c x h hx e, fun c ps h e => by
    obtain ⟨p1, e1, t1⟩ := a.tab c ps h e
    exact ⟨p1, by rw [upd_ne (ne_of_none e n)]; exact e1, t1⟩⟩
theorem Bus.free {p : Addr} {H H' : Hp} {n : Nat} (s : Bus p H H') (B : Bx H p n) (B' : ∃ m, Bx H' p m) {l : Addr} (h : H' l = none) : H l = none := by
  cases q : H l with
  | none => rfl
  | some o =>
    have nl : l ≠ p := fun z => by
      obtain ⟨m, _, _, _, hp, _⟩ := B'
      rw [z, hp] at h
      cases h
    cases o with
    | tbl ps =>
      obtain ⟨p1, e1, _⟩ := s.tab l ps nl q
      rw [e1] at h
      cases h
    | _ =>
      rw [s.obj l _ nl (fun _ z => by cases z) q] at h
      cases h
theorem Bx.sam {H H' : Hp} {p : Addr} {n : Nat} (h : Bx H p n) (s : Sam H H') : Bx H' p n := by
  obtain ⟨a, b, c, hp, r⟩ := h
  exact ⟨a, b, c, s.lst hp, r⟩
theorem bus_same {p : Addr} {H H1 H2 : Hp} (n : H p = none) (a : Sam H H1) (b : Bus p H1 H2) : Sam H H2 := ⟨fun c x h e => b.obj c x (ne_of_none e n) h (a.obj c x h e), fun c ps e => by
  obtain ⟨p1, e1, t1⟩ := a.tab c ps e
  obtain ⟨p2, e2, t2⟩ := b.tab c p1 (ne_of_none e n) e1
  exact ⟨p2, e2, fun z => t2 (t1 z)⟩⟩
theorem ne_new {H : Hp} {p q : Addr} {n : Nat} (B : Bx H p n) (nq : H q = none) : q ≠ p := fun e => by
  obtain ⟨_, _, _, hp, _⟩ := B
  rw [e, hp] at nq
  cases nq
/-! a tuple so many times -/
theorem tuple_once (l : Addr) (items : Array Value) (n : Nat) (dd : Option Addr) (sl : Array (Option Value)) (u : Tok) :
    Meets (Builtin.«tuple.__mul__» ⟨[.ref l, .int 1 u], []⟩) (fun _ R s => s.heap.get? l = some { cls := .type "tuple", dict := dd, data := .seq items n, slots := sl } ∧ R (.ok (.ret (Value.ref l))) { s with toks := s.toks }) :=
  .of_wp fun prog w A R s h => by
    obtain ⟨hp, g, d, tk, os⟩ := s
    obtain ⟨hl, h⟩ := h
    have f1 := AutoSeq1.idx_int
    have c1 : (items.isEmpty || (1 : Int) == 1) = true := by simp
    wp_walk using wpAny_loadPart' hl
    repeat (first
      | (refine wpAny_ite_true (decide_eq_true c1) ?_; wp_walk using wpAny_loadPart' hl)
      | (refine wpAny_ite_false (decide_eq_false (by decide)) ?_; wp_walk using wpAny_loadPart' hl))
    exact ⟨_, rfl, h⟩
def rRepA (K : PySem.W.Frag) : R2 := fun x y H Q => ∃ (l : Addr) (k : Nat) (xs : List V), x = .ref l ∧ y = .int (k : Nat) ∧ SqT K H l xs ∧ xs ≠ [] ∧ 1 ≤ k ∧ xs.length * k ≤ 1000000 ∧ (k = 1 → Q (.ref l) H) ∧
  (2 ≤ k → ∀ p, H p = none → Q (.ref p) (upd H p (.tup (List.replicate k xs).flatten)))
theorem op_repA {X : Cx} : OpR X (binaryOp .Mult) (rRepA X.K) := by
  intro pins s σ H x y v u Q I rx ry h
  obtain ⟨l, k, xs, rfl, rfl, hT, hne, h1, hz, q1, q2⟩ := h
  cases rx
  obtain ⟨t, rfl⟩ := ry
  obtain ⟨its, r, ⟨⟨cls, dd, data, sl⟩, ho, hc, n, hd⟩, hs⟩ := I.tuple hT
  simp only at hc hd
  subst hc hd
  have lx : 0 < xs.length := List.length_pos_iff.mpr hne
  have le : its.length = xs.length := r.length.symm
  have ke : k * xs.length ≤ 1000000 := by
    rw [Nat.mul_comm]
    exact hz
  have kl : k ≤ 1000000 := Nat.le_trans (Nat.le_mul_of_pos_right k lx) ke
  have ne : its.toArray.isEmpty = false := by
    cases its with
    | nil =>
      rw [← le] at lx
      cases lx
    | cons a b => rfl
  by_cases k1 : k = 1
  · subst k1
    refine wpAny_binaryOp_repeat_ref (T := "tuple") (U := "int") (by decide) ⟨_, ho, rfl⟩ (fun s' => typeIs_int s' _ t) noFill_tuple_mul F.fills_int_mul F.slot_int_rmul repeat_tuple F.slot_int_index.lookup
      (call_meets F.slot_int_rmul (typeIs_int s _ t) F.entry_int_rmul (F.args_int_rmul_2 _ _) (int_rmul_tuple _ t l its.toArray n dd sl)
        ⟨ho, rfl, ⟨_, ho, rfl⟩, call_meets F.slot_tuple_mul ⟨_, ho, rfl⟩ F.entry_tuple_mul (F.args_tuple_mul_2 _ _) (tuple_once l its.toArray n dd sl t) ⟨ho, ?_⟩⟩)
    exact ⟨.ref l, H, I, rfl, q1 rfl⟩
  · have k2 : 2 ≤ k := by omega
    have sz : its.toArray.size = xs.length := by rw [List.size_toArray, le]
    have pr : ((its.toArray.size : Nat) : Int) * (k : Int) ≤ 1000000 := by
      rw [sz, ← Int.natCast_mul]
      omega
    have fl : (List.replicate k its).flatten.length ≤ sizeLine := by
      rw [PyProof.Rows.lm_len_rep_flat, le, sizeLine_eq]
      omega
    have d0 : (decide ((k : Int) < -(2 ^ 63)) || decide ((k : Int) ≥ 2 ^ 63)) = false := by
      rw [decide_eq_false (show ¬ (k : Int) < -(2 ^ 63) by omega), decide_eq_false (show ¬ (k : Int) ≥ 2 ^ 63 by omega)] <;> rfl
    have d1 : (its.toArray.isEmpty || (k : Int) == 1) = false := by
      rw [ne, Bool.false_or]
      exact beq_eq_false_iff_ne.mpr (by omega)
    have d2 : (decide ((k : Int) ≤ 0) || its.toArray.isEmpty) = false := by
      rw [ne, Bool.or_false]
      exact decide_eq_false (by omega)
    have d4 : Builtin.Tuple.tupleTooMany (((its.toArray.size : Nat) : Int) * (k : Int)) = false := by
      unfold Builtin.Tuple.tupleTooMany
      rw [sizeLine_eq]
      exact decide_eq_false (by omega)
    refine wpAny_binaryOp_repeat_ref (T := "tuple") (U := "int") (by decide) ⟨_, ho, rfl⟩ (fun s' => typeIs_int s' _ t) noFill_tuple_mul F.fills_int_mul F.slot_int_rmul repeat_tuple F.slot_int_index.lookup
      (call_meets F.slot_int_rmul (typeIs_int s _ t) F.entry_int_rmul (F.args_int_rmul_2 _ _) (int_rmul_tuple _ t l its.toArray n dd sl)
        ⟨ho, rfl, ⟨_, ho, rfl⟩, call_meets F.slot_tuple_mul ⟨_, ho, rfl⟩ F.entry_tuple_mul (F.args_tuple_mul_2 _ _) (tuple_mulW l its.toArray n dd sl (k : Int) t d0 d1 d2 (by omega) d4 (by rw [Int.toNat_natCast, size_rep, List.size_toArray]; exact fl)) ⟨ho, ?_⟩⟩)
    rw [Int.toNat_natCast, size_rep]
    refine ⟨.ref s.heap.objs.size, _, I.laid (t' := s.toks) (o := .tup (List.replicate k xs).flatten) (fun b ob q => Heap.get?_push_of_some _ q) (Nat.le_refl _) ⟨?_, _, r.rep k, IsTup.new _ _⟩, rfl, q2 k2 _ (I.hok.fresh (Nat.le_refl _))⟩
    rw [PyProof.Rows.lm_len_rep_flat, sizeLine_eq]
    omega
/-! the law's own rows -/
def Bits (rs : List Int) : Prop := ∀ x, x ∈ rs → x = 0 ∨ x = 1
theorem Bits.snoc {rs : List Int} {x : Int} (h : Bits rs) (hx : x = 0 ∨ x = 1) : Bits (rs ++ [x]) := fun y hy => by
  rcases List.mem_append.mp hy with hy | hy
  · exact h y hy
  · rw [List.mem_singleton] at hy
    rw [hy]
    exact hx
theorem but_newer {p q : Addr} {H H' : Hp} {o : HO} (a : But p H H') (n : H q = none) : But p H (upd H' q o) := fun c x hn e => by
  rw [upd_ne (ne_of_none e n)]
  exact a c x hn e
theorem Bx.other {H : Hp} {p q : Addr} {n : Nat} {o : HO} (h : Bx H p n) (nq : q ≠ p) : Bx (L2.upd H q o) p n := by
  obtain ⟨a, b, c, hp, r⟩ := h
  exact ⟨a, b, c, by rw [upd_ne (Ne.symm nq)]; exact hp, r⟩
def PV (p D : Addr) (HX : Hp) (k i : Nat) (H1 : Hp) : Prop := ∃ rs : List Int, rs.length = i ∧ Bits rs ∧ But p HX H1 ∧ Bx H1 p (k + i) ∧ H1 D = some (.lst (rs.map V.int))
theorem pv_start {p D : Addr} {HX : Hp} {k : Nat} (nD : HX D = none) (B : Bx HX p k) : PV p D HX k 0 (upd HX D (.lst [])) := ⟨[], rfl, fun _ h => (by cases h), (But.refl p HX).new nD, B.new nD, upd_same⟩
theorem pv_step {p D : Addr} {HX H1 H4 : Hp} {k i : Nat} {x : Int} (nD : HX D = none) (Dp : D ≠ p) (h : PV p D HX k i H1) (b : But p H1 H4) (B : Bx H4 p (k + (i + 1))) (hi : i < 100000) (hx : x = 0 ∨ x = 1) :
    ∃ acc, H4 D = some (.lst acc) ∧ acc.length < sizeLine ∧ PV p D HX k (i + 1) (upd H4 D (.lst (acc ++ [.int x]))) := by
  obtain ⟨rs, hl, hb, b1, _, hD⟩ := h
  have hsl : sizeLine = 16777216 := by decide
  refine ⟨_, b _ _ Dp hD, by rw [List.length_map]; omega, rs ++ [x], by rw [List.length_append, hl]; rfl, hb.snoc hx, but_newer (b1.trans b) nD, B.other Dp, ?_⟩
  rw [upd_same, List.map_append]
  rfl
theorem rep_one (m : Nat) (x : Int) : (List.replicate m [V.int x]).flatten = (List.replicate m x).map V.int := by
  rw [List.map_replicate]
  induction m with
  | zero => rfl
  | succ m ih => rw [List.replicate_succ, List.flatten_cons, ih, List.replicate_succ]; rfl
/-! a tuple no times, too -/
theorem tuple_nought (l : Addr) (items : Array Value) (n : Nat) (dd : Option Addr) (sl : Array (Option Value)) (u : Tok) (hi : items.isEmpty = false) :
    Meets (Builtin.«tuple.__mul__» ⟨[.ref l, .int 0 u], []⟩) (fun _ R s => s.heap.get? l = some { cls := .type "tuple", dict := dd, data := .seq items n, slots := sl } ∧ R (.ok (.ret (Value.ref s.heap.objs.size))) { s with heap := s.heap.push { cls := Value.type "tuple", data := Data.seq #[] }, toks := s.toks }) :=
  .of_wp fun prog w A R s h => by
    obtain ⟨hp, g, d, tk, os⟩ := s
    obtain ⟨hl, h⟩ := h
    have f1 := AutoSeq1.idx_int
    have c1 : (items.isEmpty || (0 : Int) == 1) = false := by rw [hi]; rfl
    have c2 : (decide ((0 : Int) ≤ 0) || items.isEmpty) = true := by simp
    wp_walk using wpAny_loadPart' hl
    repeat (first
      | (refine wpAny_ite_false (decide_eq_false (by rw [c1]; exact Bool.false_ne_true)) ?_; wp_walk using wpAny_loadPart' hl)
      | (refine wpAny_ite_true (decide_eq_true c2) ?_; wp_walk using wpAny_loadPart' hl)
      | (refine wpAny_ite_false (decide_eq_false (by decide)) ?_; wp_walk using wpAny_loadPart' hl))
    exact ⟨_, rfl, h⟩
def rRepB (K : PySem.W.Frag) : R2 := fun x y H Q => ∃ (l : Addr) (k : Nat) (xs : List V), x = .ref l ∧ y = .int (k : Nat) ∧ SqT K H l xs ∧ xs ≠ [] ∧ xs.length * k ≤ 1000000 ∧ (k = 1 → Q (.ref l) H) ∧
  (k ≠ 1 → ∀ p, H p = none → Q (.ref p) (upd H p (.tup (List.replicate k xs).flatten)))
theorem op_repB {X : Cx} : OpR X (binaryOp .Mult) (rRepB X.K) := by
  intro pins s σ H x y v u Q I rx ry h
  obtain ⟨l, k, xs, rfl, rfl, hT, hne, hz, q1, q2⟩ := h
  by_cases k0 : k = 0
  · subst k0
    cases rx
    obtain ⟨t, rfl⟩ := ry
    obtain ⟨its, r, ⟨⟨cls, dd, data, sl⟩, ho, hc, n, hd⟩, hs⟩ := I.tuple hT
    simp only at hc hd
    subst hc hd
    have le : its.length = xs.length := r.length.symm
    have ne : its.toArray.isEmpty = false := by
      cases its with
      | nil => exact absurd (List.eq_nil_of_length_eq_zero le.symm) hne
      | cons a b => rfl
    refine wpAny_binaryOp_repeat_ref (T := "tuple") (U := "int") (by decide) ⟨_, ho, rfl⟩ (fun s' => typeIs_int s' _ t) noFill_tuple_mul F.fills_int_mul F.slot_int_rmul repeat_tuple F.slot_int_index.lookup
      (call_meets F.slot_int_rmul (typeIs_int s _ t) F.entry_int_rmul (F.args_int_rmul_2 _ _) (int_rmul_tuple _ t l its.toArray n dd sl)
        ⟨ho, rfl, ⟨_, ho, rfl⟩, call_meets F.slot_tuple_mul ⟨_, ho, rfl⟩ F.entry_tuple_mul (F.args_tuple_mul_2 _ _) (tuple_nought l its.toArray n dd sl t ne) ⟨ho, ?_⟩⟩)
    exact ⟨.ref s.heap.objs.size, _, I.laid (t' := s.toks) (o := .tup []) (fun b ob q => Heap.get?_push_of_some _ q) (Nat.le_refl _) ⟨Nat.zero_le _, [], .nil, IsTup.new _ _⟩, rfl, q2 (by decide) _ (I.hok.fresh (Nat.le_refl _))⟩
  · exact op_repA pins s σ H _ _ v u Q I rx ry ⟨l, k, xs, rfl, rfl, hT, hne, by omega, hz, q1, fun z => q2 (by omega)⟩
/-- (x,) so many times -/
theorem rep_go {K : PySem.W.Frag} {H : Hp} {t : Addr} {x v : Int} {k : Nat} {Q : VK} (hv : v = (k : Nat)) (ht : H t = some (.tup [.int x])) (hk : k ≤ 100000) (q : ∀ H' p, Same H H' → H' p = some (.tup ((List.replicate k x).map V.int)) → Q (.ref p) H') : rRepB K (.ref t) (.int v) H Q := by
  subst hv
  refine ⟨t, k, _, rfl, rfl, SqT.mk ht, by simp, (show 1 * k ≤ 1000000 by omega), fun z => ?_, fun z p np => ?_⟩
  · subst z
    exact q H t (Same.refl H) ht
  · exact q _ p (same_upd np) (by rw [upd_same, rep_one])
theorem cat_go {K : PySem.W.Frag} {H : Hp} {a b : Addr} {rs ss : List Int} {Q : VK} (ha : H a = some (.tup (rs.map V.int))) (hb : H b = some (.tup (ss.map V.int))) (hl : rs.length + ss.length ≤ 100000)
    (q : ∀ H' p, Same H H' → H' p = some (.tup ((rs ++ ss).map V.int)) → Q (.ref p) H') : rCatA K (.ref a) (.ref b) H Q := by
  have hsl : sizeLine = 16777216 := by decide
  refine ⟨a, b, _, _, rfl, rfl, SqT.mk ha, SqT.mk hb, by rw [List.length_map, List.length_map]; omega, fun z => ?_, fun _ z => ?_, fun _ _ p np => ?_⟩
  · rw [List.map_eq_nil_iff.mp z] at q
    exact q H b (Same.refl H) hb
  · rw [List.map_eq_nil_iff.mp z] at q
    exact q H a (Same.refl H) (by rw [List.append_nil]; exact ha)
  · exact q _ p (same_upd np) (by rw [upd_same, List.map_append])
theorem catK {X : Cx} {K : PySem.W.Frag} (h : X.K = K) : OpR X (binaryOp .Add) (rCatA K) := by
  subst h
  exact op_catA
theorem zipAK {X : Cx} {K : PySem.W.Frag} {e e2 : Expr} {ta : TA} {p pos tpos : Pos} {elts : List Expr} {kk : Nat} (h : X.K = K) (hg : Gl X "zip") (hm : X.mg "zip" = none) (ha : PA X [e, e2] ta)
    (hs : starEach [e, e2] X.env = (false, eval e X.env) :: starEach [e2] X.env := by rfl) (hpl : (backTo pos (starEach [e2] X.env)).any (·.1) = false := by rfl) :
    PI X (.Tuple elts kk tpos) (.Call (.Name "zip" p) [e, e2] [] pos) (RZ.iZipA K ta) := by
  subst h
  exact RZ.pi_zipA hg hm ha hs hpl
/-! the ones of a row told again and again -/
def cn (rs : List Int) : Nat → Int
  | 0 => 0
  | k + 1 => cn rs k + rs.getD (k % rs.length) 0
/-- what the first k bits are off, times the length -/
def Df (rs : List Int) (k : Nat) : Int := cn rs k * rs.length - k * rs.sum
theorem cn_take (rs : List Int) : ∀ k, k ≤ rs.length → cn rs k = (rs.take k).sum
  | 0, _ => rfl
  | k + 1, h => by
    show cn rs k + rs.getD (k % rs.length) 0 = _
    rw [cn_take rs k (by omega), Nat.mod_eq_of_lt (by omega), List.take_add_one, List.getD_eq_getElem?_getD, List.getElem?_eq_getElem (show k < rs.length by omega), List.sum_append]
    simp
theorem cn_all (rs : List Int) : cn rs rs.length = rs.sum := by
  rw [cn_take rs _ (Nat.le_refl _), List.take_length]
theorem cn_again (rs : List Int) : ∀ k, cn rs (k + rs.length) = cn rs k + rs.sum
  | 0 => by rw [Nat.zero_add, cn_all]; show _ = 0 + _; omega
  | k + 1 => by
    rw [show k + 1 + rs.length = (k + rs.length) + 1 by omega]
    show cn rs (k + rs.length) + rs.getD ((k + rs.length) % rs.length) 0 = (cn rs k + rs.getD (k % rs.length) 0) + _
    rw [cn_again rs k, Nat.add_mod_right]
    omega
theorem Df_again (rs : List Int) (k : Nat) : Df rs (k + rs.length) = Df rs k := by
  unfold Df
  rw [cn_again, Int.add_mul, Int.natCast_add, Int.add_mul, Int.mul_comm rs.sum]
  omega
theorem Df_zero (rs : List Int) : Df rs 0 = 0 := by
  unfold Df
  show 0 * _ - ((0 : Nat) : Int) * _ = (0 : Int)
  simp
theorem Df_step (rs : List Int) (k : Nat) : Df rs (k + 1) = Df rs k + rs.length * rs.getD (k % rs.length) 0 - rs.sum := by
  unfold Df
  show (cn rs k + rs.getD (k % rs.length) 0) * _ - _ = _
  rw [Int.add_mul, Int.natCast_add, Int.add_mul, Int.mul_comm (rs.getD (k % rs.length) 0)]
  omega
/-- the greatest off up to k, and the first place that has it -/
structure Best (D : Nat → Int) (k : Nat) (w : Int) (j : Nat) : Prop where
  le : j ≤ k
  eq : ((D j).natAbs : Int) = w
  most : ∀ i, i ≤ k → ((D i).natAbs : Int) ≤ w
  first : ∀ i, i < j → ((D i).natAbs : Int) < w
theorem Best.zero {D : Nat → Int} (h : D 0 = 0) : Best D 0 0 0 := ⟨Nat.le_refl 0, by rw [h]; rfl, fun i hi => by rw [show i = 0 by omega, h]; exact Int.le_refl 0, fun i hi => by omega⟩
theorem Best.more {D : Nat → Int} {k j : Nat} {w : Int} (h : Best D k w j) (l : w < ((D (k + 1)).natAbs : Int)) : Best D (k + 1) ((D (k + 1)).natAbs : Int) (k + 1) :=
  ⟨Nat.le_refl _, rfl, fun i hi => by
    by_cases e : i = k + 1
    · rw [e]; exact Int.le_refl _
    · exact Int.le_of_lt (Int.lt_of_le_of_lt (h.most i (by omega)) l), fun i hi => Int.lt_of_le_of_lt (h.most i (by omega)) l⟩
theorem Best.less {D : Nat → Int} {k j : Nat} {w : Int} (h : Best D k w j) (l : ((D (k + 1)).natAbs : Int) ≤ w) : Best D (k + 1) w j :=
  ⟨Nat.le_succ_of_le h.le, h.eq, fun i hi => by
    by_cases e : i = k + 1
    · rw [e]; exact l
    · exact h.most i (by omega), h.first⟩
theorem Best.uniq {D : Nat → Int} {k j j' : Nat} {w w' : Int} (h : Best D k w j) (h' : Best D k w' j') : w = w' ∧ j = j' := by
  have e : w = w' := by
    have a := h.most j' h'.le
    have b := h'.most j h.le
    rw [h'.eq] at a
    rw [h.eq] at b
    omega
  subst e
  refine ⟨rfl, ?_⟩
  rcases Nat.lt_trichotomy j j' with z | z | z
  · have := h'.first j z
    rw [h.eq] at this
    omega
  · exact z
  · have := h.first j' z
    rw [h'.eq] at this
    omega
/-- by the list's greatest one and where it comes first -/
theorem Best.of_list {D : Nat → Int} {k j : Nat} {w : Int} (hm : ∀ y, y ∈ (List.range (k + 1)).map (fun i => ((D i).natAbs : Int)) → y ≤ w) (h1 : ((List.range (k + 1)).map (fun i => ((D i).natAbs : Int)))[j]? = some w)
    (h2 : ∀ m, m < j → ((List.range (k + 1)).map (fun i => ((D i).natAbs : Int)))[m]? ≠ some w) : Best D k w j := by
  have at_ : ∀ i, i ≤ k → ((List.range (k + 1)).map (fun i => ((D i).natAbs : Int)))[i]? = some ((D i).natAbs : Int) := fun i hi => by
    rw [List.getElem?_map, List.getElem?_range (by omega)]
    rfl
  have hj : j ≤ k := by
    have := (List.getElem?_eq_some_iff.mp h1).1
    rw [List.length_map, List.length_range] at this
    omega
  have mo : ∀ i, i ≤ k → ((D i).natAbs : Int) ≤ w := fun i hi => hm _ (List.mem_of_getElem? (at_ i hi))
  refine ⟨hj, ?_, mo, fun i hi => ?_⟩
  · rw [at_ j hj] at h1
    exact Option.some.inj h1
  · have := mo i (by omega)
    have n := h2 i hi
    rw [at_ i (by omega)] at n
    have : ((D i).natAbs : Int) ≠ w := fun z => n (by rw [z])
    omega
/-! the worst stretch -/
structure Ends (D : Nat → Int) (m : Nat) (L G : Int) (iL iG : Nat) : Prop where
  lL : iL ≤ m
  eL : D iL = L
  mL : ∀ i, i ≤ m → L ≤ D i
  fL : ∀ i, i < iL → D i ≠ L
  lG : iG ≤ m
  eG : D iG = G
  mG : ∀ i, i ≤ m → D i ≤ G
  fG : ∀ i, i < iG → D i ≠ G
theorem ends_at (D : Nat → Int) (k : Nat) {i : Nat} (hi : i ≤ k) : ((List.range (k + 1)).map D)[i]? = some (D i) := by
  rw [List.getElem?_map, List.getElem?_range (by omega)]
  rfl
theorem ends_le {D : Nat → Int} {k j : Nat} {w : Int} (h : ((List.range (k + 1)).map D)[j]? = some w) : j ≤ k ∧ D j = w := by
  have hj := (List.getElem?_eq_some_iff.mp h).1
  rw [List.length_map, List.length_range] at hj
  rw [ends_at D k (by omega)] at h
  exact ⟨by omega, Option.some.inj h⟩
theorem Ends.of_list {D : Nat → Int} {k iL iG : Nat} {L G : Int} (hL : ∀ y, y ∈ (List.range (k + 1)).map D → L ≤ y) (h1 : ((List.range (k + 1)).map D)[iL]? = some L) (h2 : ∀ m, m < iL → ((List.range (k + 1)).map D)[m]? ≠ some L)
    (hG : ∀ y, y ∈ (List.range (k + 1)).map D → y ≤ G) (h3 : ((List.range (k + 1)).map D)[iG]? = some G) (h4 : ∀ m, m < iG → ((List.range (k + 1)).map D)[m]? ≠ some G) : Ends D k L G iL iG := by
  obtain ⟨a1, a2⟩ := ends_le h1
  obtain ⟨b1, b2⟩ := ends_le h3
  exact ⟨a1, a2, fun i hi => hL _ (List.mem_of_getElem? (ends_at D k hi)), fun i hi z => h2 i hi (by rw [ends_at D k (by omega), z]), b1, b2, fun i hi => hG _ (List.mem_of_getElem? (ends_at D k hi)), fun i hi z => h4 i hi (by rw [ends_at D k (by omega), z])⟩
theorem Ends.uniq {D : Nat → Int} {m iL iG jL jG : Nat} {L G L' G' : Int} (h : Ends D m L G iL iG) (k : Ends D m L' G' jL jG) : L = L' ∧ G = G' := by
  have a := h.mL jL k.lL
  have b := k.mL iL h.lL
  have c := h.mG jG k.lG
  have d := k.mG iG h.lG
  rw [k.eL] at a
  rw [h.eL] at b
  rw [k.eG] at c
  rw [h.eG] at d
  omega
abbrev Dab (D : Nat → Int) (b e : Nat) : Int := ((D e - D b).natAbs : Int)
def vis (m B E b e : Nat) : Prop := b ≤ e ∧ e ≤ m ∧ e < b + m ∧ (b < B ∨ (b = B ∧ e < E))
structure Bp (D : Nat → Int) (m B E : Nat) (w : Int) (b0 e0 : Nat) : Prop where
  eq : Dab D b0 e0 = w
  le : b0 ≤ e0
  lm : e0 ≤ m
  most : ∀ b e, vis m B E b e → Dab D b e ≤ w
  first : ∀ b e, vis m B E b e → (b < b0 ∨ (b = b0 ∧ e < e0)) → Dab D b e < w
  low : b0 < B ∨ (b0 = B ∧ e0 < E) ∨ (b0 = 0 ∧ e0 = 0)
theorem Bp.start (D : Nat → Int) (m : Nat) : Bp D m 0 0 0 0 0 := ⟨by
  show ((D 0 - D 0).natAbs : Int) = 0
  omega, Nat.le_refl _, Nat.zero_le _, fun b e h => by
  obtain ⟨_, _, _, h⟩ := h
  omega, fun b e h => by
  obtain ⟨_, _, _, h⟩ := h
  omega, .inr (.inr ⟨rfl, rfl⟩)⟩
theorem Bp.more {D : Nat → Int} {m B E b0 e0 : Nat} {w : Int} (h : Bp D m B E w b0 e0) (hE : B ≤ E) (hm : E ≤ m) (l : w < Dab D B E) : Bp D m B (E + 1) (Dab D B E) B E := by
  have key : ∀ b e, vis m B (E + 1) b e → ¬ (b = B ∧ e = E) → Dab D b e ≤ w := fun b e hv hn => by
    obtain ⟨h1, h2, h3, h4⟩ := hv
    exact h.most b e ⟨h1, h2, h3, by omega⟩
  refine ⟨rfl, hE, hm, fun b e hv => ?_, fun b e hv hl => ?_, .inr (.inl ⟨rfl, Nat.lt_succ_self _⟩)⟩
  · by_cases z : b = B ∧ e = E
    · rw [z.1, z.2]
      exact Int.le_refl _
    · exact Int.le_of_lt (Int.lt_of_le_of_lt (key b e hv z) l)
  · exact Int.lt_of_le_of_lt (key b e hv (by omega)) l
theorem Bp.less {D : Nat → Int} {m B E b0 e0 : Nat} {w : Int} (h : Bp D m B E w b0 e0) (l : E ≤ m → Dab D B E ≤ w) : Bp D m B (E + 1) w b0 e0 := by
  refine ⟨h.eq, h.le, h.lm, fun b e hv => ?_, fun b e hv hl => ?_, ?_⟩
  · obtain ⟨h1, h2, h3, h4⟩ := hv
    by_cases z : b = B ∧ e = E
    · rw [z.1, z.2]
      exact l (by omega)
    · exact h.most b e ⟨h1, h2, h3, by omega⟩
  · obtain ⟨h1, h2, h3, h4⟩ := hv
    have := h.low
    exact h.first b e ⟨h1, h2, h3, by omega⟩ hl
  · have := h.low
    omega
theorem Bp.next {D : Nat → Int} {m B b0 e0 : Nat} {w : Int} (h : Bp D m B (B + m) w b0 e0) : Bp D m (B + 1) (B + 1) w b0 e0 := by
  have e : ∀ b e, vis m (B + 1) (B + 1) b e → vis m B (B + m) b e := fun b e hv => by
    obtain ⟨h1, h2, h3, h4⟩ := hv
    exact ⟨h1, h2, h3, by omega⟩
  refine ⟨h.eq, h.le, h.lm, fun b e' hv => h.most b e' (e b e' hv), fun b e' hv => h.first b e' (e b e' hv), ?_⟩
  have := h.low
  omega
theorem Bp.fin {D : Nat → Int} {m b0 e0 iL iG : Nat} {w L G : Int} (h : Bp D m (m + 1) (m + 1) w b0 e0) (k : Ends D m L G iL iG) (hm : 1 ≤ m) (hD : D m = D 0) : w = G - L ∧ b0 = min iL iG ∧ e0 = max iL iG := by
  have mb := k.mL b0 (by have := h.le; have := h.lm; omega)
  have me := k.mL e0 h.lm
  have gb := k.mG b0 (by have := h.le; have := h.lm; omega)
  have ge := k.mG e0 h.lm
  have hw := h.eq
  have hGL : L ≤ G := by
    have := k.mL iG k.lG
    rw [k.eG] at this
    exact this
  have dS : Dab D (min iL iG) (max iL iG) = G - L := by
    show ((D (max iL iG) - D (min iL iG)).natAbs : Int) = _
    rcases Nat.le_total iL iG with z | z
    · rw [Nat.max_eq_right z, Nat.min_eq_left z, k.eL, k.eG]
      omega
    · rw [Nat.max_eq_left z, Nat.min_eq_right z, k.eL, k.eG]
      omega
  have dw : Dab D b0 e0 ≤ G - L := by
    show ((D e0 - D b0).natAbs : Int) ≤ _
    omega
  have lL := k.lL
  have lG := k.lG
  -- where the two ends are alike
  have zero : G = L → iL = 0 ∧ iG = 0 := fun z => by
    have a := k.mL 0 (Nat.zero_le _)
    have b := k.mG 0 (Nat.zero_le _)
    constructor
    · rcases Nat.eq_zero_or_pos iL with y | y
      · exact y
      · exact absurd (by omega) (k.fL 0 y)
    · rcases Nat.eq_zero_or_pos iG with y | y
      · exact y
      · exact absurd (by omega) (k.fG 0 y)
  have seen : vis m (m + 1) (m + 1) (min iL iG) (max iL iG) := by
    refine ⟨by omega, by omega, ?_, .inl (by omega)⟩
    by_cases z : min iL iG = 0 ∧ max iL iG = m
    · exfalso
      have d0 : Dab D 0 m = G - L := by
        rw [← dS, z.1, z.2]
      have d1 : Dab D 0 m = 0 := by
        show ((D m - D 0).natAbs : Int) = 0
        omega
      have := zero (by omega)
      omega
    · omega
  have up := h.most _ _ seen
  rw [dS] at up
  have ew : w = G - L := by omega
  have nb : ¬ (min iL iG < b0 ∨ (min iL iG = b0 ∧ max iL iG < e0)) := fun z => by
    have := h.first _ _ seen z
    omega
  have two : (D b0 = L ∧ D e0 = G) ∨ (D b0 = G ∧ D e0 = L) := by
    have : ((D e0 - D b0).natAbs : Int) = G - L := by
      rw [← ew]
      exact hw
    omega
  refine ⟨ew, ?_⟩
  rcases two with ⟨y1, y2⟩ | ⟨y1, y2⟩
  · have b1 : iL ≤ b0 := by
      rcases Nat.lt_or_ge b0 iL with z | z
      · exact absurd y1 (k.fL b0 z)
      · exact z
    have e1 : iG ≤ e0 := by
      rcases Nat.lt_or_ge e0 iG with z | z
      · exact absurd y2 (k.fG e0 z)
      · exact z
    have := h.le
    omega
  · have b1 : iG ≤ b0 := by
      rcases Nat.lt_or_ge b0 iG with z | z
      · exact absurd y1 (k.fG b0 z)
      · exact z
    have e1 : iL ≤ e0 := by
      rcases Nat.lt_or_ge e0 iL with z | z
      · exact absurd y2 (k.fL e0 z)
      · exact z
    have := h.le
    omega
/-! where a number stands first -/
theorem flat_ints (xs : List Int) : (xs.map V.int).all flatV = true := by
  rw [List.all_eq_true]
  intro x hx
  obtain ⟨i, _, rfl⟩ := List.mem_map.mp hx
  rfl
theorem in_ints (xs : List Int) (k : Int) : inV (.int k) (xs.map V.int) = decide (k ∈ xs) := by
  unfold inV
  rw [Bool.eq_iff_iff, List.any_eq_true, decide_eq_true_iff]
  constructor
  · rintro ⟨y, hy, e⟩
    obtain ⟨i, hi, rfl⟩ := List.mem_map.mp hy
    have : i = k := by
      have e : (i == k) = true := e
      exact eq_of_beq e
    rw [← this]
    exact hi
  · intro h
    exact ⟨_, List.mem_map.mpr ⟨k, h, rfl⟩, show (k == k) = true from beq_self_eq_true k⟩
theorem first_of {xs : List Int} {k : Int} : k ∈ xs → ∃ j : Nat, xs[j]? = some k ∧ ∀ m, m < j → xs[m]? ≠ some k := by
  induction xs with
  | nil => intro h; cases h
  | cons x r ih =>
    intro h
    by_cases e : x = k
    · exact ⟨0, by rw [e]; rfl, fun m hm => by omega⟩
    · rcases List.mem_cons.mp h with h | h
      · exact absurd h.symm e
      · obtain ⟨j, h1, h2⟩ := ih h
        refine ⟨j + 1, h1, fun m hm => ?_⟩
        cases m with
        | zero => exact fun z => e (Option.some.inj z)
        | succ m => exact h2 m (by omega)
/-! the program: ones, offs, the worst part -/
def sp_ones (_ : PySem.W.Frag) : Sp := fun vs H Q _ => ∃ (a : Addr) (rs : List Int), vs = [.ref a] ∧ H a = some (.tup (rs.map V.int)) ∧ Q (.int rs.sum) H
theorem ok_ones (T : Defs K mg) (TT : Tabs T base) : FnOk P w K mg base CX0 1 T.f_ones T.fd_ones ["row"] (sp_ones K) := by
  refine T.F_ones.ok sc_ones (fun vs H Q E h => ?_) (fun cdv A outer s H vs Q E hr h => ?_)
  · obtain ⟨a, rs, rfl, ha, q⟩ := h
    rfl
  · obtain ⟨a, rs, rfl, ha, q⟩ := h
    refine ⟨_, PSs.nox (pss_one (ps_ret (pe_callB (cr_sumT rfl) (by rfl) T.m_sum bt_sum (pa_cons (pv 0) pa_nil)))), ?_⟩
    exact ⟨.ref a, rfl, a, rs, rfl, SqT.mk ha, q⟩
def OL (rs : List Int) (i : Nat) : List V := ((List.range i).map (Df rs)).map V.int
theorem OL_succ (rs : List Int) (i : Nat) : OL rs (i + 1) = OL rs i ++ [.int (Df rs i)] := by
  unfold OL
  rw [List.range_succ, List.map_append, List.map_append]
  rfl
theorem OL_len (rs : List Int) (i : Nat) : (OL rs i).length = i := by
  unfold OL
  rw [List.length_map, List.length_map, List.length_range]
def sp_offs_by (_ : PySem.W.Frag) : Sp := fun vs H Q _ => ∃ (a : Addr) (rs : List Int), vs = [.ref a, .int rs.sum, .int (rs.length : Nat)] ∧ H a = some (.tup (rs.map V.int)) ∧ rs.length ≤ 100000 ∧
  ∀ H' p, Same H H' → H p = none → H' p = some (.lst (OL rs (rs.length + 1))) → Q (.ref p) H'
theorem ok_offs_by (T : Defs K mg) (TT : Tabs T base) : FnOk P w K mg base CX0 1 T.f_offs_by T.fd_offs_by ["row", "many", "length"] (sp_offs_by K) := by
  refine T.F_offs_by.ok sc_offs_by (fun vs H Q E h => ?_) (fun cdv A outer s H vs Q E hr h => ?_)
  · obtain ⟨a, rs, rfl, ha, hl, q⟩ := h
    rfl
  · obtain ⟨a, rs, rfl, ha, hl, q⟩ := h
    refine ⟨_, PSs.nox (pss_cons (ps_set (i := 3) sc_offs_by.nd rfl (.inl rfl) (pe_lst (pa_cons pe_int pa_nil)))
    (pss_cons (ps_for PassesOwn.never rfl (pi_tup (pv 0)) (pg_name (i := 4) sc_offs_by.nd rfl (.inl rfl)) (pss_one (ps_expr (pe_bm PySem.F.plainAttrs_list PySem.F.slot_list_append PySem.F.type_list_append mt_append (pv 3) (pa_cons (pe_op op_sub (pe_op op_add (pe_ix ix_list (pv 3) (pe_un un_neg pe_int) (fun _ _ => rfl)) (pe_op op_mul (pv 2) (pv 4))) (pv 1)) pa_nil)))))
    (pss_one (ps_ret (pv 3))))), ?_⟩
    have hsl : sizeLine = 16777216 := by decide
    refine ⟨(show 1 ≤ sizeLine by decide), fun p np => ?_⟩
    have s0 : Same H (upd H p (.lst [.int 0])) := same_upd np
    refine ⟨.ref a, rfl, a, rfl, ⟨_, SqT.mk (s0 _ _ ha)⟩, for_tup (xs := rs.map V.int) (fun i σ H1 => ∃ y3, σ = [some (.ref a), some (.int rs.sum), some (.int (rs.length : Nat)), some (.ref p), y3] ∧ Same H H1 ∧ H1 p = some (.lst (OL rs i ++ [.int (Df rs i)]))) ⟨none, rfl, s0, ?_⟩ ?_ ?_ ?_⟩
    · rw [upd_same, Df_zero]
      rfl
    · rintro i σ H1 hi ⟨y3, rfl, s1, hp⟩
      exact SqT.mk (s1 _ _ ha)
    · rintro i x σ H1 hx ⟨y3, rfl, s1, hp⟩
      rw [List.getElem?_map] at hx
      obtain ⟨b, hb, rfl⟩ := Option.map_eq_some_iff.mp hx
      have hi : i < rs.length := (List.getElem?_eq_some_iff.mp hb).1
      have eb : rs.getD (i % rs.length) 0 = b := by
        rw [Nat.mod_eq_of_lt hi, List.getD_eq_getElem?_getD, hb]
        rfl
      refine ⟨.ref p, rfl, .inl ⟨rfl, _, SqL.mk hp⟩, .ref p, rfl, 1, rfl, p, _, _, _, rfl, rfl, SqL.mk hp, atI_last _ _, ?_⟩
      refine ⟨.int (rs.length : Nat), rfl, .int b, rfl, _, _, rfl, rfl, .inl ⟨by omega, by omega⟩, _, _, rfl, rfl, .int rs.sum, rfl, _, _, rfl, rfl, ?_⟩
      have ll : (OL rs i ++ [V.int (Df rs i)]).length = i + 1 := by
        rw [List.length_append, OL_len]
        rfl
      refine ⟨p, _, _, rfl, rfl, hp, by rw [ll]; omega, ?_⟩
      refine ⟨_, rfl, same_newer s1 np, ?_⟩
      rw [upd_same, OL_succ, Df_step, eb]
    · rintro σ H1 ⟨y3, rfl, s1, hp⟩
      rw [List.length_map, ← OL_succ] at hp
      exact ⟨.ref p, rfl, q H1 p s1 np hp⟩
def sp_offs_of (_ : PySem.W.Frag) : Sp := fun vs H Q _ => ∃ (a : Addr) (rs : List Int), vs = [.ref a] ∧ H a = some (.tup (rs.map V.int)) ∧ rs.length ≤ 100000 ∧
  ∀ H' p, Same H H' → H p = none → H' p = some (.lst (OL rs (rs.length + 1))) → Q (.ref p) H'
theorem ok_offs_of (T : Defs K mg) (TT : Tabs T base) : FnOk P w K mg base CX0 2 T.f_offs_of T.fd_offs_of ["row"] (sp_offs_of K) := by
  have G_offs_by : FnOk P w K mg base CX0 1 T.f_offs_by T.fd_offs_by ["row", "many", "length"] (sp_offs_by K) := ok_offs_by T TT
  have G_ones : FnOk P w K mg base CX0 1 T.f_ones T.fd_ones ["row"] (sp_ones K) := ok_ones T TT
  refine T.F_offs_of.ok sc_offs_of (fun vs H Q E h => ?_) (fun cdv A outer s H vs Q E hr h => ?_)
  · obtain ⟨a, rs, rfl, ha, hl, q⟩ := h
    rfl
  · obtain ⟨a, rs, rfl, ha, hl, q⟩ := h
    refine ⟨_, PSs.nox (pss_one (ps_ret (pe_call G_offs_by (hr.mono (by decide)) (by rfl) T.g_offs_by T.F_offs_by.kp T.b_offs_by .nil pass0 (pa_cons (pv 0) (pa_cons (pe_call G_ones (hr.mono (by decide)) (by rfl) T.g_ones T.F_ones.kp T.b_ones .nil pass0 (pa_cons (pv 0) pa_nil)) (pa_cons (pe_callB call_len_seq (by rfl) T.m_len bt_len (pa_cons (pv 0) pa_nil)) pa_nil)))))), ?_⟩
    refine ⟨.ref a, rfl, .ref a, rfl, a, rs, rfl, ha, .ref a, rfl, a, _, rfl, .inr (SqT.mk ha), a, rs, by rw [List.length_map]; rfl, ha, hl, q⟩
theorem s_len {n : Nat} (h : n ≤ 100000) : S 4000 (n : Int) := S.mono (n := 20) (show ((n : Int)).natAbs < 2 ^ 20 by omega) (by decide)
def sp_worst_part (_ : PySem.W.Frag) : Sp := fun vs H Q _ => ∃ (a : Addr) (rs : List Int), vs = [.ref a] ∧ H a = some (.tup (rs.map V.int)) ∧ 1 ≤ rs.length ∧ rs.length ≤ 100000 ∧
  ∀ H' t p w j, Same H H' → H t = none → H' t = some (.tup [.ref p, .int (j : Nat)]) → H' p = some (.tup [.int (frT w rs.length), .int (frB w rs.length)]) → Best (Df rs) rs.length w j → Q (.ref t) H'
theorem ok_worst_part (T : Defs K mg) (TT : Tabs T base) : FnOk P w K mg base CX0 3 T.f_worst_part T.fd_worst_part ["row"] (sp_worst_part K) := by
  have G_fraction : FnOk P w K mg base CX0 2 T.f_fraction T.fd_fraction ["top", "bottom"] (sp_fraction K) := ok_fraction T TT
  have G_offs_of : FnOk P w K mg base CX0 2 T.f_offs_of T.fd_offs_of ["row"] (sp_offs_of K) := ok_offs_of T TT
  refine T.F_worst_part.ok sc_worst_part (fun vs H Q E h => ?_) (fun cdv A outer s H vs Q E hr h => ?_)
  · obtain ⟨a, rs, rfl, ha, h1, hl, q⟩ := h
    rfl
  · obtain ⟨a, rs, rfl, ha, h1, hl, q⟩ := h
    refine ⟨_, PSs.nox (pss_cons (ps_setLc (i := 1) (own := [("off", 3)]) (g := gName 3) (tt := tYes) rfl sc_worst_part.nd rfl rfl (sw_true rfl rfl rfl (by decide +kernel)) (pi_list (pe_call G_offs_of (hr.mono (by decide)) (by rfl) T.g_offs_of T.F_offs_of.kp T.b_offs_of .nil pass0 (pa_cons (pv 0) pa_nil))) (blkOk_by (N := N_worst_part) (sc := defScope s_worst_part) (by decide +kernel)) (fun _ _ _ _ _ => (pg_name (i := 3) sc_worst_part.nd rfl (.inl rfl))) (fun _ _ _ _ _ => pts_nil) (fun _ _ _ _ _ => (pe_callB call_abs (by rfl) T.m_abs bt_abs (pa_cons (pv 3) pa_nil))))
    (pss_cons (ps_set (i := 2) sc_worst_part.nd rfl (.inl rfl) (pe_callB (cr_max rfl) (by rfl) T.m_max bt_max (pa_cons (pv 1) pa_nil)))
    (pss_one (ps_ret (pe_tup (pa_cons (pe_call G_fraction (hr.mono (by decide)) (by rfl) T.g_fraction T.F_fraction.kp T.b_fraction .nil pass0 (pa_cons (pv 2) (pa_cons (pe_callB call_len_seq (by rfl) T.m_len bt_len (pa_cons (pv 0) pa_nil)) pa_nil))) (pa_cons (pe_bm PySem.F.plainAttrs_list PySem.F.slot_list_index PySem.F.type_list_index mt_index (pv 1) (pa_cons (pv 2) pa_nil)) pa_nil))))))), ?_⟩
    have hsl : sizeLine = 16777216 := by decide
    refine ⟨.ref a, rfl, a, rs, rfl, ha, hl, fun H1 p s1 np hp => ?_⟩
    refine ⟨p, rfl, ⟨_, SqL.mk hp⟩, fun D nD => ?_⟩
    refine lc_list (xs := OL rs (rs.length + 1)) (fun i H2 => Same H1 H2 ∧ H2 D = some (.lst (((List.range i).map fun i => ((Df rs i).natAbs : Int)).map V.int))) ⟨same_upd nD, upd_same⟩ (fun i H2 _ h2 => SqL.mk (h2.1 _ _ hp)) (fun i x H2 hx h2 => ?_) (fun H2 h2 => ?_)
    · obtain ⟨s2, hD⟩ := h2
      unfold OL at hx
      have hi := (List.getElem?_eq_some_iff.mp hx).1
      rw [List.length_map, List.length_map, List.length_range] at hi
      rw [List.getElem?_map, List.getElem?_map, List.getElem?_range hi] at hx
      cases hx
      refine ⟨rfl, yes_ite ?_⟩
      refine ⟨_, rfl, _, rfl, _, hD, by rw [List.length_map, List.length_map, List.length_range]; omega, same_newer s2 nD, ?_⟩
      rw [upd_same, List.range_succ, List.map_append, List.map_append, abs_eq]
      rfl
    · obtain ⟨s2, hD⟩ := h2
      rw [OL_len] at hD
      have s02 := s1.trans s2
      refine ⟨.ref D, rfl, D, _, rfl, SqL.mk hD, by rw [List.length_map, List.length_range]; omega, fun w hw hm => ?_⟩
      obtain ⟨j, h3, h4⟩ := first_of hw
      have hbest := Best.of_list hm h3 h4
      refine ⟨.int w, rfl, .ref a, rfl, a, _, rfl, .inr (SqT.mk (s02 _ _ ha)), w, rs.length, by rw [List.length_map]; rfl, by omega, s_len hl, fun H3 f s3 nf hf => ?_⟩
      refine ⟨.ref D, rfl, .inl ⟨rfl, _, SqL.mk (s3 _ _ hD)⟩, .int w, rfl, D, _, .int w, j, .int w, rfl, rfl, SqL.mk (s3 _ _ hD), rfl, flat_ints _, by rw [List.getElem?_map, h3]; rfl, beq_self_eq_true w, fun m z' hm e => ?_, ?_⟩
      · rw [List.getElem?_map] at e
        obtain ⟨x, hx, rfl⟩ := Option.map_eq_some_iff.mp e
        have hx0 : x ≠ w := fun y => h4 m hm (by rw [hx, y])
        show (x == w) = false
        exact beq_eq_false_iff_ne.mpr hx0
      · refine ⟨(show 2 ≤ sizeLine by decide), fun t nt => ?_⟩
        exact q _ t f w j ((s02.trans s3).trans (same_upd nt)) (s02.free (s3.free nt)) upd_same ((same_upd nt) _ _ hf) hbest
/-! the program: the worst stretch -/
theorem ix_at {xs : List Int} {w : Int} {j : Nat} (h3 : xs[j]? = some w) : (xs.map V.int)[j]? = some (.int w) := by
  rw [List.getElem?_map, h3]
  rfl
theorem ix_no {xs : List Int} {w : Int} {j : Nat} (h4 : ∀ m, m < j → xs[m]? ≠ some w) : ∀ (m : Nat) (z' : V), m < j → (xs.map V.int)[m]? = some z' → eqV z' (.int w) = false := fun m z' hm e => by
  rw [List.getElem?_map] at e
  obtain ⟨x, hx, rfl⟩ := Option.map_eq_some_iff.mp e
  have hx0 : x ≠ w := fun y => h4 m hm (by rw [hx, y])
  show (x == w) = false
  exact beq_eq_false_iff_ne.mpr hx0
def sp_worst_stretch (_ : PySem.W.Frag) : Sp := fun vs H Q _ => ∃ (a : Addr) (rs : List Int), vs = [.ref a] ∧ H a = some (.tup (rs.map V.int)) ∧ 1 ≤ rs.length ∧ rs.length ≤ 100000 ∧
  ∀ H' t p L G iL iG, Same H H' → H t = none → H' t = some (.tup [.ref p, .int ((min iL iG : Nat) : Int), .int ((max iL iG : Nat) : Int)]) → H' p = some (.tup [.int (frT (G - L) rs.length), .int (frB (G - L) rs.length)]) → Ends (Df rs) rs.length L G iL iG → Q (.ref t) H'
theorem ok_worst_stretch (T : Defs K mg) (TT : Tabs T base) : FnOk P w K mg base CX0 3 T.f_worst_stretch T.fd_worst_stretch ["row"] (sp_worst_stretch K) := by
  have G_offs_of : FnOk P w K mg base CX0 2 T.f_offs_of T.fd_offs_of ["row"] (sp_offs_of K) := ok_offs_of T TT
  have G_fraction : FnOk P w K mg base CX0 2 T.f_fraction T.fd_fraction ["top", "bottom"] (sp_fraction K) := ok_fraction T TT
  refine T.F_worst_stretch.ok sc_worst_stretch (fun vs H Q E h => ?_) (fun cdv A outer s H vs Q E hr h => ?_)
  · obtain ⟨a, rs, rfl, ha, h1, hl, q⟩ := h
    rfl
  · obtain ⟨a, rs, rfl, ha, h1, hl, q⟩ := h
    refine ⟨_, PSs.nox (pss_cons (ps_set (i := 1) sc_worst_stretch.nd rfl (.inl rfl) (pe_call G_offs_of (hr.mono (by decide)) (by rfl) T.g_offs_of T.F_offs_of.kp T.b_offs_of .nil pass0 (pa_cons (pv 0) pa_nil)))
    (pss_cons (ps_set (i := 2) sc_worst_stretch.nd rfl (.inl rfl) (pe_callB (cr_min rfl) (by rfl) T.m_min bt_min (pa_cons (pv 1) pa_nil)))
    (pss_cons (ps_set (i := 3) sc_worst_stretch.nd rfl (.inl rfl) (pe_callB (cr_max rfl) (by rfl) T.m_max bt_max (pa_cons (pv 1) pa_nil)))
    (pss_cons (ps_set (i := 4) sc_worst_stretch.nd rfl (.inl rfl) (pe_callB (call_min2 rfl) (by rfl) T.m_min bt_min (pa_cons (pe_bm PySem.F.plainAttrs_list PySem.F.slot_list_index PySem.F.type_list_index mt_index (pv 1) (pa_cons (pv 2) pa_nil)) (pa_cons (pe_bm PySem.F.plainAttrs_list PySem.F.slot_list_index PySem.F.type_list_index mt_index (pv 1) (pa_cons (pv 3) pa_nil)) pa_nil))))
    (pss_cons (ps_set (i := 5) sc_worst_stretch.nd rfl (.inl rfl) (pe_callB (call_max2 rfl) (by rfl) T.m_max bt_max (pa_cons (pe_bm PySem.F.plainAttrs_list PySem.F.slot_list_index PySem.F.type_list_index mt_index (pv 1) (pa_cons (pv 2) pa_nil)) (pa_cons (pe_bm PySem.F.plainAttrs_list PySem.F.slot_list_index PySem.F.type_list_index mt_index (pv 1) (pa_cons (pv 3) pa_nil)) pa_nil))))
    (pss_one (ps_ret (pe_tup (pa_cons (pe_call G_fraction (hr.mono (by decide)) (by rfl) T.g_fraction T.F_fraction.kp T.b_fraction .nil pass0 (pa_cons (pe_op op_sub (pv 3) (pv 2)) (pa_cons (pe_callB call_len_seq (by rfl) T.m_len bt_len (pa_cons (pv 0) pa_nil)) pa_nil))) (pa_cons (pv 4) (pa_cons (pv 5) pa_nil))))))))))), ?_⟩
    refine ⟨.ref a, rfl, a, rs, rfl, ha, hl, fun H1 p s1 np hp => ?_⟩
    have hp' : H1 p = some (.lst (((List.range (rs.length + 1)).map (Df rs)).map V.int)) := hp
    have pos : 0 < ((List.range (rs.length + 1)).map (Df rs)).length := by
      rw [List.length_map, List.length_range]
      omega
    refine ⟨.ref p, rfl, p, _, rfl, SqL.mk hp', pos, fun L hL mL => ?_⟩
    refine ⟨.ref p, rfl, p, _, rfl, SqL.mk hp', pos, fun G hG mG => ?_⟩
    obtain ⟨iL, l1, l2⟩ := first_of hL
    obtain ⟨iG, g1, g2⟩ := first_of hG
    have ends := Ends.of_list mL l1 l2 mG g1 g2
    refine ⟨.ref p, rfl, .inl ⟨rfl, _, SqL.mk hp'⟩, .int L, rfl, p, _, .int L, iL, .int L, rfl, rfl, SqL.mk hp', rfl, flat_ints _, ix_at l1, beq_self_eq_true L, ix_no l2, ?_⟩
    refine ⟨.ref p, rfl, .inl ⟨rfl, _, SqL.mk hp'⟩, .int G, rfl, p, _, .int G, iG, .int G, rfl, rfl, SqL.mk hp', rfl, flat_ints _, ix_at g1, beq_self_eq_true G, ix_no g2, _, _, rfl, ?_⟩
    refine ⟨.ref p, rfl, .inl ⟨rfl, _, SqL.mk hp'⟩, .int L, rfl, p, _, .int L, iL, .int L, rfl, rfl, SqL.mk hp', rfl, flat_ints _, ix_at l1, beq_self_eq_true L, ix_no l2, ?_⟩
    refine ⟨.ref p, rfl, .inl ⟨rfl, _, SqL.mk hp'⟩, .int G, rfl, p, _, .int G, iG, .int G, rfl, rfl, SqL.mk hp', rfl, flat_ints _, ix_at g1, beq_self_eq_true G, ix_no g2, _, _, rfl, ?_⟩
    have e1 : (if (iG : Int) < (iL : Int) then (iG : Int) else (iL : Int)) = ((min iL iG : Nat) : Int) := by
      split <;> omega
    have e2 : (if (iG : Int) > (iL : Int) then (iG : Int) else (iL : Int)) = ((max iL iG : Nat) : Int) := by
      split <;> omega
    refine ⟨.int G, rfl, .int L, rfl, _, _, rfl, rfl, .ref a, rfl, a, _, rfl, .inr (SqT.mk (s1 _ _ ha)), G - L, rs.length, by rw [List.length_map]; rfl, by omega, s_len hl, fun H3 f s3 nf hf => ?_⟩
    refine ⟨_, rfl, _, rfl, (show 3 ≤ sizeLine by decide), fun t nt => ?_⟩
    rw [e1, e2]
    exact q _ t f L G iL iG ((s1.trans s3).trans (same_upd nt)) (s1.free (s3.free nt)) upd_same ((same_upd nt) _ _ hf) ends
/-! the law's lowest terms -/
def sp__law_lowest (_ : PySem.W.Frag) : Sp := fun vs H Q _ => ∃ t b : Int, vs = [.int t, .int b] ∧ 0 ≤ t ∧ 0 < b ∧ S 4000 b ∧ ∀ H' p, Same H H' → H p = none → H' p = some (.tup [.int (frT t b), .int (frB t b)]) → Q (.ref p) H'
theorem ok__law_lowest (T : Defs K mg) (TT : Tabs T base) : FnOk P w K mg base CX0 1 T.f__law_lowest T.fd__law_lowest ["_law_top", "_law_bottom"] (sp__law_lowest K) := by
  refine T.F__law_lowest.ok sc__law_lowest (fun vs H Q E h => ?_) (fun cdv A outer s H vs Q E hr h => ?_)
  · obtain ⟨t, b, rfl, ht, hb, hs, q⟩ := h
    rfl
  · obtain ⟨t, b, rfl, ht, hb, hs, q⟩ := h
    refine ⟨_, PSs.nox (pss_cons (ps_par (i := 2) (j := 3) (by rfl) sc__law_lowest.nd rfl rfl (by decide) rfl rfl (pa_cons (pv 0) (pa_cons (pv 1) pa_nil)) (by rfl))
    (pss_cons (ps_while PassesOwn.never (pt_cmpR op_gt (pv 3) pe_int (nomark _)) (pss_one (ps_par (i := 2) (j := 3) (by rfl) sc__law_lowest.nd rfl rfl (by decide) rfl rfl (pa_cons (pv 3) (pa_cons (pe_op op_mod (pv 2) (pv 3)) pa_nil)) (by rfl))))
    (pss_one (ps_ret (pe_tup (pa_cons (pe_op op_fdivNW (pv 0) (pv 2)) (pa_cons (pe_op op_fdivNW (pv 1) (pv 2)) pa_nil))))))), ?_⟩
    refine ⟨.int t, rfl, .int b, rfl, _, _, rfl, ?_⟩
    refine while_by (fun σ H1 => H1 = H ∧ ∃ x y : Nat, σ = [some (.int t), some (.int b), some (.int (x : Nat)), some (.int (y : Nat))] ∧ Nat.gcd x y = Int.gcd t b) (fun σ _ => match σ with | [_, _, _, some (.int y)] => y.toNat | _ => 0) ⟨rfl, t.natAbs, b.natAbs, ?_, rfl⟩ ?_ ?_
    · rw [Int.natAbs_of_nonneg ht, Int.natAbs_of_nonneg (Int.le_of_lt hb)]
      rfl
    · rintro σ H1 ⟨rfl, x, y, rfl, hg⟩
      refine ⟨.int (y : Nat), rfl, _, _, rfl, rfl, _, rfl, ite2 (fun e => ?_) (fun e => ?_)⟩
      · have hy : (0 : Int) < (y : Int) := of_decide_eq_true e
        refine ⟨.int (y : Nat), rfl, .int (x : Nat), rfl, .int (y : Nat), rfl, _, _, rfl, rfl, hy, _, _, rfl, ⟨rfl, y, x % y, ?_, ?_⟩, ?_⟩
        · rfl
        · rw [gcd_step, hg]
        · show ((x : Int) % (y : Int)).toNat < ((y : Int)).toNat
          have := Int.emod_lt_of_pos (x : Int) hy
          have := Int.emod_nonneg (x : Int) (show (y : Int) ≠ 0 by omega)
          omega
      · have hy : ¬ (0 : Int) < (y : Int) := fun z => e (decide_eq_true z)
        have y0 : y = 0 := by omega
        subst y0
        rw [Nat.gcd_zero_right] at hg
        subst hg
        have hp : 0 < Int.gcd t b := Int.gcd_pos_of_ne_zero_right t (by omega)
        have hd := gcd_small (t := t) (show b ≠ 0 by omega) hs
        refine ⟨.int t, rfl, .int (Int.gcd t b : Nat), rfl, _, _, rfl, rfl, ⟨by omega, hd⟩, .int b, rfl, .int (Int.gcd t b : Nat), rfl, _, _, rfl, rfl, ⟨by omega, hd⟩, (show 2 ≤ sizeLine by decide), fun p np => ?_⟩
        refine q _ p (same_upd np) np ?_
        rw [upd_same]
        exact congrArg some (by rw [← (fr_ge t hb).1, ← (fr_ge t hb).2])
    · rintro σ H1 Q1 Q2 hQ ⟨v, hv, i, j, e1, e2, k, e3, h3⟩
      exact ⟨v, hv, i, j, e1, e2, k, e3, hQ _ _ h3⟩
/-! generator expressions: the walked thing, the element, the generator at hand -/
def SrcOk (X : Cx) (P : Addr) (s1 : Shared) (xv : Value) (n : Nat) (Pf : Nat → Value → Prop) : Prop :=
  ∃ (o : Obj) (aux : List Addr) (Z : Nat → Heap → Prop),
    (∀ Q : Value → Shared → Prop, Q (.ref s1.heap.objs.size) { s1 with heap := s1.heap.push o } → wpAny (model X.prog X.w) X.A (pyIter xv) Q X.xe s1) ∧
    (∀ b ∈ aux, b < s1.heap.objs.size ∧ b ≠ P) ∧
    (∀ B : Around, B.handled = none → Walks X.prog X.w B s1.heap.objs.size (s1.heap.objs.size :: aux) [s1.heap.objs.size] n Pf Z) ∧ Z 0 (s1.heap.push o)
def EltOk (X : Cx) (P : Addr) (scope : Scope) (x : Str) (elt : Expr) (s1 : Shared) (Pf F : Nat → Value → Prop) : Prop :=
  ∀ (cenv : Env) (B : Around) (E2 : Value → Shared → Prop) (i : Nat) (v : Value) (s2 : Shared) (m2 : Str → Option Value), cenv.scope = scope → cenv.cells = cloFrom X.env.cells scope.names [] → cenv.globals = X.env.globals → cenv.builtins = builtinsNs →
    B.handled = none → Pf i v → s2.heap.Ns cenv.locals m2 → m2 x = some v → (∀ b o, b ≠ P → s1.heap.get? b = some o → s2.heap.get? b = some o) →
    wpAny (model X.prog X.w) B (eval elt cenv) (fun y s3 => F i y ∧ Keeps s2 s3) E2 s2
def AtHand (X : Cx) (pins : List (Addr × Obj)) (σ : L2.St) (H1 : Hp) (P : Addr) (n : Nat) (F : Nat → Value → Prop) (g : Addr) (s5 : Shared) : Prop :=
  ∃ (fp wr : List Addr) (G : Array GenState → Array GenState → Prop) (F' : Nat → Value → Prop) (Z : Nat → Shared → Prop),
    WalksS X.prog X.w X.A.in4 g fp wr G n F' Z ∧ (∀ j v, F' j v → F j v) ∧ Z 0 s5 ∧ (∀ b ∈ fp, b < s5.heap.objs.size) ∧ g ∈ fp ∧ (∀ i s9, Z i s9 → s9.TypeIs (.ref g) "generator") ∧
    ∀ s', Moved wr G s5 s' → ∃ H2, GxR.Tabbed P H1 H2 ∧ Inv X pins σ H2 s'
theorem gen_one {X : Cx} {pins : List (Addr × Obj)} {σ : L2.St} {s : Shared} {c P : Addr} {elt iter : Expr} {x : Str} {px gpos : Pos} {scope : Scope} {k : Nat} {W : Value → Shared → Prop}
    (hr : Room k X.A) (TB : GxR.TabB X.base X.mg c P) (hcode : X.env.code = .ref c) (S : GxR.GenS X.env scope x) (hs : ∀ v, genFold iter X.env v = pure v)
    (h : wpAny (model X.prog X.w) X.A (eval iter X.env) (fun xv s1 => ∃ (H1 : Hp) (ps : Array Value) (n : Nat) (Pf F : Nat → Value → Prop), Inv X pins σ H1 s1 ∧ H1 P = some (.tbl ps) ∧ TriplesOk ps.toList ∧ SrcOk X P s1 xv n Pf ∧
      EltOk X P scope x elt s1 Pf F ∧ ∀ g s5, AtHand X pins σ H1 P n F g s5 → W (.ref g) s5) X.xe s) :
    wpAny (model X.prog X.w) X.A (eval (.GeneratorExp elt [⟨.Name x px, iter, [], 0⟩] scope gpos) X.env) W X.xe s := by
  have deep := hr.dp
  refine wpAny_GeneratorExp_walksQ hr.hd S.co (closure_ok S.free) S.cell S.dot S.loc S.kind (by omega) (wpAny_mono h (fun xv s1 z => ?_) fun _ _ e => e) hs
  obtain ⟨H1, ps, n, Pf, F, J1, hP, trip, ⟨o, aux, Z, go, hau, wk, z0⟩, hel, fin⟩ := z
  refine go _ ?_
  have hPs : s1.heap.get? P = some { cls := .none, data := .fields ps } := J1.hok P _ hP
  have ltP : P < s1.heap.objs.size := Heap.lt_size hPs
  have hP2 : (s1.heap.push o).get? P = some { cls := .none, data := .fields ps } := Heap.get?_push_of_some _ hPs
  have cd : PySem.W.CodeHd (s1.heap.push o) c P := TB.code.keeps fun b u e => Heap.get?_push_of_some _ (J1.bk b u e)
  have lim : (s1.heap.push o).NoLimit := J1.nolimit.push o
  have szp : (s1.heap.push o).objs.size = s1.heap.objs.size + 1 := Heap.size_push ..
  have go2 : ∀ (code : Value) (h3 : Heap) (tk : Nat) (more : Array Value), Heap.ExtBut P (s1.heap.push o) h3 → (s1.heap.push o).objs.size ≤ h3.objs.size → h3.get? P = some { cls := .none, data := .fields (ps ++ more) } → TriplesOk (ps ++ more).toList →
      wpAny (model X.prog X.w) X.A (builtinsFor X.env.globals X.env.builtins) (fun bi s4 =>
        ∃ I0 fp wr n0 Pf0 Z0 pz F0, Value.ref s1.heap.objs.size = .ref I0 ∧ (∀ B : Around, B.handled = none → Walks X.prog X.w B I0 fp wr n0 Pf0 Z0) ∧ Z0 0 s4.heap ∧ (∀ b ∈ fp, b < s4.heap.objs.size) ∧ s4.heap.NoLimit ∧ cStatics ∉ wr ∧
          (∀ hq : Heap, (∀ b o, s4.heap.get? b = some o → hq.get? b = some o) →
            QuietGen X.prog X.w (genEnv scope (cloFrom X.env.cells scope.names []) s4.heap.objs.size code bi X.env) x [] elt (List.range s4.heap.objs.size) wr Pf0 pz F0 hq) ∧
          (∀ g h5 tk5 gs, gs.bare = true → s4.heap.objs.size < g → h5.objs.size = g + 1 → (∀ b o, s4.heap.get? b = some o → h5.get? b = some o) →
            WalksS X.prog X.w X.A.in4 g (g :: s4.heap.objs.size :: List.range s4.heap.objs.size) (s4.heap.objs.size :: wr) (GenOnlyQ s4.gens.size) (passing pz n0 0).length
              (fun j y => ∃ i, (passing pz n0 0)[j]? = some i ∧ F0 i y) (GenAt X.prog X.w X.A.in4 g s4.gens.size s4.heap.objs.size (List.range s4.heap.objs.size) wr pz n0 F0) →
            GenAt X.prog X.w X.A.in4 g s4.gens.size s4.heap.objs.size (List.range s4.heap.objs.size) wr pz n0 F0 0 { s4 with gens := s4.gens.push gs, toks := tk5, heap := h5 } →
            W (.ref g) { s4 with gens := s4.gens.push gs, toks := tk5, heap := h5 })) X.xe { s1 with heap := h3, toks := tk } := by
    intro code h3 tk more hx hsz hP3 trip3
    obtain ⟨bm, ob, e1, e2, e3, e4, e5, e6, e7, e8⟩ := TB.bm
    have keep3 : ∀ b u, b ≠ P → s1.heap.get? b = some u → h3.get? b = some u := fun b u hb e => hx b u hb (Heap.get?_push_of_some _ e)
    have stP : cStatics ≠ P := fun z => by
      obtain ⟨_, ⟨o1, es, ep, ho, hd, _⟩, _⟩ := J1.nolimit
      rw [z, hPs] at ho
      cases ho
      cases hd
    have stL : cStatics < s1.heap.objs.size := by
      obtain ⟨_, hns, _⟩ := J1.nolimit
      exact hns.lt
    have newP : s1.heap.objs.size ≠ P := Nat.ne_of_gt ltP
    refine wpAny_builtinsFor (m := X.mg) (by rw [J1.ok.glob]; exact ((J1.mod.glob.keeps J1.bk).push o).extBut hx TB.gP) e1 e2 (keep3 _ _ e4 (J1.bk _ _ e5)) e6 e7 e8 ?_
    refine ⟨s1.heap.objs.size, s1.heap.objs.size :: aux, [s1.heap.objs.size], n, Pf, Z, fun _ => true, F, rfl, wk, ?_, ?_, lim.extBut hx stP, ?_, ?_, ?_⟩
    · refine (wk X.A hr.hd).frame _ _ _ z0 fun b hb u e => hx b u (fun z => ?_) e
      rcases List.mem_cons.mp hb with z2 | z2
      · exact newP (z2.symm.trans z)
      · exact (hau b z2).2 z
    · intro b hb
      show b < h3.objs.size
      have up : s1.heap.objs.size < h3.objs.size := by omega
      rcases List.mem_cons.mp hb with z2 | z2
      · rw [z2]
        exact up
      · exact Nat.lt_trans (hau b z2).1 up
    · intro z
      rcases List.mem_cons.mp z with z2 | z2
      · exact Nat.ne_of_lt stL z2
      · cases z2
    · intro hq keepq
      refine ⟨fun B E2 i v s2 m2 hB hv hn hm hk => ?_, fun B E2 i v s2 m2 hB hv _ hn hm hk => ?_⟩
      · simp only [List.forIn_nil]
        exact wpAny_pure ⟨rfl, GxR.keeps_refl _⟩
      · refine hel _ B E2 i v s2 m2 rfl rfl rfl rfl hB hv hn hm fun b u hb e => ?_
        have lb := Heap.lt_size e
        have up : s1.heap.objs.size < h3.objs.size := by omega
        refine hk b (List.mem_range.mpr (Nat.lt_trans lb up)) (fun z => ?_) u (keepq b u (keep3 b u hb e))
        rcases List.mem_cons.mp z with z2 | z2
        · exact Nat.ne_of_lt lb z2
        · cases z2
    · intro g h5 tk5 gs hgb hag hsz5 hk5 W5 gat
      simp only [GxR.passing_true, List.length_range] at W5
      refine fin g _ ⟨_, _, _, _, _, W5, fun j v hv => ?_, gat, fun b hb => ?_, List.mem_cons_self, fun i s9 h9 => h9.1.typeIs, fun s' hm => ?_⟩
      · obtain ⟨i, hij, e⟩ := hv
        obtain ⟨_, ej⟩ := List.getElem?_eq_some_iff.mp hij
        rw [List.getElem_range] at ej
        subst ej
        exact e
      · show b < h5.objs.size
        have h8 : h3.objs.size < g := hag
        have h9 : h5.objs.size = g + 1 := hsz5
        have u1 : g < h5.objs.size := by
          rw [h9]
          exact Nat.lt_succ_self g
        have u2 : h3.objs.size < h5.objs.size := Nat.lt_trans h8 u1
        rcases List.mem_cons.mp hb with z | z
        · rw [z]
          exact u1
        · rcases List.mem_cons.mp z with z | z
          · rw [z]
            exact u2
          · exact Nat.lt_trans (show b < h3.objs.size from List.mem_range.mp z) u2
      · have old : ∀ b u, s1.heap.get? b = some u → b ∉ h3.objs.size :: [s1.heap.objs.size] := fun b u e hb => by
          have lb := Heap.lt_size e
          have up : s1.heap.objs.size < h3.objs.size := by omega
          rcases List.mem_cons.mp hb with z | z
          · exact Nat.ne_of_lt (Nat.lt_trans lb up) z
          · rcases List.mem_cons.mp z with z | z
            · exact Nat.ne_of_lt lb z
            · cases z
        have R := GxR.inv_tab (more := more) (h' := s'.heap) (g' := s'.gens) (d' := s'.drawn) (t' := s'.toks) J1 hP (fun b u hb e => hm.heap b u (old b u e) (hk5 b u (keep3 b u hb e)))
          (hm.heap P _ (old P _ hPs) (hk5 P _ hP3)) (AllBare.movedS (J1.bare.push hgb) hm)
        rw [GxR.sh_eta s1 s' hm.os] at R
        exact ⟨_, ⟨⟨ps ++ more, upd_same, trip3⟩, fun b hb => upd_ne hb⟩, R⟩
  refine ⟨lim, ?_⟩
  cases hf : codeAmong gpos ps.toList with
  | none =>
    refine wpAny_genexprCodeX hcode (cd.code hP2 trip) (cd.tab hP2) hf fun c' h' tk hx hge hlt hco' _ htab' _ => ?_
    obtain ⟨o1, vs, f1, tf, fl, tg, inF, tx, tt, op, _, _, _, _, _, _, _, _, _, htr, _⟩ := hco'
    exact go2 _ h' tk _ hx (Nat.le_trans hge (Nat.le_of_lt hlt)) htab'.2 htr
  | some cv =>
    refine wpAny_genexprCode_hit hcode (cd.code hP2 trip) hf ?_
    exact go2 cv (s1.heap.push o) s1.toks #[] (Heap.ExtBut.refl _ _) (Nat.le_refl _) (by rw [Array.append_empty]; exact hP2) (by rw [Array.append_empty]; exact trip)
/-! tuple(element for x in walked) -/
structure PSrc (X : Cx) (P : Addr) (iter : Expr) (ti : L2.St → Hp → (List V → Hp → Prop) → Prop) : Prop where
  run : ∀ (pins : List (Addr × Obj)) (s : Shared) (σ : L2.St) (H : Hp) (R : List V → Hp → Prop), Inv X pins σ H s → ti σ H (fun xs H1 => GxR.TabG H1 P ∧ R xs H1) →
    wpAny (model X.prog X.w) X.A (eval iter X.env) (fun xv s1 => ∃ (H1 : Hp) (xs : List V), Inv X pins σ H1 s1 ∧ GxR.TabG H1 P ∧ R xs H1 ∧ SrcOk X P s1 xv xs.length (fun i u => ∃ y, xs[i]? = some y ∧ RelV y u)) X.xe s
/-- where the element is reckoned: the generator's own frame -/
structure InGen (X : Cx) (P : Addr) (scope : Scope) (s1 : Shared) (cenv : Env) (B : Around) (s2 : Shared) (m2 : Str → Option Value) : Prop where
  sc : cenv.scope = scope
  cells : cenv.cells = cloFrom X.env.cells scope.names []
  glob : cenv.globals = X.env.globals
  blt : cenv.builtins = builtinsNs
  hd : B.handled = none
  ns : s2.heap.Ns cenv.locals m2
  keep : ∀ b o, b ≠ P → s1.heap.get? b = some o → s2.heap.get? b = some o
structure PElt (X : Cx) (P : Addr) (scope : Scope) (x : Str) (elt : Expr) (te : L2.St → Hp → V → V → Prop) : Prop where
  run : ∀ (pins : List (Addr × Obj)) (s1 : Shared) (σ : L2.St) (H : Hp), Inv X pins σ H s1 → GxR.TabG H P → ∀ (cenv : Env) (B : Around) (E2 : Value → Shared → Prop) (s2 : Shared) (m2 : Str → Option Value) (v y : V) (u : Value),
    InGen X P scope s1 cenv B s2 m2 → RelV v u → te σ H v y → m2 x = some u → wpAny (model X.prog X.w) B (eval elt cenv) (fun z s3 => RelV y z ∧ Keeps s2 s3) E2 s2
def tTupG (P : Addr) (ti : L2.St → Hp → (List V → Hp → Prop) → Prop) (te : L2.St → Hp → V → V → Prop) : TE := fun σ H Q => ti σ H fun xs H1 => GxR.TabG H1 P ∧ xs.length ≤ sizeLine ∧ ∃ ys : List V, ys.length = xs.length ∧
  (∀ (i : Nat) (x : V), xs[i]? = some x → ∃ y, ys[i]? = some y ∧ te σ H1 x y) ∧ ∀ H2 p, GxR.Tabbed P H1 H2 → H2 p = none → Q (.ref p) (upd H2 p (.tup ys))
theorem vals_of : ∀ (ys : List V) (us : List Value), us.length = ys.length → (∀ (j : Nat) (u : Value), us[j]? = some u → ∃ y, ys[j]? = some y ∧ RelV y u) → Vals ys us
  | [], [], _, _ => .nil
  | y :: ys, u :: us, hl, h => by
    obtain ⟨y1, e1, r1⟩ := h 0 u rfl
    cases e1
    exact .cons r1 (vals_of ys us (by simpa using hl) fun j v hj => h (j + 1) v hj)
theorem pe_tupG {X : Cx} {c P : Addr} {elt iter : Expr} {x : Str} {px p pos gpos : Pos} {scope : Scope} {ti : L2.St → Hp → (List V → Hp → Prop) → Prop} {te : L2.St → Hp → V → V → Prop} {k : Nat}
    (hr : Room k X.A) (hg : Gl X "tuple") (hm : X.mg "tuple" = none) (hb : bootBuiltins "tuple" = some (.type "tuple")) (TB : GxR.TabB X.base X.mg c P) (hcode : X.env.code = .ref c) (S : GxR.GenS X.env scope x)
    (hi : PSrc X P iter ti) (hel : PElt X P scope x elt te) (hs : ∀ v, genFold iter X.env v = pure v)
    (he : starEach [.GeneratorExp elt [⟨.Name x px, iter, [], 0⟩] scope gpos] X.env = (false, eval (.GeneratorExp elt [⟨.Name x px, iter, [], 0⟩] scope gpos) X.env) :: starEach [] X.env := by rfl) :
    PE X (.Call (.Name "tuple" p) [.GeneratorExp elt [⟨.Name x px, iter, [], 0⟩] scope gpos] [] pos) (tTupG P ti te) := by
  refine ⟨fun pins s σ H Q I h => ?_⟩
  refine wpAny_Call_Name_kw (ld_blt I hg hm hb ?_)
  refine PyProof.Rows.callWith_type1 ?_ he (by rfl)
  rw [he]
  show wpAny _ _ (spliced ((false, eval (.GeneratorExp elt [⟨.Name x px, iter, [], 0⟩] scope gpos) X.env) :: backTo pos (starEach [] X.env))) _ _ s
  have h2 : ti σ H fun xs H1 => GxR.TabG H1 P ∧ (xs.length ≤ sizeLine ∧ ∃ ys : List V, ys.length = xs.length ∧ (∀ (i : Nat) (x : V), xs[i]? = some x → ∃ y, ys[i]? = some y ∧ te σ H1 x y) ∧ ∀ H2 p, GxR.Tabbed P H1 H2 → H2 p = none → Q (.ref p) (upd H2 p (.tup ys))) := h
  refine Calls.spliced_cons (gen_one (pins := pins) (σ := σ) hr TB hcode S hs (wpAny_mono (hi.run pins s σ H _ I h2) (fun xv s1 z => ?_) fun _ _ e => e))
  obtain ⟨H1, xs, J, ⟨ps, hP, trip⟩, ⟨lx, ys, ly, hys, q⟩, src⟩ := z
  refine ⟨H1, ps, xs.length, _, fun i u => ∃ y, ys[i]? = some y ∧ RelV y u, J, hP, trip, src, ?_, fun g s5 at5 => ?_⟩
  · intro cenv B E2 i v s2 m2 h1 h3 h4 h5 h6 hv h7 h8 h9
    obtain ⟨w1, ew, rw1⟩ := hv
    obtain ⟨y, ey, ty⟩ := hys i w1 ew
    exact wpAny_mono (hel.run pins s1 σ H1 J ⟨ps, hP, trip⟩ cenv B E2 s2 m2 w1 y v ⟨h1, h3, h4, h5, h6, h7, h9⟩ rw1 ty h8) (fun z s3 r => ⟨⟨y, ey, r.1⟩, r.2⟩) fun _ _ e => e
  · refine Calls.spliced_nil ?_
    obtain ⟨fp, wr, G, F', Z, W5, im, z0, hfp, hgf, hT, hinv⟩ := at5
    refine PySem.call_tuple_gen (n := xs.length) W5.in4_3 hT z0 hfp hgf (fun s' acc mv it => ?_) lx
    obtain ⟨H2, tb, J2⟩ := hinv s' mv
    have vs : Vals ys acc.toList := vals_of ys acc.toList (by rw [Array.length_toList, it.1, ly]) fun j u hj => im j u (it.2 j u (by simpa using hj))
    refine ⟨.ref s'.heap.objs.size, _, J2.laid (t' := s'.toks) (o := .tup ys) (fun b ob e => Heap.get?_push_of_some _ e) (Nat.le_refl _) ⟨by omega, acc.toList, vs, ?_⟩, rfl, q H2 _ tb (J2.hok.fresh (Nat.le_refl _))⟩
    have ea : acc.toList.toArray = acc := by simp
    rw [ea]
    exact IsTup.new _ _
/-- range(e) -/
theorem src_range {X : Cx} {P : Addr} {a : Expr} {ta : TA} {p pos : Pos} (hg : Gl X "range") (hm : X.mg "range" = none) (ha : PA X [a] ta) (hs : starEach [a] X.env = [(false, eval a X.env)] := by rfl) :
    PSrc X P (.Call (.Name "range" p) [a] [] pos) (fun σ H R => ta σ H fun vs H1 => ∃ n : Nat, vs = [.int (n : Nat)] ∧ n ≤ sizeLine ∧ R ((List.range n).map fun i => V.int (i : Nat)) H1) := by
  refine ⟨fun pins s σ H R I h => ?_⟩
  refine Call_ (ld_blt I hg hm boot_range (PyProof.Rows.callWith_type1 (thn (ha.run pos pins s σ H _ I h) fun us s1 ⟨vs, H1, J, r1, q1⟩ => ?_) hs rfl))
  obtain ⟨n, rfl, hn, tg, q⟩ := q1
  cases r1 with
  | cons r rr =>
    cases rr
    obtain ⟨t, rfl⟩ := r
    have hsl : sizeLine = 16777216 := by decide
    refine call_range_1 ⟨H1, _, J.kept fun b o e => Heap.get?_push_of_some _ e, tg, q, ?_⟩
    refine ⟨_, [], fun i h => IsRangeIter h (s1.heap.push { cls := .type "range", data := .fields #[.int 0 s1.toks, .int (n : Nat) t, .int 1 (s1.toks + 1)] }).objs.size ((0 : Int) + (i : Nat) * 1) ((n : Int) - (i : Nat)) 1, fun Q hQ => wpAny_pyIter_range (IsRange.new ..) (small_one (by omega) (by omega) (by omega) (by omega)) hQ, fun b hb => (by cases hb), fun B hB => ?_, ?_⟩
    · rw [List.length_map, List.length_range]
      have W0 := Walks.range (prog := X.prog) (w := X.w) (A := B) hB (s1.heap.push { cls := .type "range", data := .fields #[.int 0 s1.toks, .int (n : Nat) t, .int 1 (s1.toks + 1)] }).objs.size 0 1 n
      exact W0.mono_item fun i v hi hv => by
        obtain ⟨t2, rfl⟩ := hv
        refine ⟨.int (i : Nat), ?_, t2, by rw [Int.zero_add, Int.mul_one]⟩
        rw [List.getElem?_map, List.getElem?_range hi]
        rfl
    · show IsRangeIter _ _ ((0 : Int) + ((0 : Nat) : Int) * 1) ((n : Int) - ((0 : Nat) : Int)) 1
      have e2 : (n : Int) - ((0 : Nat) : Int) = Builtin.Range.rangeSize 0 (n : Int) 1 := by
        rw [rangeSize_one]
        split <;> omega
      rw [e2]
      exact Heap.get?_push_size _ rfl
theorem gs_free {cells : List (Str × Addr)} {names : List (Str × NameKind)} (h : (names.all fun y => y.2 != .free || (cells.lookup y.1).isSome) = true) : ∀ y ∈ names, y.2 = .free → ∃ c, cells.lookup y.1 = some c := fun y hy e => by
  have q := List.all_eq_true.mp h y hy
  rw [e] at q
  exact Option.isSome_iff_exists.mp (by simpa using q)
/-! elements -/
section
variable {X : Cx} {pins : List (Addr × Obj)} {σ : L2.St} {H : Hp} {s1 s2 : Shared} {P c : Addr} {scope : Scope} {cenv : Env} {B : Around} {m2 : Str → Option Value} {E2 : Value → Shared → Prop}
theorem ig_local {x : Str} {u : Value} {p : Pos} {W : Value → Shared → Prop} (g : InGen X P scope s1 cenv B s2 m2) (hk : scope.kind = .function) (hl : scope.names.lookup x = some .local) (hm : m2 x = some u) {s3 : Shared} (k3 : Keeps s2 s3) (h : W u s3)
    (hd : (x == ("__debug__" : Str)) = false := by decide) : wpAny (model X.prog X.w) B (eval (.Name x p) cenv) W E2 s3 := by
  obtain ⟨h3, tk, rfl, kp⟩ := k3
  exact wpAny_Name (wpAny_loadName_local (by rw [g.sc]; exact hk) (show cenv.scope.names.lookup x = some .local by rw [g.sc]; exact hl) (g.ns.keeps kp) hm h) hd
theorem ig_free {x : Str} {i : Nat} {v : V} {p : Pos} {W : Value → Shared → Prop} (I : Inv X pins σ H s1) (tg : GxR.TabG H P) (g : InGen X P scope s1 cenv B s2 m2) (hk : scope.kind = .function) (hl : scope.names.lookup x = some .free)
    (hN : X.N[i]? = some x) (hσ : σ[i]? = some (some v)) (hX : X.env.scope.names.lookup x = some .cell) (hcl : ∀ cells : List (Str × Addr), (cloFrom cells scope.names []).lookup x = some ((cells.lookup x).getD 0)) {s3 : Shared} (k3 : Keeps s2 s3)
    (h : ∀ u, RelV v u → W u s3) (hn : (x == ("__classdict__" : Str)) = false := by decide) (hd : (x == ("__debug__" : Str)) = false := by decide) : wpAny (model X.prog X.w) B (eval (.Name x p) cenv) W E2 s3 := by
  obtain ⟨h3, tk, rfl, kp⟩ := k3
  obtain ⟨m, _, hloc⟩ := I.loc
  obtain ⟨u, ru, lk⟩ := hloc i x v hN hσ (.inr (.inl hX))
  rcases lk with ⟨h1, _⟩ | ⟨_, cc, h2, ic⟩
  · have h1 : X.env.scope.names.lookup x = some .local := h1
    rw [hX] at h1
    cases h1
  · obtain ⟨ps, hP, _⟩ := tg
    have ncP : cc ≠ P := fun z => by
      have q := I.freeC x cc h2
      rw [z, hP] at q
      cases q
    obtain ⟨o, ho, hd2⟩ := ic
    have lk2 : cenv.cells.lookup x = some cc := by
      rw [g.cells, hcl, h2]
      rfl
    exact wpAny_Name (wpAny_loadName_free (by rw [g.sc]; exact hk) (show cenv.scope.names.lookup x = some .free by rw [g.sc]; exact hl) lk2 ⟨o, kp _ _ (g.keep _ _ ncP ho), hd2⟩ (h u ru) hn) hd
theorem ig_blt {x : Str} {u : Value} {p : Pos} {W : Value → Shared → Prop} (I : Inv X pins σ H s1) (tg : GxR.TabG H P) (TB : GxR.TabB X.base X.mg c P) (g : InGen X P scope s1 cenv B s2 m2) (hk : scope.kind = .function) (hl : scope.names.lookup x = some .globalImplicit)
    (hm : X.mg x = none) (hv : bootBuiltins x = some u) {s3 : Shared} (k3 : Keeps s2 s3) (h : W u s3) (hn : x ≠ "__name__" := by decide) (hd : (x == ("__debug__" : Str)) = false := by decide) : wpAny (model X.prog X.w) B (eval (.Name x p) cenv) W E2 s3 := by
  obtain ⟨h3, tk, rfl, kp⟩ := k3
  obtain ⟨mb, h1, h2⟩ := I.mod.blt
  obtain ⟨ps, hP, _⟩ := tg
  have hPs : s1.heap.get? P = some { cls := .none, data := .fields ps } := I.hok P _ hP
  have n1 : s1.heap.Ns mainGlobals X.mg := I.mod.glob.keeps I.bk
  have n2 : s1.heap.Ns builtinsNs mb := h1.keeps I.bk
  have up : ∀ {a : Addr} {m : Str → Option Value}, s1.heap.Ns a m → h3.Ns a m := fun {a m} ⟨o, es, ep, ho, hd1, r⟩ => by
    have na : a ≠ P := fun z => by
      rw [z, hPs] at ho
      cases ho
      cases hd1
    exact ⟨o, es, ep, kp _ _ (g.keep _ _ na ho), hd1, r⟩
  exact Calls.Name_function_global (by rw [g.sc]; exact hk) (show cenv.scope.names.lookup x = some .globalImplicit by rw [g.sc]; exact hl) (Calls.loadGlobal_builtin (by rw [g.glob, I.ok.glob]; exact up n1) hm (by rw [g.blt]; exact up n2) ((h2 x hn).trans hv) h) hd
theorem kp_tok {s3 : Shared} (k : Keeps s2 s3) (n : Nat) : Keeps s2 { s3 with toks := n } := by
  obtain ⟨h', tk, rfl, kp⟩ := k
  exact ⟨h', n, rfl, kp⟩
/-- a tracked tuple, read in the generator's frame -/
theorem ig_tup {a : Addr} {xs : List V} (I : Inv X pins σ H s1) (tg : GxR.TabG H P) (g : InGen X P scope s1 cenv B s2 m2) (ha : H a = some (.tup xs)) {s3 : Shared} (k3 : Keeps s2 s3) : ∃ its : List Value, Vals xs its ∧ IsTup s3.heap a its.toArray ∧ xs.length ≤ sizeLine := by
  obtain ⟨h3, tk, rfl, kp⟩ := k3
  obtain ⟨ps, hP, _⟩ := tg
  obtain ⟨hz, its, r, ⟨o, ho, rest⟩⟩ := I.hok a _ ha
  have naP : a ≠ P := ne_of ha hP (fun z => by cases z)
  exact ⟨its, r, ⟨o, kp _ _ (g.keep _ _ naP ho), rest⟩, hz⟩
end
/-- row[(at - by) % len(row)] -/
theorem elt_late {X : Cx} {P c : Addr} {scope : Scope} {i j : Nat} {xr xa xb : Str} {p1 p2 p3 p4 p5 p6 p7 p8 p9 : Pos} (TB : GxR.TabB X.base X.mg c P) (hk : scope.kind = .function) (l1 : scope.names.lookup xa = some .local) (l2 : scope.names.lookup xr = some .free) (l3 : scope.names.lookup xb = some .free)
    (l4 : scope.names.lookup ("len" : Str) = some .globalImplicit) (hm : X.mg "len" = none) (hNi : X.N[i]? = some xr) (hNj : X.N[j]? = some xb) (hXi : X.env.scope.names.lookup xr = some .cell) (hXj : X.env.scope.names.lookup xb = some .cell)
    (c1 : ∀ cells : List (Str × Addr), (cloFrom cells scope.names []).lookup xr = some ((cells.lookup xr).getD 0)) (c2 : ∀ cells : List (Str × Addr), (cloFrom cells scope.names []).lookup xb = some ((cells.lookup xb).getD 0))
    (n1 : (xr == ("__classdict__" : Str)) = false := by decide) (n2 : (xr == ("__debug__" : Str)) = false := by decide) (n3 : (xb == ("__classdict__" : Str)) = false := by decide) (n4 : (xb == ("__debug__" : Str)) = false := by decide) (n5 : (xa == ("__debug__" : Str)) = false := by decide) :
    PElt X P scope xa (.Subscript (.Name xr p1) (.BinOp (.BinOp (.Name xa p2) .Sub (.Name xb p3) p4) .Mod (.Call (.Name "len" p5) [.Name xr p6] [] p7) p8) p9)
      (fun σ H v y => ∃ (a : Addr) (xs : List V) (by_ : Int) (t : Nat), σ[i]? = some (some (.ref a)) ∧ H a = some (.tup xs) ∧ σ[j]? = some (some (.int by_)) ∧ v = .int (t : Nat) ∧ 0 < xs.length ∧ xs[(((t : Int) - by_) % (xs.length : Int)).toNat]? = some y) := by
  refine ⟨fun pins s1 σ H I tg cenv B E2 s2 m2 v y u g rv te hm2 => ?_⟩
  obtain ⟨a, xs, by_, t, h1, h2, h3, rfl, h4, h5⟩ := te
  obtain ⟨tk, rfl⟩ := (show ∃ tk, u = Value.int (t : Nat) tk from rv)
  refine Subscript_ (ig_free I tg g hk l2 hNi h1 hXi c1 (GxR.keeps_refl s2) (fun u1 r1 => ?_) n1 n2)
  obtain rfl : u1 = Value.ref a := r1
  refine wpAny_BinOp (wpAny_BinOp (ig_local g hk l1 hm2 (GxR.keeps_refl s2) ?_ n5))
  refine ig_free I tg g hk l3 hNj h3 hXj c2 (GxR.keeps_refl s2) (fun u2 r2 => ?_) n3 n4
  obtain ⟨tb, rfl⟩ := (show ∃ tb, u2 = Value.int by_ tb from r2)
  refine sub_int ?_
  refine wpAny_Call_Name_kw (ig_blt I tg TB g hk l4 hm PySem.boot_len (GxR.keeps_tok s2 _) ?_)
  refine PyProof.Rows.callWith_builtin1 ?_ rfl rfl
  refine Calls.spliced_cons (ig_free I tg g hk l2 hNi h1 hXi c1 (GxR.keeps_tok s2 _) (fun u3 r3 => ?_) n1 n2)
  obtain rfl : u3 = Value.ref a := r3
  refine Calls.spliced_nil ?_
  obtain ⟨its, rvs, it, hz⟩ := ig_tup I tg g h2 (GxR.keeps_tok s2 (s2.toks + 1))
  have hlen := rvs.length
  have hsl : sizeLine = 16777216 := by decide
  have hj : (((t : Int) - by_) % (xs.length : Int)).toNat < xs.length := (List.getElem?_eq_some_iff.mp h5).1
  refine len_tuple it (by simp only [List.size_toArray] <;> omega) ?_
  refine mod_int' (by rw [List.size_toArray, ← hlen]; omega) ?_
  rw [List.size_toArray, ← hlen, Int.fmod_eq_emod_of_nonneg _ (by omega)]
  have m0 := Int.emod_nonneg ((t : Int) - by_) (show (xs.length : Int) ≠ 0 by omega)
  obtain ⟨w1, ew, rw1⟩ := rvs.get h5
  have fin := GxR.keeps_tok s2 (s2.toks + 1 + 1 + 1 + 1)
  refine subscriptTail_builtinR (x := w1) it.typeIs slot_tuple_getitem.lookup (getItem_tuple (j := (((t : Int) - by_) % (xs.length : Int)).toNat) it (by omega) (by omega) ?_ (by simpa using ew) ⟨rfl, rw1, fin⟩)
  rw [List.size_toArray, ← hlen]


  exact seqIndex_of m0 (Int.emod_lt_of_pos _ (by omega))
/-- a tuple at hand -/
theorem src_tup {X : Cx} {P : Addr} {e : Expr} {te : TE} (he : PE X e te) :
    PSrc X P e (fun σ H R => te σ H fun v H1 => ∃ (a : Addr) (xs : List V), v = .ref a ∧ H1 a = some (.tup xs) ∧ R xs H1) := by
  refine ⟨fun pins s σ H R I h => ?_⟩
  refine wpAny_mono (he.run pins s σ H _ I h) (fun u s1 z => ?_) fun _ _ e => e
  obtain ⟨v, H1, J, r1, a, xs, rfl, ha, tg, q⟩ := z
  obtain rfl : u = Value.ref a := r1
  obtain ⟨ps, hP, trip⟩ := tg
  have naP : a ≠ P := ne_of ha hP (fun z => by cases z)
  obtain ⟨its, rv, it, hz⟩ := J.tuple (show SqT X.K H1 a xs from .inl (.inl ha))
  have hl := rv.length
  have lta : a < s1.heap.objs.size := by
    obtain ⟨o, ho, _⟩ := id it
    exact Heap.lt_size ho
  refine ⟨H1, xs, J, ⟨ps, hP, trip⟩, q, ?_⟩
  refine ⟨{ cls := .type "tuple_iterator", data := .fields #[.ref a, .int 0 0] }, [a], fun i h => h.IsTupleIter s1.heap.objs.size a i ∧ h.IsTuple a its.toArray, fun Q hQ => wpAny_pyIter_tuple (show s1.heap.IsTuple a its.toArray from it) hQ, fun b hb => ?_, fun B hB => ?_, ?_⟩
  · rw [List.mem_singleton.mp hb]
    exact ⟨lta, naP⟩
  · have W0 := Walks.tuple (prog := X.prog) (w := X.w) (A := B) hB s1.heap.objs.size a (Nat.ne_of_lt lta) its.toArray
    have en : its.toArray.size = xs.length := by rw [List.size_toArray, ← hl]
    rw [en] at W0
    exact W0.mono_item fun i v hi hv => by
      have gx : xs[i]? = some xs[i] := List.getElem?_eq_getElem hi
      obtain ⟨w1, ew, rw1⟩ := rv.get gx
      have z : its[i]? = some v := by simpa using hv
      rw [z] at ew
      cases ew
      exact ⟨_, gx, rw1⟩
  · exact ⟨⟨_, Heap.get?_push_size _ rfl, rfl, rfl⟩, (show s1.heap.IsTuple a its.toArray from it).at fun o e => Heap.get?_push_of_some _ e⟩
/-- 1 - bit -/
theorem elt_turn {X : Cx} {P : Addr} {scope : Scope} {xa : Str} {k1 : Nat} {p1 p2 p3 : Pos} (hk : scope.kind = .function) (l1 : scope.names.lookup xa = some .local) (n5 : (xa == ("__debug__" : Str)) = false := by decide) :
    PElt X P scope xa (.BinOp (.Constant (.int 1) k1 p1) .Sub (.Name xa p2) p3) (fun _ _ v y => ∃ t : Int, v = .int t ∧ y = .int (1 - t)) := by
  refine ⟨fun pins s1 σ H I tg cenv B E2 s2 m2 v y u g rv te hm2 => ?_⟩
  obtain ⟨t, rfl, rfl⟩ := te
  obtain ⟨tk, rfl⟩ := (show ∃ tk, u = Value.int t tk from rv)
  refine wpAny_BinOp (wpAny_Constant_int (ig_local g hk l1 hm2 (GxR.keeps_tok s2 _) ?_ n5))
  refine sub_int ?_
  exact ⟨⟨_, rfl⟩, GxR.keeps_tok s2 _⟩
/-! a tuple's items, the last one first -/
section
variable {prog : Program} {w : World} {A : Around} {E : Value → Shared → Prop} {s : Shared}
theorem back_places (n : Nat) : Builtin.Slice.slicePlaces ((n : Int) - 1) (-1) (-1) = n := by
  unfold Builtin.Slice.slicePlaces
  rw [if_neg (show ¬ ((-1 : Int) > 0) by decide), show -(-1 : Int) = 1 by decide, Int.ediv_one]
  split <;> omega
theorem back_applied {c : Addr} {g1 g2 g3 : Value} {n : Nat} {Q : Int × Int × Nat → Shared → Prop} (hs : s.heap.IsSliceOf c g1 g2 g3) (p1 : IsPart g1 none) (p2 : IsPart g2 none) (p3 : IsPart g3 (some (-1))) (h : Q ((n : Int) - 1, -1, n) s) : wpAny (model prog w) A (Builtin.Slice.sliceApplied (.ref c) (pure (n : Int))) Q E s := by
  obtain ⟨ob, ho, _, hf⟩ := id hs
  unfold Builtin.Slice.sliceApplied Builtin.Slice.sliceFields
  refine wpAny_bind (wpAny_bind (wpAny_field ho hf (x := g1) rfl (wpAny_bind (wpAny_field ho hf (x := g2) rfl (wpAny_bind (wpAny_field ho hf (x := g3) rfl (wpAny_pure ?_)))))))
  refine wpAny_bind (HT.slicePart_ p3 ?_)
  show wpAny _ _ (if ((-1 : Int) == 0) = true then _ else _) _ _ s
  rw [if_neg (show ¬ ((-1 : Int) == 0) = true by decide)]
  refine wpAny_bind (HT.slicePart_ p1 (wpAny_bind (HT.slicePart_ p2 (wpAny_bind (wpAny_pure ?_)))))
  show wpAny _ _ (pure ((n : Int) - 1, (-1 : Int), Builtin.Slice.slicePlaces ((n : Int) - 1) (-1) (-1))) _ _ s
  rw [back_places]
  exact wpAny_pure h
theorem fm_all {α β : Type} {f : α → Option β} {g : α → β} : ∀ l : List α, (∀ m, m ∈ l → f m = some (g m)) → l.filterMap f = l.map g
  | [], _ => rfl
  | x :: r, h => by
    rw [List.filterMap_cons_some (h x List.mem_cons_self), List.map_cons, fm_all r fun m hm => h m (List.mem_cons_of_mem _ hm)]
theorem back_pick (xs : Array Value) : ((List.range xs.size).filterMap fun (m : Nat) => xs[(((xs.size : Int) - 1) + (m : Int) * (-1)).toNat]?).toArray = xs.toList.reverse.toArray := by
  congr 1
  have e : ∀ m, m ∈ List.range xs.size → xs[(((xs.size : Int) - 1) + (m : Int) * (-1)).toNat]? = some ((xs.toList.reverse)[m]?.getD .none) := fun m hm => by
    have hm := List.mem_range.mp hm
    rw [show (((xs.size : Int) - 1) + (m : Int) * (-1)).toNat = xs.size - 1 - m by omega, List.getElem?_reverse (by rw [Array.length_toList]; exact hm), Array.length_toList, Array.getElem?_toList, Array.getElem?_eq_getElem (by omega)]
    rfl
  rw [fm_all _ e]
  apply List.ext_getElem?
  intro i
  rw [List.getElem?_map]
  by_cases h : i < xs.size
  · have e2 := List.getElem?_eq_getElem (show i < xs.toList.reverse.length by rw [List.length_reverse, Array.length_toList]; exact h)
    rw [List.getElem?_range h, Option.map_some, e2]
    rfl
  · rw [List.getElem?_eq_none (by rw [List.length_range]; omega), List.getElem?_eq_none (by rw [List.length_reverse, Array.length_toList]; omega)]
    rfl
theorem back_get {t c : Addr} {items : Array Value} {g1 g2 g3 : Value} {Q : Value → Shared → Prop} (ht : IsTup s.heap t items) (hs : s.heap.IsSliceOf c g1 g2 g3) (p1 : IsPart g1 none) (p2 : IsPart g2 none) (p3 : IsPart g3 (some (-1)))
    (h : Q (.ref s.heap.objs.size) { s with heap := s.heap.push { cls := .type "tuple", data := .seq items.toList.reverse.toArray } }) (hz : items.size ≤ sizeLine) : wpAny (model prog w) A (getItem (.ref t) (.ref c)) Q E s := by
  have fits : sizeOk (.seq items.toList.reverse.toArray) := by
    show items.toList.reverse.toArray.size ≤ sizeLine
    rw [List.size_toArray, List.length_reverse, Array.length_toList]
    exact hz
  obtain ⟨ob, ho, hk, _⟩ := id hs
  have hT : s.TypeIs (.ref c) "slice" := ⟨ob, ho, hk⟩
  unfold getItem
  try with_reducible refine wpAny_holding ?_
  first | refine wpAny_bind (wpAny_pure ?_) | skip
  refine wpAny_bind (wpAny_sequenceKey ht.typeIs (by decide) (wpAny_bind (wpAny_callSpecial?_slot (name := Str.ofString "__getitem__") ht.typeIs PyProof.Rows.slot_tuple_getitem (wpAny_call_entry PyProof.Rows.slot_tuple_getitem ht.typeIs entry_tuple_getitem ?_ (args_tuple_getitem _ _)))))
  show wpAny _ _ (Builtin.Tuple.tupleItemsOf (.ref t) >>= _) _ _ s
  refine wpAny_bind (tupleItemsOf_ ht (wpAny_bind (wpAny_typeOf hT ?_)))
  rw [if_pos (show ((Value.type "slice" == Value.type "slice") = true) by decide)]
  refine wpAny_bind (back_applied hs p1 p2 p3 ?_)
  have no : ¬ (((((items.size : Int) - 1) == 0 && (-1 : Int) == 1 && items.size == items.size)) = true) := fun z => by
    rw [Bool.and_eq_true, Bool.and_eq_true] at z
    exact absurd z.1.2 (by decide)
  show wpAny _ _ (if (((items.size : Int) - 1) == 0 && (-1 : Int) == 1 && items.size == items.size) = true then _ else _) _ _ s
  rw [if_neg no, back_pick]
  first
    | exact wpAny_bind (m := Builtin.Tuple.tupleExact _) (wpAny_newObj_type (wpAny_pure ⟨_, rfl, wpAny_pure h⟩) fits)
    | exact wpAny_bind (m := Builtin.Tuple.tupleExact _) (wpAny_newObj_type (wpAny_bind (wpAny_pure (wpAny_pure ⟨_, rfl, wpAny_pure h⟩))) fits)
    | exact wpAny_bind (wpAny_bind (m := Builtin.Tuple.tupleExact _) (wpAny_newObj_type (wpAny_pure (wpAny_pure ⟨_, rfl, wpAny_pure h⟩)) fits))
    | exact wpAny_bind (wpAny_bind (m := Builtin.Tuple.tupleExact _) (wpAny_newObj_type (wpAny_pure ⟨_, rfl, wpAny_pure h⟩) fits))
end
def tRevT (K : PySem.W.Frag) (te : TE) : TE := fun σ H Q => te σ H fun x H1 => ∃ a xs, x = .ref a ∧ SqT K H1 a xs ∧ ∀ p, H1 p = none → Q (.ref p) (upd H1 p (.tup xs.reverse))
theorem pe_revT {X : Cx} {e : Expr} {te : TE} {k : Nat} {p1 p2 p3 pos : Pos} (he : PE X e te) : PE X (.Subscript e (.Slice none none (some (.UnaryOp .USub (.Constant (.int 1) k p1) p2)) p3) pos) (tRevT X.K te) := by
  refine ⟨fun pins s σ H Q I h => Subscript_ (thn (he.run pins s σ H _ I h) fun v s1 ⟨x, H1, I1, r1, q1⟩ => ?_)⟩
  obtain ⟨a, xs, rfl, hx, q⟩ := q1
  cases r1
  have hm : PO X (some (.UnaryOp .USub (.Constant (.int 1) k p1) p2)) (tPart (tUn (rU fun i => .int (-i)) (tC (.int 1)))) := po_some (pe_un un_neg pe_int)
  refine wpAny_Slice (thn (po_none.run pins s1 σ H1 (fun o G => o = none ∧ G = H1) I1 ⟨rfl, rfl⟩) fun g1 s2 ⟨o1, G1, I2, i1, z1, z2⟩ => thn (po_none.run pins s2 σ G1 (fun o G => o = none ∧ G = G1) I2 ⟨rfl, rfl⟩) fun g2 s3 ⟨o2, G2, I3, i2, z3, z4⟩ => thn (hm.run pins s3 σ G2 (fun o G => o = some (-1) ∧ G = G2) I3 ⟨1, rfl, -1, rfl, rfl, rfl⟩) fun g3 s4 ⟨o3, G3, I4, i3, z5, z6⟩ => ?_)
  subst z1 z2 z3 z4 z5 z6
  have I5 : Inv X pins σ G3 { s4 with heap := s4.heap.push { cls := .type "slice", data := .fields #[g1, g2, g3] } } := I4.kept (t' := s4.toks) fun b ob e => Heap.get?_push_of_some _ e
  obtain ⟨its, rv, ht, hz⟩ := I5.tuple hx
  have hl := rv.length
  refine tail_any (ops := [.ref a, .ref s4.heap.objs.size]) ht.typeIs PyProof.Rows.slot_tuple_getitem.lookup ?_ (by with_unfolding_all rfl)
  refine back_get ht (Heap.IsSliceOf.new _ g1 g2 g3) i1 i2 i3 ?_ (by rw [List.size_toArray]; omega)
  exact ⟨.ref _, _, I5.laid (t' := s4.toks) (o := .tup xs.reverse) (fun b ob e => Heap.get?_push_of_some _ e) (Nat.le_refl _) ⟨by rw [List.length_reverse]; exact hz, _, rv.reverse, IsTup.new _ _⟩, rfl, q _ (I5.hok.fresh (Nat.le_refl _))⟩
/-! how far rows are off -/
theorem cn_nonneg {rs : List Int} (h : Bits rs) : ∀ i, 0 ≤ cn rs i ∧ cn rs i ≤ i
  | 0 => ⟨Int.le_refl 0, Int.le_refl 0⟩
  | i + 1 => by
    have ih := cn_nonneg h i
    have hb : rs.getD (i % rs.length) 0 = 0 ∨ rs.getD (i % rs.length) 0 = 1 := by
      rw [List.getD_eq_getElem?_getD]
      cases e : rs[i % rs.length]? with
      | none => exact .inl rfl
      | some x => exact h x (List.mem_of_getElem? e)
    show 0 ≤ cn rs i + rs.getD (i % rs.length) 0 ∧ cn rs i + rs.getD (i % rs.length) 0 ≤ ((i + 1 : Nat) : Int)
    rcases hb with e | e <;> rw [e] <;> omega
theorem cn_step {rs : List Int} (h : Bits rs) {i j : Nat} (hij : i ≤ j) : 0 ≤ cn rs j - cn rs i ∧ cn rs j - cn rs i ≤ (j : Int) - i := by
  obtain ⟨d, rfl⟩ := Nat.exists_eq_add_of_le hij
  induction d with
  | zero => simp
  | succ d ih =>
    have ih := ih (by omega)
    have hb : rs.getD ((i + d) % rs.length) 0 = 0 ∨ rs.getD ((i + d) % rs.length) 0 = 1 := by
      rw [List.getD_eq_getElem?_getD]
      cases e : rs[(i + d) % rs.length]? with
      | none => exact .inl rfl
      | some x => exact h x (List.mem_of_getElem? e)
    have e1 : cn rs (i + (d + 1)) = cn rs (i + d) + rs.getD ((i + d) % rs.length) 0 := rfl
    rw [e1]
    rcases hb with e | e <;> rw [e] <;> omega
theorem mul_le4 {a b c d : Int} (h1 : a ≤ b) (h2 : 0 ≤ c) (h3 : c ≤ d) (h4 : 0 ≤ b) : a * c ≤ b * d := Int.le_trans (Int.mul_le_mul_of_nonneg_right h1 h2) (Int.mul_le_mul_of_nonneg_left h3 h4)
theorem reach {n k c d : Int} (k0 : 0 ≤ k) (kn : k ≤ n) (c0 : 0 ≤ c) (cd : c ≤ d) (ck : c ≤ k) (co : k + d - n ≤ c) (dn : d ≤ n) : c * n - d * k ≤ k * (n - k) ∧ -(k * (n - k)) ≤ c * n - d * k := by
  have n0 : 0 ≤ n := by omega
  constructor
  · by_cases h : d ≤ k
    · have e1 : c * n ≤ d * n := Int.mul_le_mul_of_nonneg_right cd n0
      have e2 : d * (n - k) ≤ k * (n - k) := Int.mul_le_mul_of_nonneg_right h (by omega)
      rw [Int.mul_sub] at e2
      omega
    · have e1 : c * n ≤ k * n := Int.mul_le_mul_of_nonneg_right ck n0
      have e2 : k * (n - d) ≤ k * (n - k) := Int.mul_le_mul_of_nonneg_left (by omega) k0
      rw [Int.mul_sub, Int.mul_comm k d] at e2
      omega
  · by_cases h : d ≤ n - k
    · have e1 : 0 ≤ c * n := Int.mul_nonneg c0 n0
      have e2 : d * k ≤ (n - k) * k := Int.mul_le_mul_of_nonneg_right h k0
      rw [Int.mul_comm (n - k) k] at e2
      omega
    · have e1 : (k + d - n) * n ≤ c * n := Int.mul_le_mul_of_nonneg_right co n0
      have e2 : (n - d) * (n - k) ≤ k * (n - k) := Int.mul_le_mul_of_nonneg_right (by omega) (by omega)
      have e3 : (k + d - n) * n - d * k = -((n - d) * (n - k)) := by
        have a1 : k * n = n * k := Int.mul_comm _ _
        have a2 : k * d = d * k := Int.mul_comm _ _
        have a3 : d * n = n * d := Int.mul_comm _ _
        simp only [Int.sub_mul, Int.mul_sub, Int.add_mul]
        omega
      omega
theorem Df_reach {rs : List Int} (h : Bits rs) {i j : Nat} (hij : i ≤ j) (hj : j ≤ rs.length) : Df rs j - Df rs i ≤ rs.sum * ((rs.length : Int) - rs.sum) ∧ -(rs.sum * ((rs.length : Int) - rs.sum)) ≤ Df rs j - Df rs i := by
  have a := cn_step h hij
  have b := cn_step h hj
  have c := cn_nonneg h i
  have d := cn_nonneg h rs.length
  rw [cn_all] at b d
  have e : Df rs j - Df rs i = (cn rs j - cn rs i) * (rs.length : Int) - ((j : Int) - i) * rs.sum := by
    unfold Df
    rw [Int.sub_mul, Int.sub_mul]
    omega
  rw [e]
  exact reach (by omega) (by omega) a.1 a.2 (by omega) (by omega) (by omega)
theorem ends_reach {rs : List Int} (h : Bits rs) {L G : Int} {iL iG : Nat} (k : Ends (Df rs) rs.length L G iL iG) : G - L ≤ rs.sum * ((rs.length : Int) - rs.sum) := by
  rcases Nat.le_total iL iG with z | z
  · have := (Df_reach h z k.lG).1
    rw [k.eG, k.eL] at this
    omega
  · have := (Df_reach h z k.lL).2
    rw [k.eG, k.eL] at this
    omega
theorem part_reach {D : Nat → Int} {n j iL iG : Nat} {w L G : Int} (b : Best D n w j) (k : Ends D n L G iL iG) (h0 : D 0 = 0) : w ≤ G - L := by
  have a1 := k.mL j b.le
  have a2 := k.mG j b.le
  have a3 := k.mL 0 (by omega)
  have a4 := k.mG 0 (by omega)
  rw [h0] at a3 a4
  rw [← b.eq]
  omega
theorem Ends.uniqI {D : Nat → Int} {m iL iG jL jG : Nat} {L G L' G' : Int} (h : Ends D m L G iL iG) (k : Ends D m L' G' jL jG) : iL = jL ∧ iG = jG := by
  obtain ⟨rfl, rfl⟩ := h.uniq k
  constructor
  · rcases Nat.lt_trichotomy iL jL with z | z | z
    · exact absurd h.eL (k.fL iL z)
    · exact z
    · exact absurd k.eL (h.fL jL z)
  · rcases Nat.lt_trichotomy iG jG with z | z | z
    · exact absurd h.eG (k.fG iG z)
    · exact z
    · exact absurd k.eG (h.fG jG z)
theorem fr_le {x y n : Int} (hn : 0 < n) (h : x ≤ y) : ¬ frT x n * frB y n > frT y n * frB x n := by
  have bp : ∀ z : Int, 0 < frB z n := fun z => fr_pos z (by omega)
  have e1 := fr_eq x (show n ≠ 0 by omega)
  have e2 := fr_eq y (show n ≠ 0 by omega)
  intro c
  have c2 := Int.mul_lt_mul_of_pos_right c hn
  have k1 : frT y n * frB x n * n = y * (frB x n * frB y n) := by
    rw [Int.mul_assoc, Int.mul_comm (frB x n) n, ← Int.mul_assoc, e2, Int.mul_assoc, Int.mul_comm (frB y n)]
  have k2 : frT x n * frB y n * n = x * (frB x n * frB y n) := by
    rw [Int.mul_assoc, Int.mul_comm (frB y n) n, ← Int.mul_assoc, e1, Int.mul_assoc]
  rw [k1, k2] at c2
  have := Int.mul_le_mul_of_nonneg_right h (Int.le_of_lt (Int.mul_pos (bp x) (bp y)))
  omega
theorem fr_scale (t : Int) {b : Int} {m : Nat} (hm : 0 < m) (hb : 0 < b) : frT ((m : Int) * t) ((m : Int) * b) = frT t b ∧ frB ((m : Int) * t) ((m : Int) * b) = frB t b := by
  have hg : 0 < Int.gcd t b := Int.gcd_pos_of_ne_zero_right t (by omega)
  obtain ⟨x, hx⟩ := Int.gcd_dvd_left (a := t) (b := b)
  obtain ⟨y, hy⟩ := Int.gcd_dvd_right (a := t) (b := b)
  have e1 := fr_vals hg rfl hx hy
  have e2 := fr_vals (t := (m : Int) * t) (b := (m : Int) * b) (g := m * Int.gcd t b) (x := x) (y := y) (Nat.mul_pos hm hg) (by rw [Int.gcd_mul_left]; rfl) (by
    rw [Int.natCast_mul, Int.mul_assoc, ← hx]) (by
    rw [Int.natCast_mul, Int.mul_assoc, ← hy])
  exact ⟨e2.1.trans e1.1.symm, e2.2.trans e1.2.symm⟩
/-! turned -/
def trn (rs : List Int) : List Int := rs.map fun b => 1 - b
theorem trn_len (rs : List Int) : (trn rs).length = rs.length := List.length_map ..
theorem trn_sum : ∀ rs : List Int, (trn rs).sum = (rs.length : Int) - rs.sum
  | [] => rfl
  | x :: r => by
    have := trn_sum r
    unfold trn at this ⊢
    rw [List.map_cons, List.sum_cons, this, List.sum_cons, List.length_cons]
    omega
theorem trn_cn {rs : List Int} : ∀ i, i ≤ rs.length → cn (trn rs) i = (i : Int) - cn rs i
  | 0, _ => rfl
  | i + 1, h => by
    have ih := trn_cn (rs := rs) i (by omega)
    show cn (trn rs) i + (trn rs).getD (i % (trn rs).length) 0 = _
    have e1 : cn rs (i + 1) = cn rs i + rs.getD (i % rs.length) 0 := rfl
    rw [ih, trn_len, e1, Nat.mod_eq_of_lt (by omega)]
    unfold trn
    rw [List.getD_eq_getElem?_getD, List.getElem?_map, List.getD_eq_getElem?_getD, List.getElem?_eq_getElem (show i < rs.length by omega)]
    simp
    omega
theorem trn_Df {rs : List Int} {i : Nat} (h : i ≤ rs.length) : Df (trn rs) i = -Df rs i := by
  unfold Df
  rw [trn_cn i h, trn_len, trn_sum, Int.sub_mul, Int.mul_sub]
  omega
theorem trn_best {rs : List Int} {w : Int} {j : Nat} (b : Best (Df rs) rs.length w j) : Best (Df (trn rs)) (trn rs).length w j := by
  rw [trn_len]
  refine ⟨b.le, ?_, fun i hi => ?_, fun i hi => ?_⟩
  · rw [trn_Df b.le, Int.natAbs_neg]
    exact b.eq
  · rw [trn_Df hi, Int.natAbs_neg]
    exact b.most i hi
  · have := b.le
    rw [trn_Df (by omega), Int.natAbs_neg]
    exact b.first i hi
theorem trn_ends {rs : List Int} {L G : Int} {iL iG : Nat} (k : Ends (Df rs) rs.length L G iL iG) : Ends (Df (trn rs)) (trn rs).length (-G) (-L) iG iL := by
  rw [trn_len]
  have l1 := k.lL
  have l2 := k.lG
  refine ⟨l2, ?_, fun i hi => ?_, fun i hi => ?_, l1, ?_, fun i hi => ?_, fun i hi => ?_⟩
  · rw [trn_Df l2, k.eG]
  · rw [trn_Df hi]
    have := k.mG i hi
    omega
  · rw [trn_Df (by omega)]
    have := k.fG i hi
    omega
  · rw [trn_Df l1, k.eL]
  · rw [trn_Df hi]
    have := k.mL i hi
    omega
  · rw [trn_Df (by omega)]
    have := k.fL i hi
    omega
/-! told again -/
theorem Df_mod (rs : List Int) (i : Nat) : Df rs (i % rs.length) = Df rs i := by
  have key : ∀ q r, Df rs (r + q * rs.length) = Df rs r := by
    intro q
    induction q with
    | zero => intro r; rw [Nat.zero_mul, Nat.add_zero]
    | succ q ih =>
      intro r
      rw [Nat.succ_mul, ← Nat.add_assoc, Df_again, ih]
  have := key (i / rs.length) (i % rs.length)
  rw [Nat.mul_comm, Nat.mod_add_div] at this
  exact this.symm
theorem best_all {rs : List Int} {w : Int} {j : Nat} (h : 0 < rs.length) (b : Best (Df rs) rs.length w j) (i : Nat) : ((Df rs i).natAbs : Int) ≤ w := by
  rw [← Df_mod]
  exact b.most _ (Nat.le_of_lt (Nat.mod_lt _ h))
theorem ends_all {rs : List Int} {L G : Int} {iL iG : Nat} (h : 0 < rs.length) (k : Ends (Df rs) rs.length L G iL iG) (i : Nat) : L ≤ Df rs i ∧ Df rs i ≤ G := by
  rw [← Df_mod]
  exact ⟨k.mL _ (Nat.le_of_lt (Nat.mod_lt _ h)), k.mG _ (Nat.le_of_lt (Nat.mod_lt _ h))⟩
theorem agn_get (rs : List Int) : ∀ (m i : Nat), i < m * rs.length → ((List.replicate m rs).flatten).getD i 0 = rs.getD (i % rs.length) 0
  | 0, i, h => by omega
  | m + 1, i, h => by
    rw [List.replicate_succ, List.flatten_cons, List.getD_eq_getElem?_getD]
    rw [Nat.succ_mul] at h
    by_cases c : i < rs.length
    · rw [List.getElem?_append_left c, Nat.mod_eq_of_lt c, List.getD_eq_getElem?_getD]
    · rw [List.getElem?_append_right (by omega), ← List.getD_eq_getElem?_getD, agn_get rs m _ (by omega), ← Nat.mod_eq_sub_mod (by omega)]
theorem agn_len (rs : List Int) (m : Nat) : ((List.replicate m rs).flatten).length = m * rs.length := by
  rw [List.length_flatten, List.map_replicate, List.sum_replicate_nat]
theorem agn_cn {rs : List Int} {m : Nat} (hm : 0 < m) (hr : 0 < rs.length) : ∀ i, cn ((List.replicate m rs).flatten) i = cn rs i
  | 0 => rfl
  | i + 1 => by
    show cn ((List.replicate m rs).flatten) i + ((List.replicate m rs).flatten).getD (i % ((List.replicate m rs).flatten).length) 0 = cn rs i + rs.getD (i % rs.length) 0
    rw [agn_cn hm hr i, agn_len, agn_get rs m _ (Nat.mod_lt _ (Nat.mul_pos hm hr)), Nat.mod_mul_left_mod]
theorem agn_sum {rs : List Int} {m : Nat} : ((List.replicate m rs).flatten).sum = (m : Int) * rs.sum := by
  induction m with
  | zero => simp
  | succ m ih =>
    rw [List.replicate_succ, List.flatten_cons, List.sum_append, ih, Int.natCast_add, Int.add_mul]
    simp
    omega
theorem agn_Df {rs : List Int} {m : Nat} (hm : 0 < m) (hr : 0 < rs.length) (i : Nat) : Df ((List.replicate m rs).flatten) i = (m : Int) * Df rs i := by
  unfold Df
  rw [agn_cn hm hr, agn_len, agn_sum, Int.mul_sub, Int.natCast_mul, Int.mul_left_comm, Int.mul_left_comm (i : Int)]
theorem agn_best {rs : List Int} {w : Int} {j m : Nat} (hm : 0 < m) (hr : 0 < rs.length) (b : Best (Df rs) rs.length w j) : Best (Df ((List.replicate m rs).flatten)) ((List.replicate m rs).flatten).length ((m : Int) * w) j := by
  have ab : ∀ i, ((Df ((List.replicate m rs).flatten) i).natAbs : Int) = (m : Int) * ((Df rs i).natAbs : Int) := fun i => by
    rw [agn_Df hm hr, Int.natAbs_mul, Int.natAbs_natCast, Int.natCast_mul]
  refine ⟨?_, ?_, fun i _ => ?_, fun i hi => ?_⟩
  · rw [agn_len]
    exact Nat.le_trans b.le (Nat.le_mul_of_pos_left _ hm)
  · rw [ab, b.eq]
  · rw [ab]
    exact Int.mul_le_mul_of_nonneg_left (best_all hr b i) (by omega)
  · rw [ab]
    exact Int.mul_lt_mul_of_pos_left (b.first i hi) (by omega)
/-! told late -/
def late (rs : List Int) (by_ : Int) : List Int := (List.range rs.length).map fun (t : Nat) => rs.getD (((t : Int) - by_) % (rs.length : Int)).toNat 0
theorem late_len (rs : List Int) (b : Int) : (late rs b).length = rs.length := by
  unfold late
  rw [List.length_map, List.length_range]
theorem late_cn {rs : List Int} {b s : Nat} (hr : 0 < rs.length) (hs : s = rs.length - b % rs.length) : ∀ i, cn (late rs (b : Int)) i = cn rs (i + s) - cn rs s
  | 0 => by
    rw [Nat.zero_add]
    show (0 : Int) = _
    omega
  | i + 1 => by
    show cn (late rs b) i + (late rs b).getD (i % (late rs b).length) 0 = _
    have e1 : cn rs (i + 1 + s) = cn rs (i + s) + rs.getD ((i + s) % rs.length) 0 := by
      rw [show i + 1 + s = (i + s) + 1 by omega]
      rfl
    rw [late_cn hr hs i, e1, late_len]
    have hm : i % rs.length < rs.length := Nat.mod_lt _ hr
    have e2 : (late rs b).getD (i % rs.length) 0 = rs.getD ((i + s) % rs.length) 0 := by
      unfold late
      rw [List.getD_eq_getElem?_getD, List.getElem?_map, List.getElem?_range hm]
      show rs.getD ((((i % rs.length : Nat) : Int) - (b : Int)) % (rs.length : Int)).toNat 0 = _
      congr 1
      have e3 : (((i % rs.length : Nat) : Int) - (b : Int)) % (rs.length : Int) = (((i + s) % rs.length : Nat) : Int) := by
        have h1 := Nat.div_add_mod i rs.length
        have h2 := Nat.div_add_mod b rs.length
        have h3 : b % rs.length < rs.length := Nat.mod_lt _ hr
        have e4 : ((i % rs.length : Nat) : Int) - (b : Int) = ((i + s : Nat) : Int) + (rs.length : Int) * (-((i / rs.length : Nat) : Int) - 1 - ((b / rs.length : Nat) : Int)) := by
          rw [Int.mul_sub, Int.mul_sub, Int.mul_neg, ← Int.natCast_mul, ← Int.natCast_mul, Int.mul_one]
          generalize rs.length * (i / rs.length) = x at h1 ⊢
          generalize rs.length * (b / rs.length) = y at h2 ⊢
          omega
        rw [e4, Int.add_mul_emod_self_left, Int.natCast_emod]
      rw [e3]
      rfl
    rw [e2]
    omega
theorem late_sum {rs : List Int} {b : Nat} (hr : 0 < rs.length) : (late rs (b : Int)).sum = rs.sum := by
  have h := late_cn (b := b) hr rfl rs.length
  have e := cn_all (late rs (b : Int))
  rw [late_len] at e
  rw [← e, h, Nat.add_comm, cn_again]
  omega
theorem late_Df {rs : List Int} {b : Nat} (hr : 0 < rs.length) (i : Nat) : Df (late rs (b : Int)) i = Df rs (i + (rs.length - b % rs.length)) - Df rs (rs.length - b % rs.length) := by
  unfold Df
  rw [late_cn hr rfl, late_len, late_sum hr, Int.sub_mul, Int.natCast_add, Int.add_mul]
  omega
theorem late_ends {rs : List Int} {b : Nat} {L G L' G' : Int} {iL iG jL jG : Nat} (hr : 0 < rs.length) (k : Ends (Df rs) rs.length L G iL iG) (k' : Ends (Df (late rs (b : Int))) rs.length L' G' jL jG) : G' - L' = G - L := by
  have a := ends_all hr k
  have h' : ∀ i, L' ≤ Df (late rs (b : Int)) i ∧ Df (late rs (b : Int)) i ≤ G' := by
    have := ends_all (rs := late rs (b : Int)) (by rw [late_len]; exact hr) (by rw [late_len]; exact k')
    exact this
  have h3 : b % rs.length < rs.length := Nat.mod_lt _ hr
  have inv : ∀ i, Df (late rs (b : Int)) (i + b % rs.length) = Df rs i - Df rs (rs.length - b % rs.length) := fun i => by
    rw [late_Df hr, show i + b % rs.length + (rs.length - b % rs.length) = i + rs.length by omega, Df_again]
  have e1 := late_Df (b := b) hr jG
  have e2 := late_Df (b := b) hr jL
  rw [k'.eG] at e1
  rw [k'.eL] at e2
  have f1 := inv iG
  have f2 := inv iL
  rw [k.eG] at f1
  rw [k.eL] at f2
  have p1 := a (jG + (rs.length - b % rs.length))
  have p2 := a (jL + (rs.length - b % rs.length))
  have p3 := h' (iG + b % rs.length)
  have p4 := h' (iL + b % rs.length)
  omega
/-! the ones ahead, the ones behind -/
theorem near_Df {n k : Nat} (hk : k ≤ n) {i : Nat} (hi : i ≤ n) : Df (List.replicate k 1 ++ List.replicate (n - k) 0) i = if i ≤ k then (i : Int) * ((n : Int) - k) else (k : Int) * ((n : Int) - i) := by
  have ll : (List.replicate k (1 : Int) ++ List.replicate (n - k) 0).length = n := by
    rw [List.length_append, List.length_replicate, List.length_replicate]
    omega
  have ss : (List.replicate k (1 : Int) ++ List.replicate (n - k) 0).sum = (k : Int) := by
    rw [List.sum_append, List.sum_replicate_int, List.sum_replicate_int]
    simp
  unfold Df
  rw [ll, ss, cn_take _ _ (by omega), List.take_append, List.sum_append, List.length_replicate, List.take_replicate, List.take_replicate, List.sum_replicate_int, List.sum_replicate_int]
  split
  · rename_i h
    rw [Nat.min_eq_left h, Int.mul_sub]
    simp
  · rename_i h
    rw [Nat.min_eq_right (by omega), Int.mul_sub, Int.mul_comm (k : Int) (i : Int)]
    simp
theorem near_le {n k : Nat} (hk : k ≤ n) {i : Nat} (hi : i ≤ n) : 0 ≤ Df (List.replicate k 1 ++ List.replicate (n - k) 0) i ∧ Df (List.replicate k 1 ++ List.replicate (n - k) 0) i ≤ (k : Int) * ((n : Int) - k) := by
  rw [near_Df hk hi]
  split
  · exact ⟨Int.mul_nonneg (by omega) (by omega), Int.mul_le_mul_of_nonneg_right (by omega) (by omega)⟩
  · exact ⟨Int.mul_nonneg (by omega) (by omega), Int.mul_le_mul_of_nonneg_left (by omega) (by omega)⟩
theorem near_lt {n k i : Nat} (hk : k < n) (hi : i < k) : Df (List.replicate k 1 ++ List.replicate (n - k) 0) i < (k : Int) * ((n : Int) - k) := by
  rw [near_Df (by omega) (by omega), if_pos (by omega)]
  exact Int.mul_lt_mul_of_pos_right (by omega) (by omega)
def nPl (n k : Nat) : Nat := if k < n then k else 0
theorem near_at {n k : Nat} (hk : k ≤ n) : Df (List.replicate k 1 ++ List.replicate (n - k) 0) (nPl n k) = (k : Int) * ((n : Int) - k) := by
  unfold nPl
  split
  · rw [near_Df hk (by omega), if_pos (Nat.le_refl _)]
  · rw [near_Df hk (by omega), if_pos (by omega), show n = k by omega]
    simp
theorem nPl_le {n k : Nat} (hk : k ≤ n) : nPl n k ≤ n := by
  unfold nPl
  split <;> omega
theorem near_first {n k i : Nat} (hi : i < nPl n k) : Df (List.replicate k 1 ++ List.replicate (n - k) 0) i < (k : Int) * ((n : Int) - k) := by
  unfold nPl at hi
  split at hi
  · rename_i h
    exact near_lt h hi
  · omega
theorem near_best {n k : Nat} (hk : k ≤ n) : Best (Df (List.replicate k 1 ++ List.replicate (n - k) 0)) n ((k : Int) * ((n : Int) - k)) (nPl n k) := by
  have ab : ∀ i, i ≤ n → ((Df (List.replicate k 1 ++ List.replicate (n - k) 0) i).natAbs : Int) = Df (List.replicate k 1 ++ List.replicate (n - k) 0) i := fun i hi => Int.natAbs_of_nonneg (near_le hk hi).1
  have := nPl_le hk
  refine ⟨this, ?_, fun i hi => ?_, fun i hi => ?_⟩
  · rw [ab _ this, near_at hk]
  · rw [ab i hi]
    exact (near_le hk hi).2
  · rw [ab i (by omega)]
    exact near_first hi
theorem near_ends {n k : Nat} (hk : k ≤ n) : Ends (Df (List.replicate k 1 ++ List.replicate (n - k) 0)) n 0 ((k : Int) * ((n : Int) - k)) 0 (nPl n k) :=
  ⟨by omega, Df_zero _, fun i hi => (near_le hk hi).1, fun i hi => by omega, nPl_le hk, near_at hk, fun i hi => (near_le hk hi).2, fun i hi => Int.ne_of_lt (near_first hi)⟩
/-- noughts ahead: the ones ahead, turned -/
theorem far_is {n k : Nat} : List.replicate (n - k) (0 : Int) ++ List.replicate k 1 = trn (List.replicate (n - k) 1 ++ List.replicate k 0) := by
  unfold trn
  rw [List.map_append, List.map_replicate, List.map_replicate]
  rfl
theorem far_best {n k : Nat} (hk : k ≤ n) : Best (Df (List.replicate (n - k) 0 ++ List.replicate k 1)) n ((k : Int) * ((n : Int) - k)) (nPl n (n - k)) := by
  have b := near_best (n := n) (k := n - k) (by omega)
  rw [show n - (n - k) = k by omega] at b
  have t := trn_best (rs := List.replicate (n - k) 1 ++ List.replicate k 0) (w := (k : Int) * ((n : Int) - k)) (j := nPl n (n - k)) (by
    rw [List.length_append, List.length_replicate, List.length_replicate, show n - k + k = n by omega]
    have e : ((n - k : Nat) : Int) * ((n : Int) - ((n - k : Nat) : Int)) = (k : Int) * ((n : Int) - k) := by
      rw [show ((n - k : Nat) : Int) = (n : Int) - k by omega, show (n : Int) - ((n : Int) - k) = k by omega, Int.mul_comm]
    rw [← e]
    exact b)
  rw [← far_is, List.length_append, List.length_replicate, List.length_replicate, show n - k + k = n by omega] at t
  exact t
theorem far_ends {n k : Nat} (hk : k ≤ n) : Ends (Df (List.replicate (n - k) 0 ++ List.replicate k 1)) n (-((k : Int) * ((n : Int) - k))) 0 (nPl n (n - k)) 0 := by
  have b := near_ends (n := n) (k := n - k) (by omega)
  rw [show n - (n - k) = k by omega] at b
  have e : ((n - k : Nat) : Int) * ((n : Int) - ((n - k : Nat) : Int)) = (k : Int) * ((n : Int) - k) := by
    rw [show ((n - k : Nat) : Int) = (n : Int) - k by omega, show (n : Int) - ((n : Int) - k) = k by omega, Int.mul_comm]
  rw [e] at b
  have t := trn_ends (rs := List.replicate (n - k) 1 ++ List.replicate k 0) (by
    rw [List.length_append, List.length_replicate, List.length_replicate, show n - k + k = n by omega]
    exact b)
  rw [← far_is, List.length_append, List.length_replicate, List.length_replicate, show n - k + k = n by omega] at t
  exact t
def sp_again (_ : PySem.W.Frag) : Sp := fun vs H Q _ => ∃ (a : Addr) (rs : List Int) (k : Nat), vs = [.ref a, .int (k : Nat)] ∧ H a = some (.tup (rs.map V.int)) ∧ 0 < rs.length ∧ 1 ≤ k ∧ rs.length * k ≤ 1000000 ∧
  ∀ H' p, Same H H' → H' p = some (.tup (((List.replicate k rs).flatten).map V.int)) → Q (.ref p) H'
theorem map_rep (k : Nat) (rs : List Int) : (List.replicate k (rs.map V.int)).flatten = ((List.replicate k rs).flatten).map V.int := by
  rw [List.map_flatten, List.map_replicate]
theorem ok_again (T : Defs K mg) (TT : Tabs T base) : FnOk P w K mg base CX0 1 T.f_again T.fd_again ["row", "many"] (sp_again K) := by
  refine T.F_again.ok sc_again (fun vs H Q E h => ?_) (fun cdv A outer s H vs Q E hr h => ?_)
  · obtain ⟨a, rs, k, rfl, ha, h0, hk, hl, q⟩ := h
    rfl
  · obtain ⟨a, rs, k, rfl, ha, h0, hk, hl, q⟩ := h
    refine ⟨_, PSs.nox (pss_one (ps_ret (pe_op op_repA (pv 0) (pv 1)))), ?_⟩
    refine ⟨.ref a, rfl, .int (k : Nat), rfl, a, k, _, rfl, rfl, SqT.mk ha, fun z => ?_, hk, by rw [List.length_map]; exact hl, fun z => ?_, fun z p np => ?_⟩
    · rw [List.map_eq_nil_iff.mp z] at h0
      cases h0
    · subst z
      exact q H a (Same.refl H) (by rw [show (List.replicate 1 rs).flatten = rs by simp]; exact ha)
    · rw [map_rep]
      exact q _ p (same_upd np) upd_same
theorem late_get {rs : List Int} {b : Int} {t : Nat} (h : t < rs.length) : (late rs b)[t]? = rs[(((t : Int) - b) % (rs.length : Int)).toNat]? := by
  unfold late
  have h0 : (0 : Int) < (rs.length : Int) := by omega
  have h1 := Int.emod_lt_of_pos ((t : Int) - b) h0
  have h2 := Int.emod_nonneg ((t : Int) - b) (show (rs.length : Int) ≠ 0 by omega)
  rw [List.getElem?_map, List.getElem?_range h]
  show some (rs.getD _ 0) = _
  rw [List.getD_eq_getElem?_getD, List.getElem?_eq_getElem (by omega)]
  rfl
def sp_turned {K : PySem.W.Frag} {mg : Str → Option Value} (T : Defs K mg) : Sp := fun vs H Q _ => ∃ (a : Addr) (rs : List Int), vs = [.ref a] ∧ H a = some (.tup (rs.map V.int)) ∧ rs.length ≤ 100000 ∧ GxR.TabG H T.P_turned ∧
  ∀ H' p, Sam H H' → H p = none → H' p = some (.tup ((trn rs).map V.int)) → Q (.ref p) H'
theorem ok_turned (T : Defs K mg) (TT : Tabs T base) : FnOk P w K mg base CX0 1 T.f_turned T.fd_turned ["row"] (sp_turned T) := by
  refine okC T.F_turned T.k_turned sc_turned (fun vs H Q E h => ?_) (fun A outer s H vs Q E hr h => ?_)
  · obtain ⟨a, rs, rfl, ha, hl, tg, q⟩ := h
    rfl
  · obtain ⟨a, rs, rfl, ha, hl, tg, q⟩ := h
    refine ⟨_, PSs.nox (pss_one (ps_ret (pe_tupG hr (by rfl) T.m_tuple bt_tuple TT.t_turned rfl ⟨rfl, rfl, by decide +kernel, rfl, rfl, gs_free rfl⟩ (src_tup (pv 0)) (elt_turn rfl rfl) (fun _ => rfl)))), ?_⟩
    have hsl : sizeLine = 16777216 := by decide
    refine ⟨.ref a, rfl, a, _, rfl, ha, tg, by rw [List.length_map]; omega, (trn rs).map V.int, ?_, ?_, ?_⟩
    · rw [List.length_map, trn_len, List.length_map]
    · intro i x hx
      rw [List.getElem?_map] at hx
      obtain ⟨t, ht, rfl⟩ := Option.map_eq_some_iff.mp hx
      refine ⟨.int (1 - t), ?_, t, rfl, rfl⟩
      unfold trn
      rw [List.getElem?_map, List.getElem?_map, ht]
      rfl
    · intro H2 p tb np
      have s2 := Sam.tabbed tg tb
      exact q _ p (sam_newer s2 (s2.free np)) (s2.free np) upd_same
def sp_round_late {K : PySem.W.Frag} {mg : Str → Option Value} (T : Defs K mg) : Sp := fun vs H Q _ => ∃ (a : Addr) (rs : List Int) (b : Int), vs = [.ref a, .int b] ∧ H a = some (.tup (rs.map V.int)) ∧ 0 < rs.length ∧ rs.length ≤ 100000 ∧ GxR.TabG H T.P_round_late ∧
  ∀ H' p, Sam H H' → H p = none → H' p = some (.tup ((late rs b).map V.int)) → Q (.ref p) H'
theorem ok_round_late (T : Defs K mg) (TT : Tabs T base) : FnOk P w K mg base CX0 1 T.f_round_late T.fd_round_late ["row", "by"] (sp_round_late T) := by
  refine okC T.F_round_late T.k_round_late sc_round_late (fun vs H Q E h => ?_) (fun A outer s H vs Q E hr h => ?_)
  · obtain ⟨a, rs, b, rfl, ha, h0, hl, tg, q⟩ := h
    rfl
  · obtain ⟨a, rs, b, rfl, ha, h0, hl, tg, q⟩ := h
    refine ⟨_, PSs.nox (pss_one (ps_ret (pe_tupG hr (by rfl) T.m_tuple bt_tuple TT.t_round_late rfl ⟨rfl, rfl, by decide +kernel, rfl, rfl, gs_free rfl⟩ (src_range (by rfl) T.m_range (pa_cons (pe_callB call_len_seq (by rfl) T.m_len bt_len (pa_cons (pv 0) pa_nil)) pa_nil)) (elt_late (i := 0) (j := 1) TT.t_round_late rfl rfl rfl rfl rfl T.m_len rfl rfl rfl rfl (fun _ => rfl) (fun _ => rfl)) (fun _ => rfl)))), ?_⟩
    have hsl : sizeLine = 16777216 := by decide
    refine ⟨.ref a, rfl, a, _, rfl, .inr (SqT.mk ha), rs.length, by rw [List.length_map], by omega, tg, by rw [List.length_map, List.length_range]; omega, (late rs b).map V.int, ?_, ?_, ?_⟩
    · rw [List.length_map, late_len, List.length_map, List.length_range]
    · intro i x hx
      rw [List.getElem?_map] at hx
      have hi : i < rs.length := by
        by_cases z : i < rs.length
        · exact z
        · rw [List.getElem?_eq_none (by rw [List.length_range]; omega)] at hx
          cases hx
      rw [List.getElem?_range hi] at hx
      cases hx
      have h3 : (0 : Int) < (rs.length : Int) := by omega
      have h1 := Int.emod_lt_of_pos ((i : Int) - b) h3
      have h2 := Int.emod_nonneg ((i : Int) - b) (show (rs.length : Int) ≠ 0 by omega)
      have hj : (((i : Int) - b) % (rs.length : Int)).toNat < rs.length := by omega
      refine ⟨.int rs[(((i : Int) - b) % (rs.length : Int)).toNat], ?_, a, rs.map V.int, b, i, rfl, ha, rfl, rfl, by rw [List.length_map]; exact h0, ?_⟩
      · rw [List.getElem?_map, late_get hi, List.getElem?_eq_getElem hj]
        rfl
      · rw [List.length_map, List.getElem?_map, List.getElem?_eq_getElem hj]
        rfl
    · intro H2 p tb np
      have s2 := Sam.tabbed tg tb
      exact q _ p (sam_newer s2 (s2.free np)) (s2.free np) upd_same
/-! ones scattered -/
theorem sum_set : ∀ (xs : List Int) (p : Nat) (v : Int), p < xs.length → (xs.set p v).sum = xs.sum - xs.getD p 0 + v
  | [], p, v, h => by cases h
  | x :: r, 0, v, _ => by
    rw [List.set_cons_zero, List.sum_cons, List.sum_cons, List.getD_cons_zero]
    omega
  | x :: r, p + 1, v, h => by
    rw [List.set_cons_succ, List.sum_cons, List.sum_cons, List.getD_cons_succ, sum_set r p v (by rw [List.length_cons] at h; omega)]
    omega
theorem bits_set {xs : List Int} {p : Nat} {v : Int} (h : Bits xs) (hv : v = 0 ∨ v = 1) : Bits (xs.set p v) := fun x hx => by
  rcases List.mem_or_eq_of_mem_set hx with z | z
  · exact h x z
  · rw [z]
    exact hv
structure Sct (n k : Nat) (left row : List Int) : Prop where
  ll : left.length = n - k
  lr : row.length = n
  bt : Bits row
  sm : row.sum = k
  nd : left.Nodup
  mem : ∀ x, x ∈ left → ∃ p : Nat, x = (p : Int) ∧ p < n ∧ row.getD p 0 = 0
theorem nd_inj {xs : List Int} (h : xs.Nodup) {i j : Nat} (hi : i < xs.length) (hj : j < xs.length) (e : xs[i] = xs[j]) : i = j := by
  rcases Nat.lt_trichotomy i j with z | z | z
  · exact absurd e ((List.pairwise_iff_getElem.mp h) i j hi hj z)
  · exact z
  · exact absurd e.symm ((List.pairwise_iff_getElem.mp h) j i hj hi z)
theorem Sct.step {n k r p : Nat} {left row : List Int} (h : Sct n k left row) (hk : k < n) (hr : left[r]? = some (p : Int)) : Sct n (k + 1) (left.eraseIdx r) (row.set p 1) := by
  have hl := (List.getElem?_eq_some_iff.mp hr).1
  obtain ⟨p', e, hp, h0⟩ := h.mem _ (List.mem_of_getElem? hr)
  have e : p = p' := by omega
  subst e
  have hlr := h.lr
  refine ⟨?_, by rw [List.length_set]; exact h.lr, bits_set h.bt (.inr rfl), ?_, h.nd.sublist (List.eraseIdx_sublist left r), fun x hx => ?_⟩
  · rw [List.length_eraseIdx_of_lt hl, h.ll]
    omega
  · rw [sum_set _ _ _ (by omega), h.sm, h0]
    omega
  · obtain ⟨q, rfl, hq, hq0⟩ := h.mem x (List.mem_of_mem_eraseIdx hx)
    refine ⟨q, rfl, hq, ?_⟩
    have ne : q ≠ p := fun z => by
      subst z
      obtain ⟨j, hj, ej⟩ := List.getElem_of_mem hx
      have nd := h.nd
      rw [List.getElem_eraseIdx] at ej
      rw [List.length_eraseIdx_of_lt hl] at hj
      obtain ⟨h1, e1⟩ := List.getElem?_eq_some_iff.mp hr
      split at ej
      · have := nd_inj nd (by omega) h1 (ej.trans e1.symm)
        omega
      · have := nd_inj nd (by omega) h1 (ej.trans e1.symm)
        omega
    rw [List.getD_eq_getElem?_getD, List.getElem?_set, if_neg (Ne.symm ne), ← List.getD_eq_getElem?_getD]
    exact hq0
theorem Sct.start (n : Nat) : Sct n 0 ((List.range n).map fun (i : Nat) => (i : Int)) (List.replicate n 0) := by
  refine ⟨by rw [List.length_map, List.length_range]; omega, List.length_replicate, fun x hx => .inl (List.eq_of_mem_replicate hx), by rw [List.sum_replicate_int]; simp, ?_, fun x hx => ?_⟩
  · refine List.Pairwise.map _ (fun a b h => ?_) List.nodup_range
    omega
  · obtain ⟨p, hp, rfl⟩ := List.mem_map.mp hx
    have hp := List.mem_range.mp hp
    refine ⟨p, rfl, hp, ?_⟩
    rw [List.getD_eq_getElem?_getD, List.getElem?_replicate, if_pos hp]
    rfl
def sp__law_scattered (_ : PySem.W.Frag) : Sp := fun vs H Q _ => ∃ (p : Addr) (m k n : Nat), vs = [.ref p, .int (m : Nat), .int (k : Nat)] ∧ Bx H p n ∧ n < 1000000000 ∧ k ≤ m ∧ m ≤ 4096 ∧
  ∀ H' a (rs : List Int), But p H H' → Bx H' p (n + 5000) → H' a = some (.tup (rs.map V.int)) → rs.length = m → Bits rs → rs.sum = k → Q (.ref a) H'
theorem ok__law_scattered (T : Defs K mg) (TT : Tabs T base) : FnOk P w K mg base CX0 2 T.f__law_scattered T.fd__law_scattered ["_law_box_here", "_law_many", "_law_ones_there"] (sp__law_scattered K) := by
  have G__law_take : FnOk P w K mg base CX0 1 T.f__law_take T.fd__law_take ["_law_box_here", "_law_many"] (sp__law_take K) := ok__law_take T TT
  refine T.F__law_scattered.ok sc__law_scattered (fun vs H Q E h => ?_) (fun cdv A outer s H vs Q E hr h => ?_)
  · obtain ⟨p, m, k, n, rfl, hB, hn, hk, hm, q⟩ := h
    rfl
  · obtain ⟨p, m, k, n, rfl, hB, hn, hk, hm, q⟩ := h
    refine ⟨_, PSs.nox (pss_cons (ps_par (i := 3) (j := 4) (by rfl) sc__law_scattered.nd rfl rfl (by decide) rfl rfl (pa_cons (pe_listRg rfl (by rfl) T.m_list (prg_1 (by rfl) T.m_range (pv 1))) (pa_cons (pe_op op_rep (pe_lst (pa_cons pe_int pa_nil)) (pv 1)) pa_nil)) (by rfl))
    (pss_cons (ps_for PassesOwn.never rfl (pi_range1 (by rfl) T.m_range (pa_cons (pv 2) pa_nil)) (pg_name (i := 5) sc__law_scattered.nd rfl (.inl rfl)) (pss_one (ps_asg pe_int (pg_sub (pv 4) ((pe_bm PySem.F.plainAttrs_list PySem.F.slot_list_pop PySem.F.type_list_pop mt_popAt (pv 3) (pa_cons (pe_call G__law_take (hr.mono (by decide)) (by rfl) T.g__law_take T.F__law_take.kp T.b__law_take .nil pass0 (pa_cons (pv 0) (pa_cons (pe_callB call_len_seq (by rfl) T.m_len bt_len (pa_cons (pv 3) pa_nil)) pa_nil))) pa_nil))) set_list))))
    (pss_one (ps_ret (pe_callTy call_tuple_of (by rfl) T.m_tuple bt_tuple (pa_cons (pv 4) pa_nil)))))), ?_⟩
    have hsl : sizeLine = 16777216 := by decide
    refine ⟨.int (m : Nat), rfl, (m : Nat), rfl, RgOk.of_le (Int.le_refl 0) (by omega) (by decide) (by omega), fun L nL => ?_⟩
    have eL : rgV 0 (m : Int) = ((List.range m).map fun (i : Nat) => (i : Int)).map V.int := by
      unfold rgV
      rw [List.map_map, show ((m : Int) - 0).toNat = m by omega]
      apply List.map_congr_left
      intro i _
      show V.int (0 + (i : Int)) = V.int (i : Int)
      rw [Int.zero_add]
    rw [eL]
    refine ⟨(show 1 ≤ sizeLine by decide), fun l nl => ⟨.int (m : Nat), rfl, l, _, _, rfl, rfl, upd_same, by omega, by omega, by rw [Int.toNat_natCast]; show 1 * m ≤ _; omega, fun D nD => ?_⟩⟩
    rw [Int.toNat_natCast, rep_one]
    refine ⟨_, _, rfl, ?_⟩
    have c0 : But p H (upd (upd (upd H L (.lst (((List.range m).map fun (i : Nat) => (i : Int)).map V.int))) l (.lst [.int 0])) D (.lst ((List.replicate m 0).map V.int))) := (((But.refl p H).new nL).new nl).new nD
    have B0 := ((hB.new (o := .lst (((List.range m).map fun (i : Nat) => (i : Int)).map V.int)) nL).new (o := .lst [.int 0]) nl).new (o := .lst ((List.replicate m 0).map V.int)) nD
    have hL : (upd (upd (upd H L (.lst (((List.range m).map fun (i : Nat) => (i : Int)).map V.int))) l (.lst [.int 0])) D (.lst ((List.replicate m 0).map V.int))) L = some (.lst (((List.range m).map fun (i : Nat) => (i : Int)).map V.int)) := (same_upd nD) _ _ ((same_upd nl) _ _ upd_same)
    have hD : (upd (upd (upd H L (.lst (((List.range m).map fun (i : Nat) => (i : Int)).map V.int))) l (.lst [.int 0])) D (.lst ((List.replicate m 0).map V.int))) D = some (.lst ((List.replicate m 0).map V.int)) := upd_same
    have LD : L ≠ D := ne_of_none ((same_upd nl (o := .lst [.int 0])) _ _ upd_same) nD
    have Lp : L ≠ p := ne_new hB nL
    have Dp : D ≠ p := ne_new ((hB.new nL).new nl) nD
    have nLH : H L = none := nL
    have nDH : H D = none := (same_upd nL).free ((same_upd nl).free nD)
    generalize upd (upd (upd H L (.lst (((List.range m).map fun (i : Nat) => (i : Int)).map V.int))) l (.lst [.int 0])) D (.lst ((List.replicate m 0).map V.int)) = G0 at c0 B0 hL hD ⊢
    refine ⟨.int (k : Nat), rfl, _, rfl, by omega, by omega, for_range (n := k) (fun i σ G => ∃ y5 left row, σ = [some (.ref p), some (.int (m : Nat)), some (.int (k : Nat)), some (.ref L), some (.ref D), y5] ∧ But p H G ∧ Bx G p (n + i) ∧ G L = some (.lst (left.map V.int)) ∧ G D = some (.lst (row.map V.int)) ∧ Sct m i left row) ⟨none, _, _, rfl, c0, B0, hL, hD, Sct.start m⟩ ?_ ?_⟩
    · rintro i σ G hi ⟨y5, left, row, rfl, bG, BG, hL, hD, sc⟩
      have hi : i < k := by omega
      have ll := sc.ll
      refine ⟨.ref D, rfl, .ref L, rfl, .inl ⟨rfl, _, SqL.mk hL⟩, .ref p, rfl, .ref L, rfl, L, _, rfl, .inl (SqL.mk hL), p, left.length, _, by rw [List.length_map]; rfl, BG, by omega, by omega, by omega, fun G1 r1 c1 B1 l1 u1 => ?_⟩
      obtain ⟨r, rfl⟩ := Int.eq_ofNat_of_zero_le l1
      have hr : r < left.length := by omega
      have hL1 := c1 _ _ Lp hL
      have hD1 := c1 _ _ Dp hD
      obtain ⟨x, hx, xn, x0⟩ := sc.mem _ (List.getElem_mem hr)
      have gr : left[r]? = some (x : Int) := by rw [List.getElem?_eq_getElem hr, hx]
      refine ⟨L, _, _, r, .int (x : Nat), rfl, rfl, hL1, by omega, by omega, ?_, by rw [List.getElem?_map, gr]; rfl, ?_⟩
      · rw [List.length_map]
        exact seqIndex_of (by omega) (by omega)
      have e1 : (left.map V.int).eraseIdx r = (left.eraseIdx r).map V.int := by simp [List.eraseIdx_eq_take_drop_succ]
      rw [e1]
      have hD2 : (upd G1 L (.lst ((left.eraseIdx r).map V.int))) D = some (.lst (row.map V.int)) := by
        rw [upd_ne (Ne.symm LD)]
        exact hD1
      refine ⟨D, _, _, x, rfl, rfl, hD2, ixn (by rw [List.length_map, sc.lr]; exact xn), ?_⟩
      rw [← List.map_set]
      refine ⟨_, left.eraseIdx r, row.set x 1, rfl, but_newer (but_newer (bG.trans c1) nLH) nDH, ((B1.other Lp).other Dp).mono (by omega), ?_, upd_same, sc.step (by omega) gr⟩
      rw [upd_ne LD]
      exact upd_same
    · rintro σ G ⟨y5, left, row, rfl, bG, BG, hL, hD, sc⟩
      refine ⟨.ref D, rfl, D, _, rfl, .inl ⟨SqL.mk hD, fun a na => ?_⟩⟩
      exact q _ a row (bG.new na) ((BG.new na).mono (by omega)) upd_same sc.lr sc.bt sc.sm
theorem eqvP {K : PySem.W.Frag} {H : Hp} {t t' p p' : Addr} {a b j : Int} (ht : H t = some (.tup [.ref p, .int j])) (ht' : H t' = some (.tup [.ref p', .int j])) (hp : H p = some (.tup [.int a, .int b])) (hp' : H p' = some (.tup [.int a, .int b])) {Q : VK} (q : Q (.bl false) H) : rNeD K (.ref t) (.ref t') H Q := by
  refine ⟨_, _, .tup (SqT.mk ht) (.cons (.tup (SqT.mk hp) (.cons (.int a) (.cons (.int b) .nil))) (.cons (.int j) .nil)), .tup (SqT.mk ht') (.cons (.tup (SqT.mk hp') (.cons (.int a) (.cons (.int b) .nil))) (.cons (.int j) .nil)), rfl, rfl, ?_⟩
  have e : PyData.eqv (.tuple [.tuple [.int a, .int b], .int j]) (.tuple [.tuple [.int a, .int b], .int j]) = true := by
    simp [PyData.eqv, PyData.eqvAll]
  rw [e]
  exact q
theorem eqvP3 {K : PySem.W.Frag} {H : Hp} {t t' p p' : Addr} {a b j k : Int} (ht : H t = some (.tup [.ref p, .int j, .int k])) (ht' : H t' = some (.tup [.ref p', .int j, .int k])) (hp : H p = some (.tup [.int a, .int b])) (hp' : H p' = some (.tup [.int a, .int b])) {Q : VK} (q : Q (.bl false) H) : rNeD K (.ref t) (.ref t') H Q := by
  refine ⟨_, _, .tup (SqT.mk ht) (.cons (.tup (SqT.mk hp) (.cons (.int a) (.cons (.int b) .nil))) (.cons (.int j) (.cons (.int k) .nil))), .tup (SqT.mk ht') (.cons (.tup (SqT.mk hp') (.cons (.int a) (.cons (.int b) .nil))) (.cons (.int j) (.cons (.int k) .nil))), rfl, rfl, ?_⟩
  have e : PyData.eqv (.tuple [.tuple [.int a, .int b], .int j, .int k]) (.tuple [.tuple [.int a, .int b], .int j, .int k]) = true := by
    simp [PyData.eqv, PyData.eqvAll]
  rw [e]
  exact q
theorem eqv2 {K : PySem.W.Frag} {H : Hp} {p r : Addr} {a b : Int} (hp : H p = some (.tup [.int a, .int b])) (hr : H r = some (.tup [.int a, .int b])) {Q : VK} (q : Q (.bl false) H) : rNeD K (.ref p) (.ref r) H Q := by
  refine ⟨_, _, .tup (SqT.mk hp) (.cons (.int a) (.cons (.int b) .nil)), .tup (SqT.mk hr) (.cons (.int a) (.cons (.int b) .nil)), rfl, rfl, ?_⟩
  have e : PyData.eqv (.tuple [.int a, .int b]) (.tuple [.int a, .int b]) = true := by
    simp [PyData.eqv, PyData.eqvAll]
  rw [e]
  exact q
theorem frB_bd {t b : Int} (hb : 0 < b) (h : b ≤ 100000) : -(2 ^ 64) < frB t b ∧ frB t b < 2 ^ 64 := by
  have p := fr_pos t (show b ≠ 0 by omega)
  have l : frB t b ≤ b := by
    rw [← (fr_ge t hb).2, Int.fdiv_eq_ediv_of_nonneg _ (by omega)]
    exact Int.ediv_le_self _ (by omega)
  omega
def sp__law_more (_ : PySem.W.Frag) : Sp := fun vs H Q _ => ∃ (a b : Addr) (x1 y1 x2 y2 : Int), vs = [.ref a, .ref b] ∧ H a = some (.tup [.int x1, .int y1]) ∧ H b = some (.tup [.int x2, .int y2]) ∧ (-(2 ^ 64) < y1 ∧ y1 < 2 ^ 64) ∧ (-(2 ^ 64) < y2 ∧ y2 < 2 ^ 64) ∧ ¬ x1 * y2 > x2 * y1 ∧ Q (.bl false) H
theorem ok__law_more (T : Defs K mg) (TT : Tabs T base) : FnOk P w K mg base CX0 1 T.f__law_more T.fd__law_more ["_law_one", "_law_other"] (sp__law_more K) := by
  refine T.F__law_more.ok sc__law_more (fun vs H Q E h => ?_) (fun cdv A outer s H vs Q E hr h => ?_)
  · obtain ⟨a, b, x1, y1, x2, y2, rfl, ha, hb, h1, h2, h3, q⟩ := h
    rfl
  · obtain ⟨a, b, x1, y1, x2, y2, rfl, ha, hb, h1, h2, h3, q⟩ := h
    refine ⟨_, PSs.nox (pss_one (ps_ret (pe_cmpR op_gt (pe_op op_mul (pe_ix ix_tup (pv 0) pe_int (fun _ _ => rfl)) (pe_ix ix_tup (pv 1) pe_int (fun _ _ => rfl))) (pe_op op_mul (pe_ix ix_tup (pv 1) pe_int (fun _ _ => rfl)) (pe_ix ix_tup (pv 0) pe_int (fun _ _ => rfl))) (nomark _)))), ?_⟩
    refine ⟨.ref a, rfl, a, _, 0, _, rfl, rfl, SqT.mk ha, atI_nat (j := 0) rfl, .ref b, rfl, b, _, 1, _, rfl, rfl, SqT.mk hb, atI_nat (j := 1) rfl, _, _, rfl, rfl, .inr h2, .ref b, rfl, b, _, 0, _, rfl, rfl, SqT.mk hb, atI_nat (j := 0) rfl, .ref a, rfl, a, _, 1, _, rfl, rfl, SqT.mk ha, atI_nat (j := 1) rfl, _, _, rfl, rfl, .inr h1, _, _, rfl, rfl, ?_⟩
    try dsimp only
    rw [decide_eq_false (show ¬ x2 * y1 < x1 * y2 from h3)]
    exact q
theorem Bus.same {p : Addr} {H H' : Hp} (s : Same H H') : Bus p H H' := .sam (.of s)
theorem pl1 (m k : Nat) : (k : Int) * (if decide ((k : Int) < (m : Int)) = true then (1 : Int) else 0) = (nPl m k : Nat) := by
  unfold nPl
  by_cases c : k < m
  · rw [decide_eq_true (show (k : Int) < (m : Int) by omega), if_pos rfl, if_pos c, Int.mul_one]
  · rw [decide_eq_false (show ¬ (k : Int) < (m : Int) by omega), if_neg Bool.false_ne_true, if_neg c, Int.mul_zero]
    rfl
theorem pl2 {m k : Nat} (h : k ≤ m) : ((m : Int) - (k : Int)) * (if decide ((0 : Int) < (k : Int)) = true then (1 : Int) else 0) = (nPl m (m - k) : Nat) := by
  unfold nPl
  by_cases c : 0 < k
  · rw [decide_eq_true (show (0 : Int) < (k : Int) by omega), if_pos rfl, Int.mul_one]
    by_cases d : m - k < m
    · rw [if_pos d]
      omega
    · omega
  · rw [decide_eq_false (show ¬ (0 : Int) < (k : Int) by omega), if_neg Bool.false_ne_true, if_neg (by omega), Int.mul_zero]
    rfl
def sp__law_right {K : PySem.W.Frag} {mg : Str → Option Value} (T : Defs K mg) : Sp := fun vs H Q _ => ∃ (p : Addr) (m k n : Nat), vs = [.ref p, .int (m : Nat), .int (k : Nat)] ∧ Bx H p n ∧ n < 100000000 ∧ 1 ≤ m ∧ m ≤ 2000 ∧ k ≤ m ∧ GxR.TabG H T.P_turned ∧ GxR.TabG H T.P_round_late ∧
  ∀ H', Bus p H H' → Bx H' p (n + 40000) → Q (.bl true) H'
theorem ok__law_right (T : Defs K mg) (TT : Tabs T base) : FnOk P w K mg base CX0 4 T.f__law_right T.fd__law_right ["_law_box_here", "_law_many", "_law_there"] (sp__law_right T) := by
  have G__law_lowest : FnOk P w K mg base CX0 1 T.f__law_lowest T.fd__law_lowest ["_law_top", "_law_bottom"] (sp__law_lowest K) := ok__law_lowest T TT
  have G__law_scattered : FnOk P w K mg base CX0 2 T.f__law_scattered T.fd__law_scattered ["_law_box_here", "_law_many", "_law_ones_there"] (sp__law_scattered K) := ok__law_scattered T TT
  have G_worst_part : FnOk P w K mg base CX0 3 T.f_worst_part T.fd_worst_part ["row"] (sp_worst_part K) := ok_worst_part T TT
  have G_worst_stretch : FnOk P w K mg base CX0 3 T.f_worst_stretch T.fd_worst_stretch ["row"] (sp_worst_stretch K) := ok_worst_stretch T TT
  have G__law_more : FnOk P w K mg base CX0 1 T.f__law_more T.fd__law_more ["_law_one", "_law_other"] (sp__law_more K) := ok__law_more T TT
  have G_again : FnOk P w K mg base CX0 1 T.f_again T.fd_again ["row", "many"] (sp_again K) := ok_again T TT
  have G_turned : FnOk P w K mg base CX0 1 T.f_turned T.fd_turned ["row"] (sp_turned T) := ok_turned T TT
  have G_round_late : FnOk P w K mg base CX0 1 T.f_round_late T.fd_round_late ["row", "by"] (sp_round_late T) := ok_round_late T TT
  have G__law_take : FnOk P w K mg base CX0 1 T.f__law_take T.fd__law_take ["_law_box_here", "_law_many"] (sp__law_take K) := ok__law_take T TT
  refine T.F__law_right.ok sc__law_right (fun vs H Q E h => ?_) (fun cdv A outer s H vs Q E hr h => ?_)
  · obtain ⟨p, m, k, n, rfl, hB, hn, m1, m2, hk, tg1, tg2, q⟩ := h
    rfl
  · obtain ⟨p, m, k, n, rfl, hB, hn, m1, m2, hk, tg1, tg2, q⟩ := h
    refine ⟨_, PSs.nox (pss_cons (ps_set (i := 3) sc__law_right.nd rfl (.inl rfl) (pe_call G__law_lowest (hr.mono (by decide)) (by rfl) T.g__law_lowest T.F__law_lowest.kp T.b__law_lowest .nil pass0 (pa_cons (pe_op op_mul (pv 2) (pe_op op_sub (pv 1) (pv 2))) (pa_cons (pv 1) pa_nil))))
    (pss_cons (ps_set (i := 4) sc__law_right.nd rfl (.inl rfl) (pe_op op_catA (pe_op op_repB (pe_tup (pa_cons pe_int pa_nil)) (pv 2)) (pe_op op_repB (pe_tup (pa_cons pe_int pa_nil)) (pe_op op_sub (pv 1) (pv 2)))))
    (pss_cons (ps_set (i := 5) sc__law_right.nd rfl (.inl rfl) ((pe_revT (pv 4))))
    (pss_cons (ps_set (i := 6) sc__law_right.nd rfl (.inl rfl) (pe_op op_mul (pv 2) (pe_callTy call_int1 (by rfl) T.m_int bt_int (pa_cons (pe_cmpR op_lt (pv 2) (pv 1) (nomark _)) pa_nil))))
    (pss_cons (ps_if (PW.pt (pw_or (pt_cmpR (op_neD hr.units) (pe_call G_worst_part (hr.mono (by decide)) (by rfl) T.g_worst_part T.F_worst_part.kp T.b_worst_part .nil pass0 (pa_cons (pv 4) pa_nil)) (pe_tup (pa_cons (pv 3) (pa_cons (pv 6) pa_nil))) (nomark _)) (pw_or1 (pt_cmpR (op_neD hr.units) (pe_call G_worst_stretch (hr.mono (by decide)) (by rfl) T.g_worst_stretch T.F_worst_stretch.kp T.b_worst_stretch .nil pass0 (pa_cons (pv 4) pa_nil)) (pe_tup (pa_cons (pv 3) (pa_cons pe_int (pa_cons (pv 6) pa_nil)))) (nomark _))))) (pss_one (ps_ret pe_bl)) pss_nil)
    (pss_cons (ps_set (i := 6) sc__law_right.nd rfl (.inl rfl) (pe_op op_mul (pe_op op_sub (pv 1) (pv 2)) (pe_callTy call_int1 (by rfl) T.m_int bt_int (pa_cons (pe_cmpR op_gt (pv 2) pe_int (nomark _)) pa_nil))))
    (pss_cons (ps_if (PW.pt (pw_or (pt_cmpR (op_neD hr.units) (pe_call G_worst_part (hr.mono (by decide)) (by rfl) T.g_worst_part T.F_worst_part.kp T.b_worst_part .nil pass0 (pa_cons (pv 5) pa_nil)) (pe_tup (pa_cons (pv 3) (pa_cons (pv 6) pa_nil))) (nomark _)) (pw_or1 (pt_cmpR (op_neD hr.units) (pe_call G_worst_stretch (hr.mono (by decide)) (by rfl) T.g_worst_stretch T.F_worst_stretch.kp T.b_worst_stretch .nil pass0 (pa_cons (pv 5) pa_nil)) (pe_tup (pa_cons (pv 3) (pa_cons pe_int (pa_cons (pv 6) pa_nil)))) (nomark _))))) (pss_one (ps_ret pe_bl)) pss_nil)
    (pss_cons (ps_for PassesOwn.never rfl (pi_range1 (by rfl) T.m_range (pa_cons pe_int pa_nil)) (pg_name (i := 7) sc__law_right.nd rfl (.inl rfl)) (pss_cons (ps_set (i := 8) sc__law_right.nd rfl (.inl rfl) (pe_call G__law_scattered (hr.mono (by decide)) (by rfl) T.g__law_scattered T.F__law_scattered.kp T.b__law_scattered .nil pass0 (pa_cons (pv 0) (pa_cons (pv 1) (pa_cons (pv 2) pa_nil)))))
    (pss_cons (ps_par (i := 9) (j := 10) (by rfl) sc__law_right.nd rfl rfl (by decide) rfl rfl (pa_cons (pe_call G_worst_part (hr.mono (by decide)) (by rfl) T.g_worst_part T.F_worst_part.kp T.b_worst_part .nil pass0 (pa_cons (pv 8) pa_nil)) (pa_cons (pe_call G_worst_stretch (hr.mono (by decide)) (by rfl) T.g_worst_stretch T.F_worst_stretch.kp T.b_worst_stretch .nil pass0 (pa_cons (pv 8) pa_nil)) pa_nil)) (by rfl))
    (pss_cons (ps_if (PW.pt (pw_or (pt_val (pe_call G__law_more (hr.mono (by decide)) (by rfl) T.g__law_more T.F__law_more.kp T.b__law_more .nil pass0 (pa_cons (pe_ix ix_tup (pv 10) pe_int (fun _ _ => rfl)) (pa_cons (pv 3) pa_nil)))) (pw_or1 (pt_val (pe_call G__law_more (hr.mono (by decide)) (by rfl) T.g__law_more T.F__law_more.kp T.b__law_more .nil pass0 (pa_cons (pe_ix ix_tup (pv 9) pe_int (fun _ _ => rfl)) (pa_cons (pe_ix ix_tup (pv 10) pe_int (fun _ _ => rfl)) pa_nil))))))) (pss_one (ps_ret pe_bl)) pss_nil)
    (pss_cons (ps_if (PW.pt (pw_or (pt_cmpR (op_neD hr.units) (pe_call G_worst_part (hr.mono (by decide)) (by rfl) T.g_worst_part T.F_worst_part.kp T.b_worst_part .nil pass0 (pa_cons (pe_call G_turned (hr.mono (by decide)) (by rfl) T.g_turned T.F_turned.kp T.b_turned .nil pass0 (pa_cons (pv 8) pa_nil)) pa_nil)) (pv 9) (nomark _)) (pw_or1 (pt_cmpR (op_neD hr.units) (pe_call G_worst_stretch (hr.mono (by decide)) (by rfl) T.g_worst_stretch T.F_worst_stretch.kp T.b_worst_stretch .nil pass0 (pa_cons (pe_call G_turned (hr.mono (by decide)) (by rfl) T.g_turned T.F_turned.kp T.b_turned .nil pass0 (pa_cons (pv 8) pa_nil)) pa_nil)) (pv 10) (nomark _))))) (pss_one (ps_ret pe_bl)) pss_nil)
    (pss_cons (ps_if (pt_cmpR (op_neD hr.units) (pe_ix ix_tup (pe_call G_worst_stretch (hr.mono (by decide)) (by rfl) T.g_worst_stretch T.F_worst_stretch.kp T.b_worst_stretch .nil pass0 (pa_cons (pe_call G_round_late (hr.mono (by decide)) (by rfl) T.g_round_late T.F_round_late.kp T.b_round_late .nil pass0 (pa_cons (pv 8) (pa_cons (pe_call G__law_take (hr.mono (by decide)) (by rfl) T.g__law_take T.F__law_take.kp T.b__law_take .nil pass0 (pa_cons (pv 0) (pa_cons pe_int pa_nil))) pa_nil))) pa_nil)) pe_int (fun _ _ => rfl)) (pe_ix ix_tup (pv 10) pe_int (fun _ _ => rfl)) (nomark _)) (pss_one (ps_ret pe_bl)) pss_nil)
    (pss_one (ps_if (pt_cmpR (op_neD hr.units) (pe_call G_worst_part (hr.mono (by decide)) (by rfl) T.g_worst_part T.F_worst_part.kp T.b_worst_part .nil pass0 (pa_cons (pe_call G_again (hr.mono (by decide)) (by rfl) T.g_again T.F_again.kp T.b_again .nil pass0 (pa_cons (pv 8) (pa_cons (pe_op op_add pe_int (pe_call G__law_take (hr.mono (by decide)) (by rfl) T.g__law_take T.F__law_take.kp T.b__law_take .nil pass0 (pa_cons (pv 0) (pa_cons pe_int pa_nil)))) pa_nil))) pa_nil)) (pv 9) (nomark _)) (pss_one (ps_ret pe_bl)) pss_nil))))))))
    (pss_one (ps_ret pe_bl)))))))))), ?_⟩
    have hsl : sizeLine = 16777216 := by decide
    have bdk : -(2 ^ 64) < (k : Int) ∧ (k : Int) < 2 ^ 64 := by omega
    have K0 : 0 ≤ (k : Int) * ((m : Int) - k) := Int.mul_nonneg (by omega) (by omega)
    refine ⟨.int (k : Nat), rfl, .int (m : Nat), rfl, .int (k : Nat), rfl, _, _, rfl, rfl, _, _, rfl, rfl, .inl bdk, .int (m : Nat), rfl, (k : Int) * ((m : Int) - k), (m : Nat), rfl, K0, by omega, s_len (by omega), fun H1 du s1 nd hdu => ?_⟩
    refine ⟨(show 1 ≤ sizeLine by decide), fun t1 n1 => ⟨.int (k : Nat), rfl, rep_go (k := k) rfl upd_same (by omega) fun G1 p1 g1 hp1 => ?_⟩⟩
    refine ⟨(show 1 ≤ sizeLine by decide), fun t2 n2 => ⟨.int (m : Nat), rfl, .int (k : Nat), rfl, _, _, rfl, rfl, rep_go (k := m - k) (by omega) upd_same (by omega) fun G2 p2 g2 hp2 => ?_⟩⟩
    refine cat_go (rs := List.replicate k 1) (ss := List.replicate (m - k) 0) (g2 _ _ ((same_upd n2) _ _ hp1)) hp2 (by rw [List.length_replicate, List.length_replicate]; omega) fun G3 o g3 ho => ?_
    have s3 : Same H1 G3 := ((same_upd n1).trans g1).trans (((same_upd n2).trans g2).trans g3)
    refine ⟨.ref o, rfl, o, _, rfl, SqT.mk ho, fun la nla => ?_⟩
    have er : ((List.replicate k (1 : Int) ++ List.replicate (m - k) 0).map V.int).reverse = (List.replicate (m - k) (0 : Int) ++ List.replicate k 1).map V.int := by
      rw [← List.map_reverse, List.reverse_append, List.reverse_replicate, List.reverse_replicate]
    rw [er]
    have S4 : Same H (upd G3 la (.tup ((List.replicate (m - k) (0 : Int) ++ List.replicate k 1).map V.int))) := s1.trans (s3.trans (same_upd nla))
    have hla : (upd G3 la (.tup ((List.replicate (m - k) (0 : Int) ++ List.replicate k 1).map V.int))) la = some (.tup ((List.replicate (m - k) (0 : Int) ++ List.replicate k 1).map V.int)) := upd_same
    have hfi := (same_upd nla (o := .tup ((List.replicate (m - k) (0 : Int) ++ List.replicate k 1).map V.int))) _ _ ho
    have hdu4 := (same_upd nla (o := .tup ((List.replicate (m - k) (0 : Int) ++ List.replicate k 1).map V.int))) _ _ (s3 _ _ hdu)
    generalize upd G3 la (.tup ((List.replicate (m - k) (0 : Int) ++ List.replicate k 1).map V.int)) = G4 at S4 hla hfi hdu4 ⊢
    clear s3 g1 g2 g3 n1 n2 nla hp1 hp2 ho s1 nd hdu
    have lf : (List.replicate k (1 : Int) ++ List.replicate (m - k) 0).length = m := by
      rw [List.length_append, List.length_replicate, List.length_replicate]
      omega
    have lz : (List.replicate (m - k) (0 : Int) ++ List.replicate k 1).length = m := by
      rw [List.length_append, List.length_replicate, List.length_replicate]
      omega
    -- the ones ahead
    refine ⟨.int (k : Nat), rfl, .int (k : Nat), rfl, .int (m : Nat), rfl, _, _, rfl, rfl, .inr ⟨_, rfl, _, _, rfl, rfl, .inl bdk, ?_⟩⟩
    try dsimp only
    rw [pl1]
    refine ⟨.ref o, rfl, o, _, rfl, hfi, by omega, by omega, fun F1 t p' w j f1 nt ht hp' bst => ?_⟩
    rw [lf] at bst hp'
    obtain ⟨rfl, rfl⟩ := bst.uniq (near_best hk)
    refine ⟨.ref du, rfl, .int (nPl m k : Nat), rfl, (show 2 ≤ sizeLine by decide), fun tu ntu => ?_⟩
    have f2 := same_upd ntu (o := .tup [.ref du, .int (nPl m k : Nat)])
    refine eqvP (f2 _ _ ht) upd_same (f2 _ _ hp') (f2 _ _ (f1 _ _ hdu4)) ⟨_, rfl, iteF ?_⟩
    have f12 := f1.trans f2
    generalize upd F1 tu (.tup [.ref du, .int (nPl m k : Nat)]) = F2 at f12 ⊢
    refine ⟨.ref o, rfl, o, _, rfl, f12 _ _ hfi, by omega, by omega, fun F3 t' p'' L G iL iG f3 nt' ht' hp'' en => ?_⟩
    rw [lf] at en hp''
    obtain ⟨rfl, rfl⟩ := en.uniqI (near_ends hk)
    obtain ⟨rfl, rfl⟩ := en.uniq (near_ends hk)
    rw [Int.sub_zero] at hp''
    refine ⟨.ref du, rfl, .int (nPl m k : Nat), rfl, (show 3 ≤ sizeLine by decide), fun tv ntv => ?_⟩
    have f4 := same_upd ntv (o := .tup [.ref du, .int 0, .int (nPl m k : Nat)])
    rw [Nat.zero_min, Nat.zero_max] at ht'
    refine eqvP3 (f4 _ _ ht') upd_same (f4 _ _ hp'') (f4 _ _ (f3 _ _ (f12 _ _ hdu4))) ⟨_, rfl, iteF ?_⟩
    have f14 := f12.trans (f3.trans f4)
    generalize upd F3 tv (.tup [.ref du, .int 0, .int (nPl m k : Nat)]) = F4 at f14 ⊢
    clear f1 f2 f3 f4 f12 nt ht hp' bst ntu nt' ht' hp'' en ntv
    have S5 := S4.trans f14
    have hla5 := f14 _ _ hla
    have hdu5 := f14 _ _ hdu4
    clear f14 S4 hla hfi hdu4
    -- the ones behind
    refine ⟨.int (m : Nat), rfl, .int (k : Nat), rfl, _, _, rfl, rfl, .int (k : Nat), rfl, _, _, rfl, rfl, .inr ⟨_, rfl, _, _, rfl, rfl, .inl ⟨by omega, by omega⟩, ?_⟩⟩
    try dsimp only
    rw [pl2 hk]
    refine ⟨.ref la, rfl, la, _, rfl, hla5, by omega, by omega, fun F1 t p' w j f1 nt ht hp' bst => ?_⟩
    rw [lz] at bst hp'
    obtain ⟨rfl, rfl⟩ := bst.uniq (far_best hk)
    refine ⟨.ref du, rfl, .int (nPl m (m - k) : Nat), rfl, (show 2 ≤ sizeLine by decide), fun tu ntu => ?_⟩
    have f2 := same_upd ntu (o := .tup [.ref du, .int (nPl m (m - k) : Nat)])
    refine eqvP (f2 _ _ ht) upd_same (f2 _ _ hp') (f2 _ _ (f1 _ _ hdu5)) ⟨_, rfl, iteF ?_⟩
    have f12 := f1.trans f2
    generalize upd F1 tu (.tup [.ref du, .int (nPl m (m - k) : Nat)]) = F2 at f12 ⊢
    refine ⟨.ref la, rfl, la, _, rfl, f12 _ _ hla5, by omega, by omega, fun F3 t' p'' L G iL iG f3 nt' ht' hp'' en => ?_⟩
    rw [lz] at en hp''
    obtain ⟨rfl, rfl⟩ := en.uniqI (far_ends hk)
    obtain ⟨rfl, rfl⟩ := en.uniq (far_ends hk)
    rw [show (0 : Int) - -((k : Int) * ((m : Int) - k)) = (k : Int) * ((m : Int) - k) by omega] at hp''
    refine ⟨.ref du, rfl, .int (nPl m (m - k) : Nat), rfl, (show 3 ≤ sizeLine by decide), fun tv ntv => ?_⟩
    have f4 := same_upd ntv (o := .tup [.ref du, .int 0, .int (nPl m (m - k) : Nat)])
    rw [Nat.min_zero, Nat.max_zero] at ht'
    refine eqvP3 (f4 _ _ ht') upd_same (f4 _ _ hp'') (f4 _ _ (f3 _ _ (f12 _ _ hdu5))) ⟨_, rfl, iteF ?_⟩
    have f14 := f12.trans (f3.trans f4)
    generalize upd F3 tv (.tup [.ref du, .int 0, .int (nPl m (m - k) : Nat)]) = X at f14 ⊢
    have S6 := S5.trans f14
    have hdu6 := f14 _ _ hdu5
    have B6 := hB.same S6
    have ta := (Sam.of S6).tabG tg1
    have tb := (Sam.of S6).tabG tg2
    clear f1 f2 f3 f4 f12 nt ht hp' bst ntu nt' ht' hp'' en ntv f14 S5 hla5 hdu5 tg1 tg2
    -- rows of scattered ones
    refine ⟨6, rfl, by decide, by decide, for_range (n := 6) (fun i σ G => ∃ y7 y8 y9 y10, σ = [some (.ref p), some (.int (m : Nat)), some (.int (k : Nat)), some (.ref du), some (.ref o), some (.ref la), some (.int (nPl m (m - k) : Nat)), y7, y8, y9, y10] ∧ Bus p X G ∧ Bx G p (n + 6000 * i)) ⟨_, _, _, _, rfl, Bus.refl p X, B6⟩ ?_ ?_⟩
    rotate_left
    · rintro σ G ⟨y7, y8, y9, y10, rfl, bG, BG⟩
      exact q _ ((Bus.same S6).trans bG) (BG.mono (by omega))
    rintro i σ G hi ⟨y7, y8, y9, y10, rfl, bG, BG⟩
    refine ⟨.ref p, rfl, .int (m : Nat), rfl, .int (k : Nat), rfl, p, m, k, _, rfl, BG, by omega, hk, by omega, fun F0 a rs c0 B0 ha lr br sr => ?_⟩
    have hr0 : 0 < rs.length := by omega
    refine ⟨.ref a, rfl, a, rs, rfl, ha, by omega, by omega, fun F1 tp pp w j f1 _ htp hpp bst => ?_⟩
    refine ⟨.ref a, rfl, a, rs, rfl, f1 _ _ ha, by omega, by omega, fun F2 ts ps L G' iL iG f2 _ hts hps en => ⟨_, _, rfl, ?_⟩⟩
    have htp2 := f2 _ _ htp
    have hpp2 := f2 _ _ hpp
    have f12 := f1.trans f2
    have ha2 := f12 _ _ ha
    have b2 : Bus p X F2 := bG.trans ((Bus.of c0).trans (Bus.same f12))
    have B2 := B0.same f12
    have du2 := b2.tup B6 hdu6
    rw [lr] at hpp2 hps
    clear c0 B0 bG BG f1 f2 f12 htp hpp ha
    have rch := ends_reach br en
    rw [sr, lr] at rch
    refine ⟨.ref ts, rfl, ts, _, 0, _, rfl, rfl, SqT.mk hts, atI_nat (j := 0) rfl, .ref du, rfl, ps, du, _, _, _, _, rfl, hps, du2, frB_bd (by omega) (by omega), frB_bd (by omega) (by omega), fr_le (by omega) rch, _, rfl, iteF ?_⟩
    refine ⟨.ref tp, rfl, tp, _, 0, _, rfl, rfl, SqT.mk htp2, atI_nat (j := 0) rfl, .ref ts, rfl, ts, _, 0, _, rfl, rfl, SqT.mk hts, atI_nat (j := 0) rfl, pp, ps, _, _, _, _, rfl, hpp2, hps, frB_bd (by omega) (by omega), frB_bd (by omega) (by omega), fr_le (by omega) (part_reach bst en (Df_zero rs)), _, rfl, iteF ?_⟩
    -- turned
    have t2 := b2.tabG B6 ta
    have t2' := b2.tabG B6 tb
    have lt : (trn rs).length = m := by rw [trn_len, lr]
    refine ⟨.ref a, rfl, a, rs, rfl, ha2, by omega, t2, fun F3 a3 f3 _ ha3 => ?_⟩
    refine ⟨a3, trn rs, rfl, ha3, by omega, by omega, fun F4 t4 p4 w4 j4 f4 _ ht4 hp4 bst4 => ?_⟩
    obtain ⟨rfl, rfl⟩ := bst4.uniq (trn_best bst)
    rw [lt] at hp4
    have s24 := f3.trans (Sam.of f4)
    refine ⟨.ref tp, rfl, eqvP ht4 (s24.tup htp2) hp4 (s24.tup hpp2) ⟨_, rfl, iteF ?_⟩⟩
    refine ⟨.ref a, rfl, a, rs, rfl, s24.tup ha2, by omega, s24.tabG t2, fun F5 a5 f5 _ ha5 => ?_⟩
    refine ⟨a5, trn rs, rfl, ha5, by omega, by omega, fun F6 t6 p6 L6 G6 iL6 iG6 f6 _ ht6 hp6 en6 => ?_⟩
    obtain ⟨rfl, rfl⟩ := en6.uniqI (trn_ends en)
    obtain ⟨rfl, rfl⟩ := en6.uniq (trn_ends en)
    rw [lt, show -L - -G' = G' - L by omega] at hp6
    rw [Nat.min_comm, Nat.max_comm] at ht6
    have s26 := s24.trans (f5.trans (Sam.of f6))
    refine ⟨.ref ts, rfl, eqvP3 ht6 (s26.tup hts) hp6 (s26.tup hps) ⟨_, rfl, iteF ?_⟩⟩
    -- told late
    have B6' := B2.sam s26
    refine ⟨.ref a, rfl, .ref p, rfl, p, 300, _, rfl, B6', by decide, by decide, by omega, fun F7 r7 c7 B7 l7 u7 => ?_⟩
    obtain ⟨by_, rfl⟩ := Int.eq_ofNat_of_zero_le l7
    have b7 : Bus p F2 F7 := (Bus.sam s26).trans (.of c7)
    refine ⟨a, rs, _, rfl, b7.tup B2 ha2, hr0, by omega, b7.tabG B2 t2', fun F8 a8 f8 _ ha8 => ?_⟩
    have l8 : (late rs (by_ : Int)).length = m := by rw [late_len, lr]
    refine ⟨a8, late rs (by_ : Int), rfl, ha8, by omega, by omega, fun F9 t9 p9 L9 G9 iL9 iG9 f9 _ ht9 hp9 en9 => ?_⟩
    rw [late_len] at en9
    have e9 := late_ends hr0 en en9
    rw [l8, e9] at hp9
    have b9 : Bus p F2 F9 := b7.trans (.sam (f8.trans (Sam.of f9)))
    have B9 := B7.sam (f8.trans (Sam.of f9))
    refine ⟨t9, _, 0, _, rfl, rfl, SqT.mk ht9, atI_nat (j := 0) rfl, .ref ts, rfl, ts, _, 0, _, rfl, rfl, SqT.mk (b9.tup B2 hts), atI_nat (j := 0) rfl, eqv2 hp9 (b9.tup B2 hps) ⟨_, rfl, iteF ?_⟩⟩
    -- told again
    refine ⟨.ref a, rfl, .ref p, rfl, p, 3, _, rfl, B9, by decide, by decide, by omega, fun E1 r1 c1 B1 l1 u1 => ⟨_, _, rfl, rfl, ?_⟩⟩
    obtain ⟨q', hq'⟩ : ∃ q' : Nat, 1 + r1 = (q' : Nat) := Int.eq_ofNat_of_zero_le (by omega)
    have q1 : 1 ≤ q' := by omega
    have q3 : q' ≤ 3 := by omega
    try dsimp only
    rw [hq']
    have b1 : Bus p F2 E1 := b9.trans (.of c1)
    have ml : rs.length * q' ≤ 6000 := Nat.mul_le_mul (show rs.length ≤ 2000 by omega) q3
    refine ⟨a, rs, q', rfl, b1.tup B2 ha2, hr0, q1, by omega, fun E2 a2 e2 hA => ?_⟩
    have la2 := agn_len rs q'
    have lq : 1 ≤ q' * rs.length := Nat.mul_pos q1 hr0
    refine ⟨a2, (List.replicate q' rs).flatten, rfl, hA, by omega, by rw [la2, Nat.mul_comm]; omega, fun E3 t3 p3 w3 j3 e3 _ ht3 hp3 bst3 => ?_⟩
    obtain ⟨rfl, rfl⟩ := bst3.uniq (agn_best q1 hr0 bst)
    have fs := fun v : Int => fr_scale v (m := q') q1 (show (0 : Int) < (rs.length : Int) by omega)
    rw [la2, Int.natCast_mul, (fs _).1, (fs _).2, lr] at hp3
    have b3 : Bus p F2 E3 := b1.trans (Bus.same (e2.trans e3))
    refine ⟨.ref tp, rfl, eqvP ht3 (b3.tup B2 htp2) hp3 (b3.tup B2 hpp2) ⟨_, rfl, iteF ?_⟩⟩
    exact ⟨_, _, _, _, rfl, b2.trans b3, ((B1.same e2).same e3).mono (by omega)⟩
def sp_law {K : PySem.W.Frag} {mg : Str → Option Value} (T : Defs K mg) : Sp := fun vs H Q _ => ∃ (a : Addr) (ns : List Int), vs = [.ref a] ∧ SqL K H a (ns.map V.int) ∧ ns.length ≤ 63 ∧ (GxR.TabG H T.P_turned ∧ GxR.TabG H T.P_round_late ∧ True) ∧ ∀ H', Q (.bl true) H'
theorem four {P : V → Prop} {x y z u w : V} {i : Nat} (h : [x, y, z, u][i]? = some w) (hx : P x) (hy : P y) (hz : P z) (hu : P u) : P w := by
  match i, h with
  | 0, h => cases h; exact hx
  | 1, h => cases h; exact hy
  | 2, h => cases h; exact hz
  | 3, h => cases h; exact hu
  | n + 4, h => cases h
theorem ok_law (T : Defs K mg) (TT : Tabs T base) : FnOk P w K mg base CX0 5 T.f_law T.fd_law ["_law_script"] (sp_law T) := by
  have G__law_folded : FnOk P w K mg base CX0 1 T.f__law_folded T.fd__law_folded ["_law_script", "_law_many"] (sp__law_folded K) := ok__law_folded T TT
  have G__law_box : FnOk P w K mg base CX0 1 T.f__law_box T.fd__law_box ["_law_script", "_law_k"] (sp__law_box K) := ok__law_box T TT
  have G__law_take : FnOk P w K mg base CX0 1 T.f__law_take T.fd__law_take ["_law_box_here", "_law_many"] (sp__law_take K) := ok__law_take T TT
  have G__law_right : FnOk P w K mg base CX0 4 T.f__law_right T.fd__law_right ["_law_box_here", "_law_many", "_law_there"] (sp__law_right T) := ok__law_right T TT
  refine T.F_law.ok sc_law (fun vs H Q E h => ?_) (fun cdv A outer s H vs Q E hr h => ?_)
  · obtain ⟨a, ns, rfl, hS, hlen, ⟨tg, tg', _⟩, q⟩ := h
    rfl
  · obtain ⟨a, ns, rfl, hS, hlen, ⟨tg, tg', _⟩, q⟩ := h
    refine ⟨_, PSs.nox (pss_cons (ps_set (i := 1) sc_law.nd rfl (.inl rfl) (pe_call G__law_folded (hr.mono (by decide)) (by rfl) T.g__law_folded T.F__law_folded.kp T.b__law_folded .nil pass0 (pa_cons (pv 0) (pa_cons pe_int pa_nil))))
    (pss_cons (ps_for PassesOwn.never rfl (pi_range1 (by rfl) T.m_range (pa_cons (pe_callB (call_max2 rfl) (by rfl) T.m_max bt_max (pa_cons pe_int (pa_cons (pe_callB call_len_seq (by rfl) T.m_len bt_len (pa_cons (pv 1) pa_nil)) pa_nil))) pa_nil)) (pg_name (i := 2) sc_law.nd rfl (.inl rfl)) (pss_cons (ps_set (i := 3) sc_law.nd rfl (.inl rfl) (pe_call G__law_box (hr.mono (by decide)) (by rfl) T.g__law_box T.F__law_box.kp T.b__law_box .nil pass0 (pa_cons (pv 1) (pa_cons (pv 2) pa_nil))))
    (pss_cons (ps_set (i := 4) sc_law.nd rfl (.inl rfl) (pe_op op_add pe_int (pe_call G__law_take (hr.mono (by decide)) (by rfl) T.g__law_take T.F__law_take.kp T.b__law_take .nil pass0 (pa_cons (pv 3) (pa_cons (pe_ix ix_list (pe_lst (pa_cons pe_int (pa_cons pe_int (pa_cons pe_int (pa_cons pe_int (pa_cons pe_int (pa_cons pe_int (pa_cons pe_int (pa_cons pe_int pa_nil))))))))) (pe_call G__law_take (hr.mono (by decide)) (by rfl) T.g__law_take T.F__law_take.kp T.b__law_take .nil pass0 (pa_cons (pv 3) (pa_cons pe_int pa_nil))) (fun _ _ => rfl)) pa_nil)))))
    (pss_one (ps_for PassesOwn.never rfl (pi_list (pe_lst (pa_cons pe_int (pa_cons (pv 4) (pa_cons (pe_call G__law_take (hr.mono (by decide)) (by rfl) T.g__law_take T.F__law_take.kp T.b__law_take .nil pass0 (pa_cons (pv 3) (pa_cons (pe_op op_add (pv 4) pe_int) pa_nil))) (pa_cons (pe_callB (call_min2 rfl) (by rfl) T.m_min bt_min (pa_cons (pv 4) (pa_cons (pe_op op_add pe_int (pe_call G__law_take (hr.mono (by decide)) (by rfl) T.g__law_take T.F__law_take.kp T.b__law_take .nil pass0 (pa_cons (pv 3) (pa_cons pe_int pa_nil)))) pa_nil))) pa_nil)))))) (pg_name (i := 5) sc_law.nd rfl (.inl rfl)) (pss_one (ps_if (pt_not (pt_val (pe_call G__law_right (hr.mono (by decide)) (by rfl) T.g__law_right T.F__law_right.kp T.b__law_right .nil pass0 (pa_cons (pv 3) (pa_cons (pv 4) (pa_cons (pv 5) pa_nil)))))) (pss_one (ps_ret pe_bl)) pss_nil)))))))
    (pss_one (ps_ret pe_bl)))), ?_⟩
    have hsl : sizeLine = 16777216 := by decide
    refine ⟨.ref a, rfl, a, ns, 4, rfl, hS, hlen, by decide, by decide, fun H1 c cs s1 nc hc lc => ?_⟩
    have tg1 := (Sam.of s1).tabG tg
    have tg1' := (Sam.of s1).tabG tg'
    have hn : (if (((cs.map V.int).length : Nat) : Int) > 2 then (((cs.map V.int).length : Nat) : Int) else 2) ≤ 4 ∧ 0 ≤ (if (((cs.map V.int).length : Nat) : Int) > 2 then (((cs.map V.int).length : Nat) : Int) else 2) := by
      rw [List.length_map]
      split <;> omega
    refine ⟨.ref c, rfl, c, _, rfl, .inl (SqL.mk hc), _, _, rfl, _, rfl, by omega, by omega, for_range (fun i σ H2 => ∃ y2 y3 y4 y5, σ = [some (.ref a), some (.ref c), y2, y3, y4, y5] ∧ Sam H1 H2) ⟨none, none, none, none, rfl, Sam.refl H1⟩ ?_ ?_⟩
    rotate_left
    · rintro σ H2 ⟨y2, y3, y4, y5, rfl, s2⟩
      exact q _
    rintro i σ H2 hi ⟨y2, y3, y4, y5, rfl, s2⟩
    have hi2 : i < 1000 := by omega
    refine ⟨.ref c, rfl, .int (0 + (i : Int)), rfl, c, cs, i, by rw [Int.zero_add]; rfl, SqL.mk (s2.lst hc), hi2, fun H3 b s3 nb hB => ?_⟩
    have nb1 : H1 b = none := s2.free nb
    have s13 := s2.trans (Sam.of s3)
    have tg3 := s13.tabG tg1
    have tg3' := s13.tabG tg1'
    refine ⟨.ref b, rfl, (show 8 ≤ sizeLine by decide), fun l nl => ?_⟩
    refine ⟨.ref b, rfl, b, 8, _, rfl, hB.new nl, by decide, by decide, by omega, fun G1 r1 c1 B1 l1 u1 => ?_⟩
    obtain ⟨M, ev, hM⟩ := at_menu (Pr := fun v => 1 ≤ v ∧ v ≤ 1024) (xs := [40, 40, 40, 200, 40, 40, 40, 1024]) l1 u1 (fun x hx => by
      simp only [List.mem_cons, List.not_mem_nil, or_false] at hx
      omega)
    refine ⟨l, _, _, _, rfl, rfl, SqL.mk (c1 _ _ (ne_new hB nl) upd_same), ev, b, M, _, rfl, B1, by omega, by omega, by omega, fun G2 r2 c2 B2 l2 u2 => ⟨_, _, rfl, rfl, ?_⟩⟩
    obtain ⟨m, hm⟩ : ∃ m : Nat, 1 + r2 = (m : Nat) := Int.eq_ofNat_of_zero_le (by omega)
    have em : V.int (m : Int) = V.int (1 + r2) := by rw [hm]
    have b2 : But b H3 G2 := ((But.refl b H3).new nl).trans (c1.trans c2)
    refine ⟨.int (m : Nat), by rw [em]; rfl, .ref b, rfl, .int (m : Nat), by rw [em]; rfl, _, _, rfl, rfl, b, _, _, rfl, B2, by omega, by omega, by omega, fun G3 r3 c3 B3 l3 u3 => ?_⟩
    refine ⟨.int (m : Nat), by rw [em]; rfl, .ref b, rfl, b, 3, _, rfl, B3, by decide, by decide, by omega, fun G4 r4 c4 B4 l4 u4 => ⟨_, _, rfl, rfl, _, _, rfl, (show 4 ≤ sizeLine by decide), fun tl ntl => ?_⟩⟩
    obtain ⟨k3, rfl⟩ := Int.eq_ofNat_of_zero_le l3
    obtain ⟨k4, hk4, k4m⟩ : ∃ k4 : Nat, (if (1 : Int) + r4 < (m : Int) then (1 : Int) + r4 else (m : Int)) = (k4 : Nat) ∧ k4 ≤ m := by
      split
      · exact ⟨(1 + r4).toNat, by omega, by omega⟩
      · exact ⟨m, rfl, Nat.le_refl m⟩
    rw [hk4]
    have htl : (upd G4 tl (.lst [.int 0, .int (m : Nat), .int (k3 : Nat), .int (k4 : Nat)])) tl = some (.lst [.int 0, .int (m : Nat), .int (k3 : Nat), .int (k4 : Nat)]) := upd_same
    have bX : Bus b H3 (upd G4 tl (.lst [.int 0, .int (m : Nat), .int (k3 : Nat), .int (k4 : Nat)])) := Bus.of ((b2.trans (c3.trans c4)).new ntl)
    have BX := B4.new (o := .lst [.int 0, .int (m : Nat), .int (k3 : Nat), .int (k4 : Nat)]) ntl
    have tlb : tl ≠ b := ne_new B4 ntl
    generalize upd G4 tl (.lst [.int 0, .int (m : Nat), .int (k3 : Nat), .int (k4 : Nat)]) = X at htl bX BX ⊢
    have tX := bX.tabG hB tg3
    have tX' := bX.tabG hB tg3'
    refine ⟨tl, rfl, ⟨_, SqL.mk htl⟩, for_list (xs := [.int 0, .int (m : Nat), .int (k3 : Nat), .int (k4 : Nat)]) (fun j σ G => ∃ y5, σ = [some (.ref a), some (.ref c), some (.int (0 + (i : Int))), some (.ref b), some (.int (m : Nat)), y5] ∧ Bus b X G ∧ Bx G b (10 + 50000 * j)) ⟨_, by rw [em]; rfl, Bus.refl b X, BX.mono (by omega)⟩ ?_ ?_ ?_⟩
    · rintro j σ G hj ⟨y5, rfl, bG, BG⟩
      exact SqL.mk (bG.lst tlb htl)
    rotate_left
    · rintro σ G ⟨y5, rfl, bG, BG⟩
      exact ⟨_, _, _, _, rfl, bus_same nb1 s13 (bX.trans bG)⟩
    rintro j x σ G hx ⟨y5, rfl, bG, BG⟩
    have hj : j < 4 := by
      have := (List.getElem?_eq_some_iff.mp hx).1
      simpa using this
    obtain ⟨k, rfl, hk⟩ : ∃ k : Nat, x = .int (k : Nat) ∧ k ≤ m := four (P := fun x => ∃ k : Nat, x = .int (k : Nat) ∧ k ≤ m) hx ⟨0, rfl, Nat.zero_le m⟩ ⟨m, rfl, Nat.le_refl m⟩ ⟨k3, rfl, by omega⟩ ⟨k4, rfl, k4m⟩
    refine ⟨.ref b, rfl, .int (m : Nat), rfl, .int (k : Nat), rfl, b, m, k, _, rfl, BG, by omega, by omega, by omega, hk, bG.tabG BX tX, bG.tabG BX tX', fun G' b' B' => ⟨_, rfl, iteF ?_⟩⟩
    exact ⟨_, rfl, bG.trans b', B'.mono (by omega)⟩
end
def d_common_divisor : He.DefD := ⟨("common_divisor", none), "common_divisor", "common_divisor", defArgs s_common_divisor, defBody s_common_divisor, defScope s_common_divisor, [], []⟩
def d_fraction : He.DefD := ⟨("fraction", none), "fraction", "fraction", defArgs s_fraction, defBody s_fraction, defScope s_fraction, [], []⟩
def d_ones : He.DefD := ⟨("ones", none), "ones", "ones", defArgs s_ones, defBody s_ones, defScope s_ones, [], []⟩
def d_turned : He.DefD := ⟨("turned", none), "turned", "turned", defArgs s_turned, defBody s_turned, defScope s_turned, [], []⟩
def d_round_late : He.DefD := ⟨("round_late", none), "round_late", "round_late", defArgs s_round_late, defBody s_round_late, defScope s_round_late, [], []⟩
def d_again : He.DefD := ⟨("again", none), "again", "again", defArgs s_again, defBody s_again, defScope s_again, [], []⟩
def d_offs_by : He.DefD := ⟨("offs_by", none), "offs_by", "offs_by", defArgs s_offs_by, defBody s_offs_by, defScope s_offs_by, [], []⟩
def d_offs_of : He.DefD := ⟨("offs_of", none), "offs_of", "offs_of", defArgs s_offs_of, defBody s_offs_of, defScope s_offs_of, [], []⟩
def d_worst_part : He.DefD := ⟨("worst_part", none), "worst_part", "worst_part", defArgs s_worst_part, defBody s_worst_part, defScope s_worst_part, [], []⟩
def d_worst_stretch : He.DefD := ⟨("worst_stretch", none), "worst_stretch", "worst_stretch", defArgs s_worst_stretch, defBody s_worst_stretch, defScope s_worst_stretch, [], []⟩
def d__law_box : He.DefD := ⟨("_law_box", none), "_law_box", "_law_box", defArgs s__law_box, defBody s__law_box, defScope s__law_box, [], []⟩
def d__law_take : He.DefD := ⟨("_law_take", none), "_law_take", "_law_take", defArgs s__law_take, defBody s__law_take, defScope s__law_take, [], []⟩
def d__law_folded : He.DefD := ⟨("_law_folded", none), "_law_folded", "_law_folded", defArgs s__law_folded, defBody s__law_folded, defScope s__law_folded, [], []⟩
def d__law_lowest : He.DefD := ⟨("_law_lowest", none), "_law_lowest", "_law_lowest", defArgs s__law_lowest, defBody s__law_lowest, defScope s__law_lowest, [], []⟩
def d__law_scattered : He.DefD := ⟨("_law_scattered", none), "_law_scattered", "_law_scattered", defArgs s__law_scattered, defBody s__law_scattered, defScope s__law_scattered, [], []⟩
def d__law_more : He.DefD := ⟨("_law_more", none), "_law_more", "_law_more", defArgs s__law_more, defBody s__law_more, defScope s__law_more, [], []⟩
def d__law_right : He.DefD := ⟨("_law_right", none), "_law_right", "_law_right", defArgs s__law_right, defBody s__law_right, defScope s__law_right, [], []⟩
def d_law : He.DefD := ⟨("law", none), "law", "law", defArgs s_law, defBody s_law, defScope s_law, [], []⟩
def hfn : List He.DefD := [d_common_divisor, d_fraction, d_ones, d_turned, d_round_late, d_again, d_offs_by, d_offs_of, d_worst_part, d_worst_stretch, d__law_box, d__law_take, d__law_folded, d__law_lowest, d__law_scattered, d__law_more, d__law_right, d_law]
def hfa : List He.Fa := [.glo "common_divisor", .glo "fraction", .glo "ones", .glo "turned", .glo "round_late", .glo "again", .glo "offs_by", .glo "offs_of", .glo "worst_part", .glo "worst_stretch", .glo "_law_box", .glo "_law_take", .glo "_law_folded", .glo "_law_lowest", .glo "_law_scattered", .glo "_law_more", .glo "_law_right", .glo "law", .free "abs", .free "divmod", .free "enumerate", .free "int", .free "len", .free "list", .free "max", .free "min", .free "range", .free "sum", .free "tuple"]
def htf : List He.Defn := [("turned", none), ("round_late", none)]
def hex : PySem.W.Frag → Bool := fun _ => true
abbrev R : PySem.W.OpenRow := PySem.W.OpenLaw.row PySem.Challenge.rw_shareones_k31_never_beyond_and_reached
abbrev hk : PySem.W.Hook := He.hookX 4 hfa hfn [] htf hex
def ob (s : PySem.W.SharedT) : He.AlX := He.obsX 4 hfa hfn [] htf hex (HandSHeadRun.getT s)
theorem ob_eq (s : PySem.W.SharedT) : ob s = hk.obs s.abs := He.obsX_eq (HandSHeadRun.getT_eq s)
def loose : List Str := "common_divisor" :: "fraction" :: "ones" :: "turned" :: "round_late" :: "again" :: "offs_by" :: "offs_of" :: "worst_part" :: "worst_stretch" :: "_law_box" :: "_law_take" :: "_law_folded" :: "_law_lowest" :: "_law_scattered" :: "_law_more" :: "_law_right" :: []
theorem run (w : World) : HandSHeadRun.RunEq R (PySem.W.view R.prog [21]) hk ob 6000 loose w := by
  intro os
  kernel_rfl
theorem codeAt {K : PySem.W.Frag} {p : He.Defn} : CodeAt K (He.fAd K p) (He.cT K p).1 := fun oc od fd osl lk b e => (He.codeOf_eq lk e).symm
theorem facts {l : PySem.W.OpenLaw} {w : World} {K : PySem.W.Frag} {h : Heap} {mg : Str → Option Value} {f : Addr} (X : K.In h) (G : h.Ns mainGlobals mg) (hfa_ : mg ("law" : Str) = some (.ref f)) (cc : He.SaysX hfa hfn [] htf hex w h K) :
    LamX.LawAtS l w K CX0 5 63 "_law_script" mg f h := by
  have c : He.SaysD hfa hfn K := congrArg (fun z : He.AlT => z.1) cc.t
  obtain ⟨fd_common_divisor, F_common_divisor⟩ := c.def_ 0 (d := d_common_divisor) rfl
  obtain ⟨fd_fraction, F_fraction⟩ := c.def_ 1 (d := d_fraction) rfl
  obtain ⟨fd_ones, F_ones⟩ := c.def_ 2 (d := d_ones) rfl
  obtain ⟨fd_turned, F_turned⟩ := c.def_ 3 (d := d_turned) rfl
  obtain ⟨fd_round_late, F_round_late⟩ := c.def_ 4 (d := d_round_late) rfl
  obtain ⟨fd_again, F_again⟩ := c.def_ 5 (d := d_again) rfl
  obtain ⟨fd_offs_by, F_offs_by⟩ := c.def_ 6 (d := d_offs_by) rfl
  obtain ⟨fd_offs_of, F_offs_of⟩ := c.def_ 7 (d := d_offs_of) rfl
  obtain ⟨fd_worst_part, F_worst_part⟩ := c.def_ 8 (d := d_worst_part) rfl
  obtain ⟨fd_worst_stretch, F_worst_stretch⟩ := c.def_ 9 (d := d_worst_stretch) rfl
  obtain ⟨fd__law_box, F__law_box⟩ := c.def_ 10 (d := d__law_box) rfl
  obtain ⟨fd__law_take, F__law_take⟩ := c.def_ 11 (d := d__law_take) rfl
  obtain ⟨fd__law_folded, F__law_folded⟩ := c.def_ 12 (d := d__law_folded) rfl
  obtain ⟨fd__law_lowest, F__law_lowest⟩ := c.def_ 13 (d := d__law_lowest) rfl
  obtain ⟨fd__law_scattered, F__law_scattered⟩ := c.def_ 14 (d := d__law_scattered) rfl
  obtain ⟨fd__law_more, F__law_more⟩ := c.def_ 15 (d := d__law_more) rfl
  obtain ⟨fd__law_right, F__law_right⟩ := c.def_ 16 (d := d__law_right) rfl
  obtain ⟨fd_law, F_law⟩ := c.def_ 17 (d := d_law) rfl
  have e := hfa_.symm.trans (He.glo_ok X G (c.fact 17 (f := .glo "law") rfl))
  cases e
  have b := FunD.bindsA (ps := ["_law_script"]) F_law fun _ _ _ _ _ _ us hl => match us, hl with | [_], _ => rfl
  let T : Defs K mg := ⟨_, fd_common_divisor, F_common_divisor, (He.glo_ok X G (c.fact 0 (f := .glo "common_divisor") rfl)), (FunD.bindsN F_common_divisor fun _ _ _ _ _ _ us hl => match us, hl with | [_, _], _ => rfl), _, fd_fraction, F_fraction, (He.glo_ok X G (c.fact 1 (f := .glo "fraction") rfl)), (FunD.bindsN F_fraction fun _ _ _ _ _ _ us hl => match us, hl with | [_, _], _ => rfl), _, fd_ones, F_ones, (He.glo_ok X G (c.fact 2 (f := .glo "ones") rfl)), (FunD.bindsN F_ones fun _ _ _ _ _ _ us hl => match us, hl with | [_], _ => rfl), _, fd_turned, F_turned, (He.glo_ok X G (c.fact 3 (f := .glo "turned") rfl)), (FunD.bindsN F_turned fun _ _ _ _ _ _ us hl => match us, hl with | [_], _ => rfl), _, fd_round_late, F_round_late, (He.glo_ok X G (c.fact 4 (f := .glo "round_late") rfl)), (FunD.bindsN F_round_late fun _ _ _ _ _ _ us hl => match us, hl with | [_, _], _ => rfl), _, fd_again, F_again, (He.glo_ok X G (c.fact 5 (f := .glo "again") rfl)), (FunD.bindsN F_again fun _ _ _ _ _ _ us hl => match us, hl with | [_, _], _ => rfl), _, fd_offs_by, F_offs_by, (He.glo_ok X G (c.fact 6 (f := .glo "offs_by") rfl)), (FunD.bindsN F_offs_by fun _ _ _ _ _ _ us hl => match us, hl with | [_, _, _], _ => rfl), _, fd_offs_of, F_offs_of, (He.glo_ok X G (c.fact 7 (f := .glo "offs_of") rfl)), (FunD.bindsN F_offs_of fun _ _ _ _ _ _ us hl => match us, hl with | [_], _ => rfl), _, fd_worst_part, F_worst_part, (He.glo_ok X G (c.fact 8 (f := .glo "worst_part") rfl)), (FunD.bindsN F_worst_part fun _ _ _ _ _ _ us hl => match us, hl with | [_], _ => rfl), _, fd_worst_stretch, F_worst_stretch, (He.glo_ok X G (c.fact 9 (f := .glo "worst_stretch") rfl)), (FunD.bindsN F_worst_stretch fun _ _ _ _ _ _ us hl => match us, hl with | [_], _ => rfl), _, fd__law_box, F__law_box, (He.glo_ok X G (c.fact 10 (f := .glo "_law_box") rfl)), (FunD.bindsN F__law_box fun _ _ _ _ _ _ us hl => match us, hl with | [_, _], _ => rfl), _, fd__law_take, F__law_take, (He.glo_ok X G (c.fact 11 (f := .glo "_law_take") rfl)), (FunD.bindsN F__law_take fun _ _ _ _ _ _ us hl => match us, hl with | [_, _], _ => rfl), _, fd__law_folded, F__law_folded, (He.glo_ok X G (c.fact 12 (f := .glo "_law_folded") rfl)), (FunD.bindsN F__law_folded fun _ _ _ _ _ _ us hl => match us, hl with | [_, _], _ => rfl), _, fd__law_lowest, F__law_lowest, (He.glo_ok X G (c.fact 13 (f := .glo "_law_lowest") rfl)), (FunD.bindsN F__law_lowest fun _ _ _ _ _ _ us hl => match us, hl with | [_, _], _ => rfl), _, fd__law_scattered, F__law_scattered, (He.glo_ok X G (c.fact 14 (f := .glo "_law_scattered") rfl)), (FunD.bindsN F__law_scattered fun _ _ _ _ _ _ us hl => match us, hl with | [_, _, _], _ => rfl), _, fd__law_more, F__law_more, (He.glo_ok X G (c.fact 15 (f := .glo "_law_more") rfl)), (FunD.bindsN F__law_more fun _ _ _ _ _ _ us hl => match us, hl with | [_, _], _ => rfl), _, fd__law_right, F__law_right, (He.glo_ok X G (c.fact 16 (f := .glo "_law_right") rfl)), (FunD.bindsN F__law_right fun _ _ _ _ _ _ us hl => match us, hl with | [_, _, _], _ => rfl), _, fd_law, F_law, (He.glo_ok X G (c.fact 17 (f := .glo "law") rfl)), (FunD.bindsN F_law fun _ _ _ _ _ _ us hl => match us, hl with | [_], _ => rfl), (He.cT K ("turned", none)).1, (He.cT K ("turned", none)).2, codeAt, (He.cT K ("round_late", none)).1, (He.cT K ("round_late", none)).2, codeAt, (He.free_ok X G (c.fact 18 (f := .free "abs") rfl)), (He.free_ok X G (c.fact 19 (f := .free "divmod") rfl)), (He.free_ok X G (c.fact 20 (f := .free "enumerate") rfl)), (He.free_ok X G (c.fact 21 (f := .free "int") rfl)), (He.free_ok X G (c.fact 22 (f := .free "len") rfl)), (He.free_ok X G (c.fact 23 (f := .free "list") rfl)), (He.free_ok X G (c.fact 24 (f := .free "max") rfl)), (He.free_ok X G (c.fact 25 (f := .free "min") rfl)), (He.free_ok X G (c.fact 26 (f := .free "range") rfl)), (He.free_ok X G (c.fact 27 (f := .free "sum") rfl)), (He.free_ok X G (c.fact 28 (f := .free "tuple") rfl))⟩
  refine ⟨fd_law, htf.map (He.cT K), sp_law T, fun p hp => ?_, fun p hp => ?_, fun p hp => ?_, fun s v => b s [v] rfl, fun H a ns hl _ hH hS => ⟨a, ns, rfl, hS, hl, ?_, fun _ => rfl⟩, fun base _ _ TB => ok_law T ?_⟩
  · obtain ⟨q, hq, rfl⟩ := List.mem_map.mp hp
    exact cc.empty q hq
  · obtain ⟨q, hq, rfl⟩ := List.mem_map.mp hp
    exact cc.out q hq
  · obtain ⟨q, hq, rfl⟩ := List.mem_map.mp hp
    exact PySem.W.codeHd_of_K X (cc.hd q hq)
  · exact ⟨⟨#[], hH _ (List.mem_map.mpr ⟨_, List.mem_cons_self, rfl⟩), trip0⟩, ⟨#[], hH _ (List.mem_map.mpr ⟨_, (List.mem_cons_of_mem _ List.mem_cons_self), rfl⟩), trip0⟩, trivial⟩
  · exact ⟨⟨(TB _ (List.mem_map.mpr ⟨_, List.mem_cons_self, rfl⟩)).code, (TB _ (List.mem_map.mpr ⟨_, List.mem_cons_self, rfl⟩)).bm, (TB _ (List.mem_map.mpr ⟨_, List.mem_cons_self, rfl⟩)).gP⟩, ⟨(TB _ (List.mem_map.mpr ⟨_, (List.mem_cons_of_mem _ List.mem_cons_self), rfl⟩)).code, (TB _ (List.mem_map.mpr ⟨_, (List.mem_cons_of_mem _ List.mem_cons_self), rfl⟩)).bm, (TB _ (List.mem_map.mpr ⟨_, (List.mem_cons_of_mem _ List.mem_cons_self), rfl⟩)).gP⟩⟩
end Fq
open PySem PySem.W PySem.Calls PyProof.Rows
set_option maxHeartbeats 0 in
theorem PySem.Challenge.cw_shareones_k31_never_beyond_and_reached_holds : PySem.Challenge.rw_shareones_k31_never_beyond_and_reached.Holds := by
  w_on; o_law
  refine HandSHeadRun.head_any (r := OpenLaw.row PySem.Challenge.rw_shareones_k31_never_beyond_and_reached) (q := view (OpenLaw.row PySem.Challenge.rw_shareones_k31_never_beyond_and_reached).prog [21]) (H := Fq.hk) (ob := Fq.ob) (M := 6000) (loose := Fq.loose) (d := HandSHeadRun.topDef (OpenLaw.row PySem.Challenge.rw_shareones_k31_never_beyond_and_reached).prog 21) (kwd := []) Fq.ob_eq
    (by kernel_rfl) (fun s => by kernel_rfl) Fq.run (by kernel_rfl) (by kernel_rfl) (by kernel_rfl) (by rfl) (by first | assumption | decide +kernel) (by decide +kernel) ⟨rfl, rfl, rfl, rfl, rfl, by decide +kernel⟩ ?hw ?hc
  case hw => w_witness2
  case hc =>
    refine LamX.walk_ofTsE (l := PySem.Challenge.rw_shareones_k31_never_beyond_and_reached) (n := 63) (k := 5) (x := "_law_script") (CX := fun _ => L2.CX0) rfl (by decide) (by kernel_rfl) ⟨rfl, by decide, by decide⟩ ?F (fun _ _ _ _ _ z => z)
    intro w mg fa h Y G hmg0
    obtain ⟨K, KX, c⟩ := Y
    have hmg : mg ("law" : PySem.Str) = some (.ref fa) := by
      have e : (HandSHeadRun.topDef (OpenLaw.row PySem.Challenge.rw_shareones_k31_never_beyond_and_reached).prog 21).name = ("law" : PySem.Str) := by kernel_rfl
      rw [← e]
      exact hmg0
    exact ⟨K, KX, Fq.facts KX G hmg c⟩
