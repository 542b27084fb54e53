import PyProof.Rows.All
import Wide.All
import OpenK.AllK
import Wide.FinOn
import KE.KStateDown
import Lean
import HandS.ForMost
import HandS.Wide
import HandS.WideBits
import HandS.IsInst
import HandS.Walk
import HandS.Evl
import HandS.Style
import HandS.NoneIn
import HandS.Defaults
import HandS.Head0
import HandS.Head1
import HandS.Head2
import HandS.HeadEnd
import HandS.HeadHook1
import HandS.HeadHook2
import HandS.AnyAll
import HandS.Conv
import HandS.Dict
import HandS.EndTab
import HandS.Flow
import HandS.HeadHook3
import HandS.HeadHook4
import HandS.HeadWalk
import HandS.More
import HandS.Set
import HandS.SetFor
import HandS.Small
import HandS.SortInts
import HandS.SortKw
import HandS.Strs
import HandS.Style
import HandS.TupAny
import HandS.TupMul
import HandS.Zip
import KE.DataMinMax
import KE.GoesEnum
import KE.GoesMore
import KE.GoesSet
import KE.GoesZip
import KE.KDictWalk
import KE.KNest
import PyProof.GenCompT
import PyProof.ReprLen
import PyProof.ReprRoads
import PyProof.Rows.MatchSeqLen
import PyProof.RulesMatch
import PyProof.RulesMatchSeq
import PyProof.TupleOfGen
import PySem.Challenge.RW_shareones_k36_plain_shares
set_option Elab.async false
set_option pp.maxSteps 250
set_option linter.all false
set_option maxRecDepth 100000
set_option maxHeartbeats 4000000
namespace Fq
open PySem PySem.Spec PyProof.Rows L2
section
variable {P : Program} {w : World} {K : PySem.W.Frag} {mg : Str → Option Value} {base : Heap}
def topS (i : Nat) : Stmt := PySem.Challenge.pw_shareones_k36_plain_shares.main.body.getD i (.Pass ⟨0, 0, 0, 0⟩)
abbrev FnP (K : PySem.W.Frag) (x : Str) (st : Stmt) (f : Addr) (fd : FuncData) : Prop := FunD K x x (defArgs st) (defBody st) (defScope st) [] [] f fd
abbrev s_common_divisor : Stmt := topS 1
abbrev N_common_divisor : List Str := ["one", "other"]
theorem sc_common_divisor : FnScope N_common_divisor ["one", "other"] (defScope s_common_divisor) := ⟨rfl, rfl, rfl, by decide +kernel, rfl, by decide +kernel, by decide +kernel⟩
abbrev s_fraction : Stmt := topS 2
abbrev N_fraction : List Str := ["top", "bottom", "divisor"]
theorem sc_fraction : FnScope N_fraction ["top", "bottom"] (defScope s_fraction) := ⟨rfl, rfl, rfl, by decide +kernel, rfl, by decide +kernel, by decide +kernel⟩
abbrev s_plus : Stmt := topS 3
abbrev N_plus : List Str := ["one", "other"]
theorem sc_plus : FnScope N_plus ["one", "other"] (defScope s_plus) := ⟨rfl, rfl, rfl, by decide +kernel, rfl, by decide +kernel, by decide +kernel⟩
abbrev s_minus : Stmt := topS 4
abbrev N_minus : List Str := ["one", "other"]
theorem sc_minus : FnScope N_minus ["one", "other"] (defScope s_minus) := ⟨rfl, rfl, rfl, by decide +kernel, rfl, by decide +kernel, by decide +kernel⟩
abbrev s_times : Stmt := topS 5
abbrev N_times : List Str := ["one", "other"]
theorem sc_times : FnScope N_times ["one", "other"] (defScope s_times) := ⟨rfl, rfl, rfl, by decide +kernel, rfl, by decide +kernel, by decide +kernel⟩
abbrev s_thing_at : Stmt := topS 9
abbrev N_thing_at : List Str := ["things", "i", "other"]
theorem sc_thing_at : FnScope N_thing_at ["things", "i", "other"] (defScope s_thing_at) := ⟨rfl, rfl, rfl, by decide +kernel, rfl, by decide +kernel, by decide +kernel⟩
abbrev s_either_share : Stmt := topS 10
abbrev N_either_share : List Str := ["x", "y"]
theorem sc_either_share : FnScope N_either_share ["x", "y"] (defScope s_either_share) := ⟨rfl, rfl, rfl, by decide +kernel, rfl, by decide +kernel, by decide +kernel⟩
abbrev s_oneof_share : Stmt := topS 11
abbrev N_oneof_share : List Str := ["x", "y"]
theorem sc_oneof_share : FnScope N_oneof_share ["x", "y"] (defScope s_oneof_share) := ⟨rfl, rfl, rfl, by decide +kernel, rfl, by decide +kernel, by decide +kernel⟩
abbrev s_pick_share : Stmt := topS 12
abbrev N_pick_share : List Str := ["x", "y", "z"]
theorem sc_pick_share : FnScope N_pick_share ["x", "y", "z"] (defScope s_pick_share) := ⟨rfl, rfl, rfl, by decide +kernel, rfl, by decide +kernel, by decide +kernel⟩
abbrev s_plain_share : Stmt := topS 13
abbrev N_plain_share : List Str := ["formula", "shares", "i", "f", "g", "h"]
theorem sc_plain_share : FnScope N_plain_share ["formula", "shares"] (defScope s_plain_share) := ⟨rfl, rfl, rfl, by decide +kernel, rfl, by decide +kernel, by decide +kernel⟩
abbrev s__law_box : Stmt := topS 15
abbrev N__law_box : List Str := ["_law_script", "_law_k", "_law_cell"]
theorem sc__law_box : FnScope N__law_box ["_law_script", "_law_k"] (defScope s__law_box) := ⟨rfl, rfl, rfl, by decide +kernel, rfl, by decide +kernel, by decide +kernel⟩
abbrev s__law_take : Stmt := topS 16
abbrev N__law_take : List Str := ["_law_box_here", "_law_many", "_law_found", "_law_once"]
theorem sc__law_take : FnScope N__law_take ["_law_box_here", "_law_many"] (defScope s__law_take) := ⟨rfl, rfl, rfl, by decide +kernel, rfl, by decide +kernel, by decide +kernel⟩
abbrev s__law_folded : Stmt := topS 17
abbrev N__law_folded : List Str := ["_law_script", "_law_many", "_law_cells", "_law_k", "_law_cell"]
theorem sc__law_folded : FnScope N__law_folded ["_law_script", "_law_many"] (defScope s__law_folded) := ⟨rfl, rfl, rfl, by decide +kernel, rfl, by decide +kernel, by decide +kernel⟩
abbrev s__law_gcd : Stmt := topS 18
abbrev N__law_gcd : List Str := ["_law_one", "_law_other"]
theorem sc__law_gcd : FnScope N__law_gcd ["_law_one", "_law_other"] (defScope s__law_gcd) := ⟨rfl, rfl, rfl, by decide +kernel, rfl, by decide +kernel, by decide +kernel⟩
abbrev s__law_part : Stmt := topS 19
abbrev N__law_part : List Str := ["_law_top", "_law_bottom", "_law_wide"]
theorem sc__law_part : FnScope N__law_part ["_law_top", "_law_bottom"] (defScope s__law_part) := ⟨rfl, rfl, rfl, by decide +kernel, rfl, by decide +kernel, by decide +kernel⟩
abbrev s__law_formula : Stmt := topS 20
abbrev N__law_formula : List Str := ["_law_box_here", "_law_deep", "_law_many", "_law_wide", "_law_way", "_law_left", "_law_word", "_law_turn"]
theorem sc__law_formula : FnScope N__law_formula ["_law_box_here", "_law_deep", "_law_many", "_law_wide"] (defScope s__law_formula) := ⟨rfl, rfl, rfl, by decide +kernel, rfl, by decide +kernel, by decide +kernel⟩
abbrev s__law_any : Stmt := topS 21
abbrev N__law_any : List Str := ["_law_box_here", "_law_great", "_law_wide"]
theorem sc__law_any : FnScope N__law_any ["_law_box_here"] (defScope s__law_any) := ⟨rfl, rfl, rfl, by decide +kernel, rfl, by decide +kernel, by decide +kernel⟩
abbrev s__law_inputs : Stmt := topS 22
abbrev N__law_inputs : List Str := ["_law_formula_here", "_law_found", "_law_part_here"]
theorem sc__law_inputs : FnScope N__law_inputs ["_law_formula_here"] (defScope s__law_inputs) := ⟨rfl, rfl, rfl, by decide +kernel, rfl, by decide +kernel, by decide +kernel⟩
abbrev s__law_share : Stmt := topS 23
abbrev N__law_share : List Str := ["_law_box_here", "_law_bottom"]
theorem sc__law_share : FnScope N__law_share ["_law_box_here"] (defScope s__law_share) := ⟨rfl, rfl, rfl, by decide +kernel, rfl, by decide +kernel, by decide +kernel⟩
abbrev s__law_plain : Stmt := topS 24
abbrev N__law_plain : List Str := ["_law_formula_here", "_law_shares", "_law_some", "_law_a", "_law_x", "_law_b", "_law_y", "_law_c", "_law_z", "_law_part_here"]
theorem sc__law_plain : FnScope N__law_plain ["_law_formula_here", "_law_shares"] (defScope s__law_plain) := ⟨rfl, rfl, rfl, by decide +kernel, rfl, by decide +kernel, by decide +kernel⟩
abbrev s_law : Stmt := topS 25
abbrev N_law : List Str := ["_law_script", "_law_cells", "_law_k", "_law_box_here", "_law_formula_here", "_law_shares", "_law_top", "_law_bottom", "_law_handed", "_law_turn", "_law_place"]
theorem sc_law : FnScope N_law ["_law_script"] (defScope s_law) := ⟨rfl, rfl, rfl, by decide +kernel, rfl, by decide +kernel, by decide +kernel⟩
/-- a tuple of numbers that the program's top has made -/
def TupK (K : PySem.W.Frag) (a : Addr) (ns : List Int) : Prop := ∃ (o : Obj) (its : Array Value) (n : Nat), K.lookup a = some o ∧ o.cls = .type "tuple" ∧ o.data = .seq its n ∧ its.size ≤ sizeLine ∧ Vals (ns.map V.int) its.toList
def intsB : List Value → List Int → Bool
  | [], [] => true
  | .int i _ :: r, n :: s => decide (i = n) && intsB r s
  | _, _ => false
theorem intsB_ok : ∀ {us : List Value} {ns : List Int}, intsB us ns = true → Vals (ns.map V.int) us
  | [], [], _ => .nil
  | .int i t :: r, n :: s, h => by
    have h1 : (decide (i = n) && intsB r s) = true := h
    obtain ⟨h2, h3⟩ := Bool.and_eq_true_iff.mp h1
    have e : i = n := of_decide_eq_true h2
    subst e
    exact .cons ⟨t, rfl⟩ (intsB_ok h3)
def tupB (K : PySem.W.Frag) (x : Str) (ns : List Int) : Bool := match K.lookup (He.ga K x) with
  | some ⟨c, _, .seq its _, _⟩ => decide (c = .type "tuple") && (decide (its.size ≤ 8) && intsB its.toList ns)
  | _ => false
theorem tupB_ok {K : PySem.W.Frag} {x : Str} {ns : List Int} (h : tupB K x ns = true) : TupK K (He.ga K x) ns := by
  unfold tupB at h
  split at h
  · rename_i c d its n sl e
    obtain ⟨h1, h2⟩ := Bool.and_eq_true_iff.mp h
    obtain ⟨h3, h4⟩ := Bool.and_eq_true_iff.mp h2
    have h5 : its.size ≤ 8 := of_decide_eq_true h3
    exact ⟨_, its, n, e, of_decide_eq_true h1, rfl, Nat.le_trans h5 (by decide), intsB_ok h4⟩
  · cases h
structure Defs (K : PySem.W.Frag) (mg : Str → Option Value) where
  f_common_divisor : Addr
  fd_common_divisor : FuncData
  F_common_divisor : FnP K "common_divisor" s_common_divisor f_common_divisor fd_common_divisor
  g_common_divisor : mg "common_divisor" = some (.ref f_common_divisor)
  b_common_divisor : Binds K fd_common_divisor ["one", "other"] []
  f_fraction : Addr
  fd_fraction : FuncData
  F_fraction : FnP K "fraction" s_fraction f_fraction fd_fraction
  g_fraction : mg "fraction" = some (.ref f_fraction)
  b_fraction : Binds K fd_fraction ["top", "bottom"] []
  f_plus : Addr
  fd_plus : FuncData
  F_plus : FnP K "plus" s_plus f_plus fd_plus
  g_plus : mg "plus" = some (.ref f_plus)
  b_plus : Binds K fd_plus ["one", "other"] []
  f_minus : Addr
  fd_minus : FuncData
  F_minus : FnP K "minus" s_minus f_minus fd_minus
  g_minus : mg "minus" = some (.ref f_minus)
  b_minus : Binds K fd_minus ["one", "other"] []
  f_times : Addr
  fd_times : FuncData
  F_times : FnP K "times" s_times f_times fd_times
  g_times : mg "times" = some (.ref f_times)
  b_times : Binds K fd_times ["one", "other"] []
  f_thing_at : Addr
  fd_thing_at : FuncData
  F_thing_at : FnP K "thing_at" s_thing_at f_thing_at fd_thing_at
  g_thing_at : mg "thing_at" = some (.ref f_thing_at)
  b_thing_at : Binds K fd_thing_at ["things", "i", "other"] []
  f_either_share : Addr
  fd_either_share : FuncData
  F_either_share : FnP K "either_share" s_either_share f_either_share fd_either_share
  g_either_share : mg "either_share" = some (.ref f_either_share)
  b_either_share : Binds K fd_either_share ["x", "y"] []
  f_oneof_share : Addr
  fd_oneof_share : FuncData
  F_oneof_share : FnP K "oneof_share" s_oneof_share f_oneof_share fd_oneof_share
  g_oneof_share : mg "oneof_share" = some (.ref f_oneof_share)
  b_oneof_share : Binds K fd_oneof_share ["x", "y"] []
  f_pick_share : Addr
  fd_pick_share : FuncData
  F_pick_share : FnP K "pick_share" s_pick_share f_pick_share fd_pick_share
  g_pick_share : mg "pick_share" = some (.ref f_pick_share)
  b_pick_share : Binds K fd_pick_share ["x", "y", "z"] []
  f_plain_share : Addr
  fd_plain_share : FuncData
  F_plain_share : FnP K "plain_share" s_plain_share f_plain_share fd_plain_share
  g_plain_share : mg "plain_share" = some (.ref f_plain_share)
  b_plain_share : Binds K fd_plain_share ["formula", "shares"] []
  f__law_box : Addr
  fd__law_box : FuncData
  F__law_box : FnP K "_law_box" s__law_box f__law_box fd__law_box
  g__law_box : mg "_law_box" = some (.ref f__law_box)
  b__law_box : Binds K fd__law_box ["_law_script", "_law_k"] []
  f__law_take : Addr
  fd__law_take : FuncData
  F__law_take : FnP K "_law_take" s__law_take f__law_take fd__law_take
  g__law_take : mg "_law_take" = some (.ref f__law_take)
  b__law_take : Binds K fd__law_take ["_law_box_here", "_law_many"] []
  f__law_folded : Addr
  fd__law_folded : FuncData
  F__law_folded : FnP K "_law_folded" s__law_folded f__law_folded fd__law_folded
  g__law_folded : mg "_law_folded" = some (.ref f__law_folded)
  b__law_folded : Binds K fd__law_folded ["_law_script", "_law_many"] []
  f__law_gcd : Addr
  fd__law_gcd : FuncData
  F__law_gcd : FnP K "_law_gcd" s__law_gcd f__law_gcd fd__law_gcd
  g__law_gcd : mg "_law_gcd" = some (.ref f__law_gcd)
  b__law_gcd : Binds K fd__law_gcd ["_law_one", "_law_other"] []
  f__law_part : Addr
  fd__law_part : FuncData
  F__law_part : FnP K "_law_part" s__law_part f__law_part fd__law_part
  g__law_part : mg "_law_part" = some (.ref f__law_part)
  b__law_part : Binds K fd__law_part ["_law_top", "_law_bottom"] []
  f__law_formula : Addr
  fd__law_formula : FuncData
  F__law_formula : FnP K "_law_formula" s__law_formula f__law_formula fd__law_formula
  g__law_formula : mg "_law_formula" = some (.ref f__law_formula)
  b__law_formula : Binds K fd__law_formula ["_law_box_here", "_law_deep", "_law_many", "_law_wide"] []
  f__law_any : Addr
  fd__law_any : FuncData
  F__law_any : FnP K "_law_any" s__law_any f__law_any fd__law_any
  g__law_any : mg "_law_any" = some (.ref f__law_any)
  b__law_any : Binds K fd__law_any ["_law_box_here"] []
  f__law_inputs : Addr
  fd__law_inputs : FuncData
  F__law_inputs : FnP K "_law_inputs" s__law_inputs f__law_inputs fd__law_inputs
  g__law_inputs : mg "_law_inputs" = some (.ref f__law_inputs)
  b__law_inputs : Binds K fd__law_inputs ["_law_formula_here"] []
  f__law_share : Addr
  fd__law_share : FuncData
  F__law_share : FnP K "_law_share" s__law_share f__law_share fd__law_share
  g__law_share : mg "_law_share" = some (.ref f__law_share)
  b__law_share : Binds K fd__law_share ["_law_box_here"] []
  f__law_plain : Addr
  fd__law_plain : FuncData
  F__law_plain : FnP K "_law_plain" s__law_plain f__law_plain fd__law_plain
  g__law_plain : mg "_law_plain" = some (.ref f__law_plain)
  b__law_plain : Binds K fd__law_plain ["_law_formula_here", "_law_shares"] []
  f_law : Addr
  fd_law : FuncData
  F_law : FnP K "law" s_law f_law fd_law
  g_law : mg "law" = some (.ref f_law)
  b_law : Binds K fd_law ["_law_script"] []
  C_WHOLE : Addr
  g_WHOLE : mg "WHOLE" = some (.ref C_WHOLE)
  q_WHOLE : TupK K C_WHOLE [1, 1]
  C_NOUGHT : Addr
  g_NOUGHT : mg "NOUGHT" = some (.ref C_NOUGHT)
  q_NOUGHT : TupK K C_NOUGHT [0, 1]
  m_abs : mg "abs" = none
  m_divmod : mg "divmod" = none
  m_enumerate : mg "enumerate" = none
  m_int : mg "int" = none
  m_len : mg "len" = none
  m_list : mg "list" = none
  m_max : mg "max" = none
  m_range : mg "range" = none
  m_repr : mg "repr" = none
  m_tuple : mg "tuple" = none
theorem bt_abs : bootBuiltins "abs" = some (.builtin "abs") := by decide +kernel
theorem bt_divmod : bootBuiltins "divmod" = some (.builtin "divmod") := by decide +kernel
theorem bt_enumerate : bootBuiltins "enumerate" = some (.type "enumerate") := by decide +kernel
theorem bt_int : bootBuiltins "int" = some (.type "int") := by decide +kernel
theorem bt_len : bootBuiltins "len" = some (.builtin "len") := by decide +kernel
theorem bt_list : bootBuiltins "list" = some (.type "list") := by decide +kernel
theorem bt_max : bootBuiltins "max" = some (.builtin "max") := by decide +kernel
theorem bt_range : bootBuiltins "range" = some (.type "range") := by decide +kernel
theorem bt_repr : bootBuiltins "repr" = some (.builtin "repr") := by decide +kernel
theorem bt_tuple : bootBuiltins "tuple" = some (.type "tuple") := by decide +kernel
def frT (t b : Int) : Int := (b.sign * t) / (Int.gcd t b : Int)
def frB (t b : Int) : Int := (b.natAbs : Int) / (Int.gcd t b : Int)
theorem fr_ex (t : Int) {b : Int} (hb : b ≠ 0) : ∃ (g : Nat) (x y : Int), 0 < g ∧ Int.gcd t b = g ∧ t = (g : Int) * x ∧ b = (g : Int) * y ∧ y ≠ 0 ∧ Int.gcd x y = 1 := by
  have hg : 0 < Int.gcd t b := Int.gcd_pos_of_ne_zero_right t hb
  obtain ⟨x, hx⟩ := Int.gcd_dvd_left t b
  obtain ⟨y, hy⟩ := Int.gcd_dvd_right t b
  refine ⟨Int.gcd t b, x, y, hg, rfl, hx, hy, fun e => hb (by rw [hy, e, Int.mul_zero]), ?_⟩
  generalize eg : Int.gcd t b = g at hg hx hy
  have e : g = g * Int.gcd x y := by
    rw [← eg]
    conv => lhs; rw [hx, hy, Int.gcd_mul_left]
    rw [Int.natAbs_natCast, eg]
  exact Nat.eq_of_mul_eq_mul_left hg (by rw [← e, Nat.mul_one])
theorem sgn {b : Int} {g : Nat} {y : Int} (hg : 0 < g) (hb : b = (g : Int) * y) : b.sign = y.sign := by
  rw [hb, Int.sign_mul, Int.sign_eq_one_of_pos (by omega), Int.one_mul]
theorem fr_vals {t b : Int} {g : Nat} {x y : Int} (hg : 0 < g) (eg : Int.gcd t b = g) (ht : t = (g : Int) * x) (hb : b = (g : Int) * y) : frT t b = y.sign * x ∧ frB t b = (y.natAbs : Int) := by
  have g0 : (g : Int) ≠ 0 := by omega
  constructor
  · unfold frT
    rw [eg, sgn hg hb, ht, show y.sign * ((g : Int) * x) = (g : Int) * (y.sign * x) by rw [Int.mul_left_comm]]
    exact Int.mul_ediv_cancel_left _ g0
  · unfold frB
    rw [eg, hb, Int.natAbs_mul, Int.natAbs_natCast, Int.natCast_mul]
    exact Int.mul_ediv_cancel_left _ g0
theorem sgn_abs {y : Int} (hy : y ≠ 0) : y.sign.natAbs = 1 := Int.natAbs_sign_of_ne_zero hy
theorem fr_pos (t : Int) {b : Int} (hb : b ≠ 0) : 0 < frB t b := by
  obtain ⟨g, x, y, hg, eg, ht, hy, hy0, h1⟩ := fr_ex t hb
  rw [(fr_vals hg eg ht hy).2]
  omega
theorem fr_gcd (t : Int) {b : Int} (hb : b ≠ 0) : Int.gcd (frT t b) (frB t b) = 1 := by
  obtain ⟨g, x, y, hg, eg, ht, hy, hy0, h1⟩ := fr_ex t hb
  rw [(fr_vals hg eg ht hy).1, (fr_vals hg eg ht hy).2]
  show Nat.gcd (y.sign * x).natAbs ((y.natAbs : Int)).natAbs = 1
  rw [Int.natAbs_mul, sgn_abs hy0, Nat.one_mul, Int.natAbs_natCast]
  exact h1
theorem fr_eq (t : Int) {b : Int} (hb : b ≠ 0) : frT t b * b = t * frB t b := by
  obtain ⟨g, x, y, hg, eg, ht, hy, hy0, h1⟩ := fr_ex t hb
  rw [(fr_vals hg eg ht hy).1, (fr_vals hg eg ht hy).2]
  rw [ht, hy]
  have e : y * y.sign = (y.natAbs : Int) := Int.mul_sign_self y
  rw [← e]
  simp only [Int.mul_comm, Int.mul_left_comm, Int.mul_assoc]
theorem fr_absT (t : Int) {b : Int} (hb : b ≠ 0) : (frT t b).natAbs ≤ t.natAbs := by
  obtain ⟨g, x, y, hg, eg, ht, hy, hy0, h1⟩ := fr_ex t hb
  rw [(fr_vals hg eg ht hy).1, ht, Int.natAbs_mul, sgn_abs hy0, Nat.one_mul, Int.natAbs_mul, Int.natAbs_natCast]
  exact Nat.le_mul_of_pos_left _ hg
theorem fr_absB (t : Int) {b : Int} (hb : b ≠ 0) : (frB t b).natAbs ≤ b.natAbs := by
  obtain ⟨g, x, y, hg, eg, ht, hy, hy0, h1⟩ := fr_ex t hb
  rw [(fr_vals hg eg ht hy).2, hy, Int.natAbs_mul, Int.natAbs_natCast, Int.natAbs_natCast]
  exact Nat.le_mul_of_pos_left _ hg
theorem fr_negT (t b : Int) : frT (-t) (-b) = frT t b := by
  unfold frT
  rw [Int.sign_neg, Int.neg_mul_neg, Int.gcd_neg, Int.neg_gcd]
theorem fr_negB (t b : Int) : frB (-t) (-b) = frB t b := by
  unfold frB
  rw [Int.natAbs_neg, Int.gcd_neg, Int.neg_gcd]
/-- what the program's two ways reckon -/
theorem fd_pos {g : Nat} {x : Int} (hg : 0 < g) : ((g : Int) * x).fdiv (g : Int) = x := by
  rw [Int.fdiv_eq_ediv_of_nonneg _ (by omega)]
  exact Int.mul_ediv_cancel_left _ (by omega)
theorem fd_neg {g : Nat} {x : Int} (hg : 0 < g) : ((g : Int) * x).fdiv (-(g : Int)) = -x := by
  rw [show (g : Int) * x = -(g : Int) * (-x) by rw [Int.neg_mul_neg]]
  exact Int.mul_fdiv_cancel_left _ (by omega)
theorem fr_lt (t : Int) {b : Int} (hb : b < 0) : t.fdiv (-(Int.gcd t b : Int)) = frT t b ∧ b.fdiv (-(Int.gcd t b : Int)) = frB t b := by
  obtain ⟨g, x, y, hg, eg, ht, hy, hy0, h1⟩ := fr_ex t (show b ≠ 0 by omega)
  rw [(fr_vals hg eg ht hy).1, (fr_vals hg eg ht hy).2, eg]
  have yn : y < 0 := by
    rw [hy] at hb
    exact Int.neg_of_mul_neg_right hb (by omega)
  constructor
  · conv => lhs; rw [ht]
    rw [fd_neg hg, Int.sign_eq_neg_one_of_neg yn]
    omega
  · conv => lhs; rw [hy]
    rw [fd_neg hg]
    omega
theorem fr_ge (t : Int) {b : Int} (hb : 0 < b) : t.fdiv (Int.gcd t b : Int) = frT t b ∧ b.fdiv (Int.gcd t b : Int) = frB t b := by
  obtain ⟨g, x, y, hg, eg, ht, hy, hy0, h1⟩ := fr_ex t (show b ≠ 0 by omega)
  rw [(fr_vals hg eg ht hy).1, (fr_vals hg eg ht hy).2, eg]
  have yn : 0 < y := by
    rw [hy] at hb
    exact Int.pos_of_mul_pos_right hb (by omega)
  constructor
  · conv => lhs; rw [ht]
    rw [fd_pos hg, Int.sign_eq_one_of_pos yn]
    omega
  · conv => lhs; rw [hy]
    rw [fd_pos hg]
    omega
/-! sizes -/
def S (n : Nat) (x : Int) : Prop := x.natAbs < 2 ^ n
theorem S.mono {n m : Nat} {x : Int} (h : S n x) (l : n ≤ m) : S m x := Nat.lt_of_lt_of_le h (Nat.pow_le_pow_right (by decide) l)
theorem S.mul {n m : Nat} {x y : Int} (h : S n x) (k : S m y) : S (n + m) (x * y) := by
  unfold S at *
  rw [Int.natAbs_mul, Nat.pow_add]
  exact Nat.mul_lt_mul'' h k
theorem S.add {n : Nat} {x y : Int} (h : S n x) (k : S n y) : S (n + 1) (x + y) := by
  unfold S at *
  rw [Nat.pow_succ]
  omega
theorem S.sub {n : Nat} {x y : Int} (h : S n x) (k : S n y) : S (n + 1) (x - y) := by
  unfold S at *
  rw [Nat.pow_succ]
  omega
theorem S.frT {n : Nat} {t b : Int} (h : S n t) (hb : b ≠ 0) : S n (frT t b) := Nat.lt_of_le_of_lt (fr_absT t hb) h
theorem S.frB {n : Nat} {t b : Int} (h : S n b) (hb : b ≠ 0) : S n (frB t b) := Nat.lt_of_le_of_lt (fr_absB t hb) h
theorem abs_eq (i : Int) : (if i < 0 then -i else i) = (i.natAbs : Int) := by
  split <;> omega
/-! the same rules with the written part by its name: for the inside of comprehensions -/
theorem pg_tupK {X : Cx} {K : PySem.W.Frag} {es : List Expr} {k n : Nat} {pos : Pos} {t : TGs} (h : X.K = K) (hc : X.calm = true) (hg : PGs X es t) (hn : (assignEach es X.env).length = n := by rfl) (hst : (assignEach es X.env).findIdx? (·.1) = none := by rfl) : PG X (.Tuple es k pos) (gTup K n t) := by
  subst h
  exact pg_tup hc hg hn hst
theorem isiK {X : Cx} {K : PySem.W.Frag} (h : X.K = K) : CallR X (.builtin "isinstance") (rIsi K) := by
  subst h
  exact call_isi
theorem ixlK {X : Cx} {K : PySem.W.Frag} (h : X.K = K) : IxR X (rIxL K) := by
  subst h
  exact ix_list
theorem ixtK {X : Cx} {K : PySem.W.Frag} (h : X.K = K) : IxR X (rIxT K) := by
  subst h
  exact ix_tup
theorem lenK {X : Cx} {K : PySem.W.Frag} (h : X.K = K) : CallR X (.builtin "len") (fun xs H Q => ∃ p ys, xs = [.ref p] ∧ (SqL K H p ys ∨ SqT K H p ys) ∧ Q (.int ys.length) H) := by
  subst h
  exact call_len_seq
theorem sumK {X : Cx} {K : PySem.W.Frag} (h : X.K = K) (hc : X.calm = true) : CallR X (.builtin "sum") (rSum K) := by
  subst h
  exact cr_sum hc
theorem yes_ite {σ : L2.St} {H : Hp} {A B : Hp → Prop} (h : A H) : tYes σ H (fun b H3 => if b = true then A H3 else B H3) := by
  show if true = true then A H else B H
  rw [if_pos rfl]
  exact h
/-! heaps -/
theorem same_upd {H : Hp} {p : Addr} {o : HO} (h : H p = none) : Same H (upd H p o) := fun b x e => by
  rw [upd_ne (ne_of_none e h)]
  exact e
def But (p : Addr) (H H' : Hp) : Prop := ∀ b o, b ≠ p → H b = some o → H' b = some o
theorem But.trans {p : Addr} {H H1 H2 : Hp} (a : But p H H1) (b : But p H1 H2) : But p H H2 := fun c o n e => b c o n (a c o n e)
theorem But.refl (p : Addr) (H : Hp) : But p H H := fun _ _ _ e => e
theorem But.put {p : Addr} {H H' : Hp} {o : HO} (a : But p H H') : But p H (L2.upd H' p o) := fun c x n e => by
  rw [upd_ne n]
  exact a c x n e
theorem same_but {p : Addr} {H H' : Hp} (a : Same H H') : But p H H' := fun c x _ e => a c x e
theorem But.new {p q : Addr} {H H' : Hp} {o : HO} (a : But p H H') (n : H' q = none) : But p H (upd H' q o) := fun c x hn e => by
  have e2 := a c x hn e
  rw [upd_ne (ne_of_none e2 n)]
  exact e2
/-- objects made since H may change: what H has stays -/
theorem same_newer {H H' : Hp} {q : Addr} {o : HO} (a : Same H H') (n : H q = none) : Same H (upd H' q o) := fun c x e => by
  rw [upd_ne (ne_of_none e n)]
  exact a c x e
theorem But.same {p : Addr} {H H1 H2 : Hp} (n : H p = none) (a : Same H H1) (b : But p H1 H2) : Same H H2 := fun c x e =>
  b c x (ne_of_none e n) (a c x e)
/-- the box: a rest, a begin, how often -/
def Bx (H : Hp) (p : Addr) (n : Nat) : Prop := ∃ a b c : Int, H p = some (.lst [.int a, .int b, .int c]) ∧ 0 ≤ a ∧ 0 ≤ b ∧ b < 2147483647 ∧ 0 ≤ c ∧ c ≤ n
theorem Bx.same {H H' : Hp} {p : Addr} {n : Nat} (h : Bx H p n) (s : Same H H') : Bx H' p n := by
  obtain ⟨a, b, c, hp, r⟩ := h
  exact ⟨a, b, c, s _ _ hp, r⟩
theorem Bx.mono {H : Hp} {p : Addr} {n m : Nat} (h : Bx H p n) (l : n ≤ m) : Bx H p m := by
  obtain ⟨a, b, c, hp, h1, h2, h3, h4, h5⟩ := h
  exact ⟨a, b, c, hp, h1, h2, h3, h4, by omega⟩
theorem Bx.new {H : Hp} {p q : Addr} {n : Nat} {o : HO} (h : Bx H p n) (nq : H q = none) : Bx (L2.upd H q o) p n := h.same (same_upd nq)
theorem Bx.ne_tup {H : Hp} {p q : Addr} {n : Nat} {xs : List V} (h : Bx H p n) (e : H q = some (.tup xs)) : q ≠ p := by
  obtain ⟨a, b, c, hp, _⟩ := h
  exact ne_of e hp (fun z => by cases z)
/-- an item of a menu of numbers -/
theorem at_menu {Pr : Int → Prop} {xs : List Int} {r : Int} (h0 : 0 ≤ r) (h1 : r < xs.length) (hx : ∀ x, x ∈ xs → Pr x) : ∃ v, atI (xs.map V.int) r = some (V.int v) ∧ Pr v := by
  obtain ⟨j, rfl⟩ := Int.eq_ofNat_of_zero_le h0
  have hj : j < xs.length := by omega
  refine ⟨xs[j], atI_nat (by rw [List.getElem?_map, List.getElem?_eq_getElem hj]; rfl), hx _ (List.getElem_mem hj)⟩
theorem SqL.mk {K : PySem.W.Frag} {H : Hp} {a : Addr} {xs : List V} (h : H a = some (.lst xs)) : SqL K H a xs := .inl (.inl h)
theorem SqT.mk {K : PySem.W.Frag} {H : Hp} {a : Addr} {xs : List V} (h : H a = some (.tup xs)) : SqT K H a xs := .inl (.inl h)
theorem same_tup {K : PySem.W.Frag} {H H' : Hp} {a : Addr} {xs : List V} (e : Same H H') (h : SqT K H a xs) : SqT K H' a xs := by
  rcases h with (h | ⟨o, h⟩) | h
  · exact .inl (.inl (e _ _ h))
  · exact .inl (.inr ⟨o, e _ _ h⟩)
  · exact .inr h
theorem ixn {n j : Nat} (hj : j < n) : ixN n (j : Int) = some j := by
  unfold ixN
  rw [if_pos (by omega), if_pos (by omega)]
  simp
theorem cdivP {a m : Int} (h0 : 0 < m) (h1 : m < 2 ^ 60) : CDivP a m := ⟨h0, PyProof.noPylong_of_log2 (wide_div (i := a) (b := 60) h0 (by omega) (by decide) (by decide)).2⟩
theorem i01 {c : Prop} [Decidable c] : -(2 ^ 64) < (if c then (1 : Int) else 0) ∧ (if c then (1 : Int) else 0) < 2 ^ 64 := by
  split <;> decide
theorem i01n {c : Prop} [Decidable c] : 0 ≤ (if c then (1 : Int) else 0) := by
  split <;> decide
theorem absn (i : Int) : 0 ≤ (if i < 0 then -i else i) := by
  split <;> omega
/-! the box of a cell -/
def sp__law_box (K : PySem.W.Frag) : Sp := fun vs H Q _ => ∃ (a : Addr) (ns : List Int) (k : Nat), vs = [.ref a, .int (k : Nat)] ∧ SqL K H a (ns.map V.int) ∧ k < 1000 ∧
  ∀ H' p, Same H H' → H p = none → Bx H' p 0 → Q (.ref p) H'
theorem ok__law_box (T : Defs K mg) : FnOk P w K mg base CX0 1 T.f__law_box T.fd__law_box ["_law_script", "_law_k"] (sp__law_box K) := by
  refine T.F__law_box.ok sc__law_box (fun vs H Q E h => ?_) (fun cdv A outer s H vs Q E hr h => ?_)
  · obtain ⟨a, ns, k, rfl, hS, hk, q⟩ := h
    rfl
  · obtain ⟨a, ns, k, rfl, hS, hk, q⟩ := h
    refine ⟨_, PSs.nox (pss_cons (ps_set (i := 2) sc__law_box.nd rfl (.inl rfl) pe_int)
    (pss_cons (ps_if (pt_cmpR op_lt (pv 1) (pe_callB call_len_seq (by rfl) T.m_len bt_len (pa_cons (pv 0) pa_nil)) (nomark _)) (pss_one (ps_set (i := 2) sc__law_box.nd rfl (.inl rfl) (pe_ix ix_list (pv 0) (pv 1) (fun _ _ => rfl)))) pss_nil)
    (pss_one (ps_ret (pe_lst (pa_cons (pe_op op_mul (pe_callB call_abs (by rfl) T.m_abs bt_abs (pa_cons (pv 2) pa_nil)) (pe_callTy call_int1 (by rfl) T.m_int bt_int (pa_cons (pe_cmpR op_ge (pe_callB call_abs (by rfl) T.m_abs bt_abs (pa_cons (pv 2) pa_nil)) (pe_op op_pow pe_int pe_int) (nomark _)) pa_nil))) (pa_cons (pe_op op_mod (pe_op op_add (pv 2) (pe_op op_mul (pe_op op_mul pe_int (pv 1)) (pv 1))) pe_int) (pa_cons pe_int pa_nil)))))))), ?_⟩
    refine ⟨.int k, rfl, .ref a, rfl, a, _, rfl, .inl hS, _, _, rfl, rfl, _, rfl, ite2 (fun e => ?_) (fun e => ?_)⟩
    · have hl : (k : Int) < ((ns.map V.int).length : Nat) := of_decide_eq_true e
      rw [List.length_map] at hl
      have hj : k < ns.length := by omega
      refine ⟨.ref a, rfl, .int k, rfl, a, _, _, .int ns[k], rfl, rfl, hS, atI_nat (by rw [List.getElem?_map, List.getElem?_eq_getElem hj]; rfl), ?_⟩
      refine ⟨_, rfl, _, rfl, _, rfl, _, rfl, _, _, rfl, rfl, ⟨by decide, by decide, by decide⟩, _, _, rfl, rfl, .inr ⟨_, rfl, _, _, rfl, rfl, .inr i01, _, rfl, .int k, rfl, _, _, rfl, rfl, .inl ⟨by decide, by decide⟩, .int k, rfl, _, _, rfl, rfl, .inr ⟨by omega, by omega⟩, _, _, rfl, rfl, _, _, rfl, rfl, (show (0 : Int) < 2147483647 by decide), (show 3 ≤ sizeLine by decide), fun p np => ?_⟩⟩
      refine q _ p (same_upd np) np ⟨_, _, _, upd_same, ?_, Int.emod_nonneg _ (by decide), Int.emod_lt_of_pos _ (by decide), Int.le_refl 0, Int.le_refl 0⟩
      exact Int.mul_nonneg (absn _) i01n
    · refine ⟨_, rfl, _, rfl, _, rfl, _, rfl, _, _, rfl, rfl, ⟨by decide, by decide, by decide⟩, _, _, rfl, rfl, .inr ⟨_, rfl, _, _, rfl, rfl, .inr i01, _, rfl, .int k, rfl, _, _, rfl, rfl, .inl ⟨by decide, by decide⟩, .int k, rfl, _, _, rfl, rfl, .inr ⟨by omega, by omega⟩, _, _, rfl, rfl, _, _, rfl, rfl, (show (0 : Int) < 2147483647 by decide), (show 3 ≤ sizeLine by decide), fun p np => ?_⟩⟩
      refine q _ p (same_upd np) np ⟨_, _, _, upd_same, ?_, Int.emod_nonneg _ (by decide), Int.emod_lt_of_pos _ (by decide), Int.le_refl 0, Int.le_refl 0⟩
      exact Int.mul_nonneg (absn _) i01n
/-! one number taken -/
def sp__law_take (K : PySem.W.Frag) : Sp := fun vs H Q _ => ∃ (p : Addr) (m : Int) (n : Nat), vs = [.ref p, .int m] ∧ Bx H p n ∧ 0 < m ∧ m < 2 ^ 60 ∧ n < 1000000000000 ∧
  ∀ H' r, But p H H' → Bx H' p (n + 1) → 0 ≤ r → r < m → Q (.int r) H'
theorem ok__law_take (T : Defs K mg) : FnOk P w K mg base CX0 1 T.f__law_take T.fd__law_take ["_law_box_here", "_law_many"] (sp__law_take K) := by
  refine T.F__law_take.ok sc__law_take (fun vs H Q E h => ?_) (fun cdv A outer s H vs Q E hr h => ?_)
  · obtain ⟨p, m, n, rfl, ⟨a, b, c, hp, ha, hb, hb2, hc, hc2⟩, h0, h1, hn, q⟩ := h
    rfl
  · obtain ⟨p, m, n, rfl, ⟨a, b, c, hp, ha, hb, hb2, hc, hc2⟩, h0, h1, hn, q⟩ := h
    refine ⟨_, PSs.nox (pss_cons (ps_if (pt_cmpR op_gt (pe_ix ix_list (pv 0) pe_int (fun _ _ => rfl)) pe_int (nomark _)) (pss_cons (ps_asg (pe_callB call_divmodW (by rfl) T.m_divmod bt_divmod (pa_cons (pe_ix ix_list (pv 0) pe_int (fun _ _ => rfl)) (pa_cons (pv 1) pa_nil))) (pg_tup rfl (pgs_cons (pg_sub (pv 0) pe_int set_list) (pgs_cons (pg_name (i := 2) sc__law_take.nd rfl (.inl rfl)) pgs_nil))))
    (pss_one (ps_ret (pv 2)))) pss_nil)
    (pss_cons (ps_asg (pe_op op_add (pe_ix ix_list (pv 0) pe_int (fun _ _ => rfl)) pe_int) (pg_sub (pv 0) pe_int set_list))
    (pss_cons (ps_set (i := 3) sc__law_take.nd rfl (.inl rfl) (pe_op op_mod (pe_op op_pow (pe_op op_add (pe_ix ix_list (pv 0) pe_int (fun _ _ => rfl)) (pe_op op_mul pe_int (pe_ix ix_list (pv 0) pe_int (fun _ _ => rfl)))) pe_int) pe_int))
    (pss_one (ps_ret (pe_op op_mod (pe_op op_fdiv (pe_op op_mod (pe_op op_add (pe_op op_mul (pv 3) pe_int) (pe_op op_mul (pe_op op_mul (pe_ix ix_list (pv 0) pe_int (fun _ _ => rfl)) (pe_ix ix_list (pv 0) pe_int (fun _ _ => rfl))) pe_int)) pe_int) pe_int) (pv 1))))))), ?_⟩
    have SQ : SqL K H p [.int a, .int b, .int c] := SqL.mk hp
    refine ⟨.ref p, rfl, p, _, 0, _, rfl, rfl, SQ, atI_nat (j := 0) rfl, _, _, rfl, rfl, _, rfl, ite2 (fun e => ?_) (fun e => ?_)⟩
    · refine ⟨.ref p, rfl, p, _, 0, _, rfl, rfl, SQ, atI_nat (j := 0) rfl, .int m, rfl, a, m, rfl, cdivP h0 h1, fun t nt => ?_⟩
      have hp1 : (upd H t (.tup [.int (a / m), .int (a % m)])) p = some (.lst [.int a, .int b, .int c]) := by
        rw [upd_ne (ne_of_none hp nt)]
        exact hp
      refine ⟨t, _, rfl, SqT.mk upd_same, rfl, _, _, rfl, .ref p, rfl, p, _, 0, 0, rfl, rfl, hp1, rfl, _, _, rfl, rfl, _, rfl, ?_⟩
      refine q _ _ ((But.refl p H).new nt).put ⟨_, _, _, upd_same, Int.ediv_nonneg ha (by omega), hb, hb2, hc, by omega⟩ (Int.emod_nonneg _ (by omega)) (Int.emod_lt_of_pos _ h0)
    · refine ⟨.ref p, rfl, p, _, 2, _, rfl, rfl, SQ, atI_nat (j := 2) rfl, _, _, rfl, rfl, .ref p, rfl, p, _, 2, 2, rfl, rfl, hp, rfl, ?_⟩
      have SQ1 : SqL K (upd H p (.lst [.int a, .int b, .int (c + 1)])) p [.int a, .int b, .int (c + 1)] := SqL.mk upd_same
      refine ⟨.ref p, rfl, p, _, 1, _, rfl, rfl, SQ1, atI_nat (j := 1) rfl, .ref p, rfl, p, _, 2, _, rfl, rfl, SQ1, atI_nat (j := 2) rfl, _, _, rfl, rfl, .inl ⟨by decide, by decide⟩, _, _, rfl, rfl, _, _, rfl, rfl, ⟨by decide, by decide, by omega⟩, _, _, rfl, rfl, (show (0 : Int) < 2147483647 by decide), ?_⟩
      refine ⟨_, rfl, _, _, rfl, rfl, .inr ⟨by decide, by decide⟩, .ref p, rfl, p, _, 2, _, rfl, rfl, SQ1, atI_nat (j := 2) rfl, .ref p, rfl, p, _, 2, _, rfl, rfl, SQ1, atI_nat (j := 2) rfl, _, _, rfl, rfl, .inl ⟨by omega, by omega⟩, _, _, rfl, rfl, .inr ⟨by decide, by decide⟩, _, _, rfl, rfl, _, _, rfl, rfl, (show (0 : Int) < 2147483629 by decide), _, _, rfl, rfl, ⟨by decide, by decide⟩, .int m, rfl, _, _, rfl, rfl, h0, ?_⟩
      refine q _ _ (But.refl p H).put ⟨_, _, _, upd_same, ha, hb, hb2, by omega, by omega⟩ (Int.emod_nonneg _ (by omega)) (Int.emod_lt_of_pos _ h0)
/-! the folded cells -/
theorem cut_take (ns : List Int) (m : Nat) : cutV (ns.map V.int) none (some (m : Int)) = (ns.take m).map V.int := by
  unfold cutV
  rw [HT.sIx_none, HT.sIx_nat, List.drop_zero, List.length_map, Nat.sub_zero, ← List.map_take]
  congr 1
  by_cases h : m ≤ ns.length
  · rw [Nat.min_eq_left h]
  · rw [Nat.min_eq_right (by omega), List.take_length, List.take_of_length_le (by omega)]
theorem cut_rest (ns : List Int) (m k : Nat) : ∃ ms : List Int, cutV (ns.map V.int) (some (m : Int)) (some (k : Int)) = ms.map V.int ∧ (0 < ms.length → m < ns.length) ∧ ms.length ≤ ns.length := by
  unfold cutV
  rw [HT.sIx_nat, HT.sIx_nat, List.length_map]
  refine ⟨(ns.drop (min m ns.length)).take (min k ns.length - min m ns.length), ?_, fun h => ?_, ?_⟩
  · rw [List.map_take, List.map_drop]
  · rw [List.length_take, List.length_drop] at h
    omega
  · rw [List.length_take, List.length_drop]
    omega
theorem cut_fr2 (ns : List Int) (m : Nat) : ∃ ms : List Int, cutV (ns.map V.int) (some (m : Int)) none = ms.map V.int ∧ ms.length ≤ ns.length := by
  unfold cutV
  rw [HT.sIx_none, HT.sIx_nat, List.length_map]
  refine ⟨(ns.drop (min m ns.length)).take (ns.length - min m ns.length), ?_, ?_⟩
  · rw [List.map_take, List.map_drop]
  · rw [List.length_take, List.length_drop]
    omega
def sp__law_folded (K : PySem.W.Frag) : Sp := fun vs H Q _ => ∃ (a : Addr) (ns : List Int) (m : Nat), vs = [.ref a, .int (m : Nat)] ∧ SqL K H a (ns.map V.int) ∧ ns.length ≤ 63 ∧ 0 < m ∧ m < 64 ∧
  ∀ H' p (cs : List Int), Same H H' → H p = none → H' p = some (.lst (cs.map V.int)) → cs.length ≤ m + 2 → Q (.ref p) H'
theorem ok__law_folded (T : Defs K mg) : FnOk P w K mg base CX0 1 T.f__law_folded T.fd__law_folded ["_law_script", "_law_many"] (sp__law_folded K) := by
  refine T.F__law_folded.ok sc__law_folded (fun vs H Q E h => ?_) (fun cdv A outer s H vs Q E hr h => ?_)
  · obtain ⟨a, ns, m, rfl, hS, hlen, hm, hm2, q⟩ := h
    rfl
  · obtain ⟨a, ns, m, rfl, hS, hlen, hm, hm2, q⟩ := h
    refine ⟨_, PSs.nox (pss_cons (ps_set (i := 2) sc__law_folded.nd rfl (.inl rfl) (pe_callTy call_list_of (by rfl) T.m_list bt_list (pa_cons (pe_slice sl_list (pv 0) po_none (po_some (pv 1))) pa_nil)))
    (pss_cons (ps_for PassesOwn.never rfl (pi_enum (by rfl) T.m_enumerate (pa_cons (pe_slice sl_list (pv 0) (po_some (pv 1)) (po_some pe_int)) pa_nil)) (pg_tup rfl (pgs_cons (pg_name (i := 3) sc__law_folded.nd rfl (.inl rfl)) (pgs_cons (pg_name (i := 4) sc__law_folded.nd rfl (.inl rfl)) pgs_nil))) (pss_one (ps_asg (pe_op op_add (pe_ix ix_list (pv 2) (pe_op op_mod (pv 3) (pv 1)) (fun _ _ => rfl)) (pe_op op_mul (pv 4) (pe_op op_add (pv 3) pe_int))) (pg_sub (pv 2) (pe_op op_mod (pv 3) (pv 1)) set_list))))
    (pss_one (ps_ret (pe_op op_cat (pv 2) (pe_slice sl_list (pe_lst (pa_cons pe_int (pa_cons pe_int pa_nil))) (po_some (pe_callB call_len_seq (by rfl) T.m_len bt_len (pa_cons (pv 2) pa_nil))) po_none)))))), ?_⟩
    refine ⟨.ref a, rfl, .int m, rfl, m, rfl, a, _, rfl, hS, fun c nc => ?_⟩
    rw [cut_take]
    have s1 : Same H (upd H c (.lst ((ns.take m).map V.int))) := same_upd nc
    refine ⟨c, _, rfl, .inl (SqL.mk upd_same), fun l nl => ?_⟩
    have s2 := s1.trans (same_upd nl (o := .lst ((ns.take m).map V.int)))
    refine ⟨.ref a, rfl, .int m, rfl, m, rfl, 63, rfl, a, _, rfl, s2.seq hS, fun d nd => ?_⟩
    obtain ⟨ms, em, hms, hms2⟩ := cut_rest ns m 63
    rw [show (63 : Int) = ((63 : Nat) : Int) from rfl, em]
    have nl0 : H l = none := s1.free nl
    have nd0 : H d = none := s2.free nd
    have ndl : l ≠ d := fun e => by
      rw [← e, upd_same] at nd
      cases nd
    refine ⟨d, _, rfl, SqL.mk upd_same, for_it (walk_enum (xs := ms.map V.int)) (fun i σ H3 => ∃ y3 y4, ∃ cs : List Int, σ = [some (.ref a), some (.int m), some (.ref l), y3, y4] ∧ Same H H3 ∧ H3 l = some (.lst (cs.map V.int)) ∧ cs.length = (ns.take m).length ∧ H3 d = some (.lst (ms.map V.int))) ⟨none, none, ns.take m, rfl, s2.trans (same_upd nd), ?_, rfl, upd_same⟩ ?_ ?_ ?_⟩
    · rw [upd_ne ndl, upd_same]
    · rintro i σ H3 hi ⟨y3, y4, cs, rfl, s3, hl, hc, hd⟩
      exact SqL.mk hd
    · rintro i x σ H3 H4 hi ⟨y3, y4, cs, rfl, s3, hl, hc, hd⟩ ⟨t, x1, x2, rfl, nt, rfl, e1, e2⟩
      rw [List.length_map] at hi
      have lm : m < ns.length := hms (by omega)
      have lc : cs.length = m := by
        rw [hc, List.length_take]
        omega
      have ex1 : x1 = .int (i : Nat) := (Option.some.inj e1).symm
      have ex2 : x2 = .int ms[i] := by
        have e2 : (ms.map V.int)[i]? = some x2 := e2
        rw [List.getElem?_map, List.getElem?_eq_getElem hi] at e2
        exact (Option.some.inj e2).symm
      subst ex1 ex2
      have hl1 : (upd H3 t (.tup [.int (i : Nat), .int ms[i]])) l = some (.lst (cs.map V.int)) := by
        rw [upd_ne (ne_of_none hl nt)]
        exact hl
      have him : i % m < cs.length := by
        rw [lc]
        exact Nat.mod_lt _ hm
      have eim : ((i : Int) % (m : Int)) = ((i % m : Nat) : Int) := by omega
      refine ⟨t, _, rfl, SqT.mk upd_same, rfl, _, _, rfl, _, _, rfl, rfl, ?_⟩
      refine ⟨.ref l, rfl, .int (i : Nat), rfl, .int m, rfl, _, _, rfl, rfl, (show (0 : Int) < (m : Int) by omega), l, _, _, .int cs[i % m], rfl, rfl, SqL.mk hl1, ?_, .int ms[i], rfl, .int (i : Nat), rfl, _, _, rfl, rfl, _, _, rfl, rfl, .inr ⟨by omega, by omega⟩, _, _, rfl, rfl, .ref l, rfl, .int (i : Nat), rfl, .int m, rfl, _, _, rfl, rfl, (show (0 : Int) < (m : Int) by omega), l, _, _, i % m, rfl, rfl, hl1, ?_, ?_⟩
      · rw [eim]
        exact atI_nat (by rw [List.getElem?_map, List.getElem?_eq_getElem him]; rfl)
      · rw [eim]
        exact ixn (by rw [List.length_map]; exact him)
      · refine ⟨_, _, cs.set (i % m) (cs[i % m] + ms[i] * ((i : Int) + 2)), rfl, same_newer (s3.trans (same_upd nt)) nl0, ?_, by rw [List.length_set, hc], ?_⟩
        · rw [upd_same, List.map_set]
        · rw [upd_ne ndl.symm, upd_ne (ne_of_none hd nt)]
          exact hd
    · rintro σ H3 ⟨y3, y4, cs, rfl, s3, hl, hc, hd⟩
      obtain ⟨ms2, em2, l2⟩ := cut_fr2 ([5, 8] : List Int) cs.length
      refine ⟨.ref l, rfl, (show 2 ≤ sizeLine by decide), fun e ne => ?_⟩
      have hl1 := (same_upd ne (o := .lst [.int 5, .int 8])) _ _ hl
      refine ⟨.ref l, rfl, l, _, rfl, .inl (SqL.mk hl1), _, rfl, e, _, rfl, SqL.mk upd_same, fun g ng => ?_⟩
      rw [List.length_map, show [V.int 5, V.int 8] = ([5, 8] : List Int).map V.int from rfl, em2]
      have hsl : sizeLine = 16777216 := by decide
      have lt := List.length_take (l := ns) (i := m)
      refine ⟨l, g, _, _, rfl, rfl, (same_upd ng) _ _ hl1, upd_same, ?_, fun r nr => ?_⟩
      · rw [List.length_map, List.length_map]
        have : ms2.length ≤ 2 := l2
        omega
      refine q _ r (cs ++ ms2) ((s3.trans (same_upd ne)).trans ((same_upd ng).trans (same_upd nr))) ?_ ?_ ?_
      · exact s3.free ((same_upd ne).free ((same_upd ng).free nr))
      · rw [upd_same, List.map_append]
      · rw [List.length_append]
        have : ms2.length ≤ 2 := l2
        omega
/-! the program's own -/
theorem op_fdivNW {X : Cx} : OpR X (binaryOp .FloorDiv) (rI (fun _ j => j ≠ 0 ∧ j.natAbs.log2 < 9000) fun i j => .int (i.fdiv j)) := opI fun _ _ _ _ _ _ _ hc q => floordiv_int hc.1 q (.inl (PyProof.noPylong_of_log2 hc.2))
theorem gcd_step (x y : Nat) : Nat.gcd y (x % y) = Nat.gcd x y := by
  rw [Nat.gcd_comm y, ← Nat.gcd_rec, Nat.gcd_comm]
theorem gcd_small {t b : Int} (hb : b ≠ 0) (h : S 4000 b) : (Int.gcd t b : Int).natAbs.log2 < 9000 := by
  have h1 : Int.gcd t b ≤ b.natAbs := Nat.le_of_dvd (by omega) (Nat.gcd_dvd_right _ _)
  have h2 : 0 < Int.gcd t b := Int.gcd_pos_of_ne_zero_right t hb
  exact (wide_div (i := 0) (j := (Int.gcd t b : Int)) (b := 4000) (by omega) (by rw [Int.natAbs_natCast]; exact Nat.lt_of_le_of_lt h1 h) (by decide) (by decide)).2
def sp_common_divisor (_ : PySem.W.Frag) : Sp := fun vs H Q _ => ∃ a b : Int, vs = [.int a, .int b] ∧ Q (.int (if (1 : Int) > (Int.gcd a b : Int) then 1 else (Int.gcd a b : Int))) H
theorem ok_common_divisor (T : Defs K mg) : FnOk P w K mg base CX0 1 T.f_common_divisor T.fd_common_divisor ["one", "other"] (sp_common_divisor K) := by
  refine T.F_common_divisor.ok sc_common_divisor (fun vs H Q E h => ?_) (fun cdv A outer s H vs Q E hr h => ?_)
  · obtain ⟨a, b, rfl, q⟩ := h
    rfl
  · obtain ⟨a, b, rfl, q⟩ := h
    refine ⟨_, PSs.nox (pss_cons (ps_set (i := 0) sc_common_divisor.nd rfl (.inl rfl) (pe_callB call_abs (by rfl) T.m_abs bt_abs (pa_cons (pv 0) pa_nil)))
    (pss_cons (ps_set (i := 1) sc_common_divisor.nd rfl (.inl rfl) (pe_callB call_abs (by rfl) T.m_abs bt_abs (pa_cons (pv 1) pa_nil)))
    (pss_cons (ps_while PassesOwn.never (pt_cmpR op_gt (pv 1) pe_int (nomark _)) (pss_one (ps_par (i := 0) (j := 1) (by rfl) sc_common_divisor.nd rfl rfl (by decide) rfl rfl (pa_cons (pv 1) (pa_cons (pe_op op_mod (pv 0) (pv 1)) pa_nil)) (by rfl))))
    (pss_one (ps_ret (pe_callB (call_max2 rfl) (by rfl) T.m_max bt_max (pa_cons (pv 0) (pa_cons pe_int pa_nil)))))))), ?_⟩
    refine ⟨.int a, rfl, a, rfl, .int b, rfl, b, rfl, ?_⟩
    refine while_by (fun σ H1 => H1 = H ∧ ∃ x y : Nat, σ = [some (.int (x : Nat)), some (.int (y : Nat))] ∧ Nat.gcd x y = Int.gcd a b) (fun σ _ => match σ with | [_, some (.int y)] => y.toNat | _ => 0) ⟨rfl, a.natAbs, b.natAbs, ?_, rfl⟩ ?_ ?_
    · rw [abs_eq, abs_eq]
      rfl
    · rintro σ H1 ⟨rfl, x, y, rfl, hg⟩
      refine ⟨.int (y : Nat), rfl, _, _, rfl, rfl, _, rfl, ite2 (fun e => ?_) (fun e => ?_)⟩
      · have hy : (0 : Int) < (y : Int) := of_decide_eq_true e
        refine ⟨.int (y : Nat), rfl, .int (x : Nat), rfl, .int (y : Nat), rfl, _, _, rfl, rfl, hy, _, _, rfl, ⟨rfl, y, x % y, ?_, ?_⟩, ?_⟩
        · rfl
        · rw [gcd_step, hg]
        · show ((x : Int) % (y : Int)).toNat < ((y : Int)).toNat
          have := Int.emod_lt_of_pos (x : Int) hy
          have := Int.emod_nonneg (x : Int) (show (y : Int) ≠ 0 by omega)
          omega
      · have hy : ¬ (0 : Int) < (y : Int) := fun z => e (decide_eq_true z)
        have y0 : y = 0 := by omega
        subst y0
        rw [Nat.gcd_zero_right] at hg
        refine ⟨.int (x : Nat), rfl, _, _, rfl, ?_⟩
        rw [hg]
        exact q
    · rintro σ H1 Q1 Q2 hQ ⟨v, hv, i, j, e1, e2, k, e3, h3⟩
      exact ⟨v, hv, i, j, e1, e2, k, e3, hQ _ _ h3⟩
def sp_fraction (_ : PySem.W.Frag) : Sp := fun vs H Q _ => ∃ t b : Int, vs = [.int t, .int b] ∧ b ≠ 0 ∧ S 4000 b ∧ ∀ H' p, Same H H' → H p = none → H' p = some (.tup [.int (frT t b), .int (frB t b)]) → Q (.ref p) H'
theorem ok_fraction (T : Defs K mg) : FnOk P w K mg base CX0 2 T.f_fraction T.fd_fraction ["top", "bottom"] (sp_fraction K) := by
  have G_common_divisor : FnOk P w K mg base CX0 1 T.f_common_divisor T.fd_common_divisor ["one", "other"] (sp_common_divisor K) := ok_common_divisor T
  refine T.F_fraction.ok sc_fraction (fun vs H Q E h => ?_) (fun cdv A outer s H vs Q E hr h => ?_)
  · obtain ⟨t, b, rfl, hb, hs, q⟩ := h
    rfl
  · obtain ⟨t, b, rfl, hb, hs, q⟩ := h
    refine ⟨_, PSs.nox (pss_cons (ps_set (i := 2) sc_fraction.nd rfl (.inl rfl) (pe_call G_common_divisor (hr.mono (by decide)) (by rfl) T.g_common_divisor T.F_common_divisor.kp T.b_common_divisor .nil pass0 (pa_cons (pv 0) (pa_cons (pv 1) pa_nil))))
    (pss_cons (ps_if (pt_cmpR op_lt (pv 1) pe_int (nomark _)) (pss_one (ps_set (i := 2) sc_fraction.nd rfl (.inl rfl) (pe_un un_neg (pv 2)))) pss_nil)
    (pss_one (ps_ret (pe_tup (pa_cons (pe_op op_fdivNW (pv 0) (pv 2)) (pa_cons (pe_op op_fdivNW (pv 1) (pv 2)) pa_nil))))))), ?_⟩
    have hg : 0 < Int.gcd t b := Int.gcd_pos_of_ne_zero_right t hb
    have hd := gcd_small (t := t) hb hs
    refine ⟨.int t, rfl, .int b, rfl, t, b, rfl, ?_⟩
    rw [if_neg (show ¬ (1 : Int) > (Int.gcd t b : Int) by omega)]
    refine ⟨.int b, rfl, _, _, rfl, rfl, _, rfl, ite2 (fun e => ?_) (fun e => ?_)⟩
    · have hb1 : b < 0 := of_decide_eq_true e
      refine ⟨_, rfl, _, rfl, .int t, rfl, _, rfl, _, _, rfl, rfl, ⟨by omega, by rw [Int.natAbs_neg]; exact hd⟩, .int b, rfl, _, rfl, _, _, rfl, rfl, ⟨by omega, by rw [Int.natAbs_neg]; exact hd⟩, (show 2 ≤ sizeLine by decide), fun p np => ?_⟩
      refine q _ p (same_upd np) np ?_
      rw [upd_same]
      exact congrArg some (by rw [← (fr_lt t hb1).1, ← (fr_lt t hb1).2])
    · have hb1 : ¬ b < 0 := fun z => e (decide_eq_true z)
      refine ⟨.int t, rfl, _, rfl, _, _, rfl, rfl, ⟨by omega, hd⟩, .int b, rfl, _, rfl, _, _, rfl, rfl, ⟨by omega, hd⟩, (show 2 ≤ sizeLine by decide), fun p np => ?_⟩
      refine q _ p (same_upd np) np ?_
      rw [upd_same]
      exact congrArg some (by rw [← (fr_ge t (show 0 < b by omega)).1, ← (fr_ge t (show 0 < b by omega)).2])
/-! match x: case (word, names ..) -/
abbrev TCs := Addr → List V → TS
structure PCs (X : Cx) (cs : List MatchCase) (t : TCs) : Prop where
  run : ∀ (pins : List (Addr × Obj)) (s : Shared) (σ : L2.St) (H : Hp) (D : L2.Ends) (a : Addr) (xs : List V) (first : Bool), Inv X pins σ H s → SqT X.K H a xs → t a xs D σ H →
    wpAny (model X.prog X.w) X.A (matchCases cs X.env (.ref a) first) (SP X pins D) X.xe s
def tMatch (K : PySem.W.Frag) (te : TE) (tc : TCs) : TS := fun D σ H => te σ H fun v H1 => ∃ a xs, v = .ref a ∧ SqT K H1 a xs ∧ tc a xs D σ H1
theorem ps_match {X : Cx} {e : Expr} {cs : List MatchCase} {pos : Pos} {te : TE} {tc : TCs} (he : PE X e te) (hc : PCs X cs tc) : PS X (.Match e cs pos) (tMatch X.K te tc) := by
  refine ⟨fun pins s σ H D I h => ?_⟩
  refine wpAny_Match (thn (he.run pins s σ H _ I h) fun v s1 ⟨x, H1, I1, r1, a, xs, e1, hq, q⟩ => ?_)
  subst e1
  cases r1
  exact hc.run pins s1 σ H1 D a xs true I1 hq q
theorem pcs_nil {X : Cx} : PCs X [] (fun _ _ D σ H => D.nx σ H) := ⟨fun _ _ σ H _ _ _ _ I _ h => wpAny_matchCases_nil ⟨σ, H, I, h⟩⟩
theorem pcs_any {X : Cx} {body : List Stmt} {rest : List MatchCase} {pos : Pos} {tb : TS} (hb : PSs X body tb) : PCs X (⟨.MatchAs none none pos, none, body⟩ :: rest) (fun _ _ => tb) := by
  refine ⟨fun pins s σ H D a xs first I hq h => wpAny_matchCases_cons (wpAny_matchPattern_Capture ?_)⟩
  exact wpAny_assignInOrder_none (hb.run pins s σ H D I h)
/-- the slots i .. get the values .. in turn -/
def sets (σ : L2.St) : List Nat → List V → L2.St
  | i :: is, v :: vs => sets (σ.set i (some v)) is vs
  | _, _ => σ
structure PCap (X : Cx) (ps : List Pattern) (ns : List (Nat × Str)) : Prop where
  each : ∀ (s : Shared) (us : List Value) (Q : Option (List (Str × Value)) → Shared → Prop), us.length = ns.length → Q (some (List.zipWith (fun n u => (n.2, u)) ns us)) s → wpAny (model X.prog X.w) X.A (matchEach ps X.env us) Q X.xe s
  slot : ∀ n, n ∈ ns → X.N[n.1]? = some n.2 ∧ Loc X.env.scope n.2 ∧ (X.fn n.2 = true ∨ X.env.scope.names.lookup n.2 = some .local)
  len : ps.length = ns.length
theorem pcap_nil {X : Cx} : PCap X [] [] := ⟨fun s us Q hl h => wpAny_matchEach_nil (by
  rw [show us = [] from List.eq_nil_of_length_eq_zero hl] at h
  exact h), fun n hn => (by cases hn), rfl⟩
theorem pcap_cons {X : Cx} {i : Nat} {x : Str} {pos : Pos} {ps : List Pattern} {ns : List (Nat × Str)} (hi : X.N[i]? = some x) (hx : Loc X.env.scope x) (h : PCap X ps ns) (hf : X.fn x = true ∨ X.env.scope.names.lookup x = some .local := by first | exact .inl rfl | exact .inr rfl | assumption) :
    PCap X (.MatchAs none (some x) pos :: ps) ((i, x) :: ns) := by
  refine ⟨fun s us Q hl hQ => ?_, fun n hn => ?_, ?_⟩
  · match us, hl with
    | u :: us, hl =>
      refine wpAny_matchEach_cons (wpAny_matchPattern_Capture ?_)
      refine h.each s us _ (Nat.succ.inj hl) ?_
      exact hQ
  · rcases List.mem_cons.mp hn with rfl | hn
    · exact ⟨hi, hx, hf⟩
    · exact h.slot n hn
  · rw [List.length_cons, List.length_cons, h.len]
theorem bind_all {X : Cx} {pins : List (Addr × Obj)} {H : Hp} (hN : X.N.Nodup) : ∀ (ns : List (Nat × Str)) (us : List Value) (vs : List V) (σ : L2.St) (s : Shared) (Q : Unit → Shared → Prop),
    (∀ n, n ∈ ns → X.N[n.1]? = some n.2 ∧ Loc X.env.scope n.2 ∧ (X.fn n.2 = true ∨ X.env.scope.names.lookup n.2 = some .local)) → us.length = ns.length → Vals vs us → Inv X pins σ H s → (∀ s', Inv X pins (sets σ (ns.map Prod.fst) vs) H s' → Q () s') →
    wpAny (model X.prog X.w) X.A (assignInOrder ((List.zipWith (fun (n : Nat × Str) u => (n.2, u)) ns us).map fun (n, _) => bindName X.env n) ((List.zipWith (fun (n : Nat × Str) u => (n.2, u)) ns us).map (·.2))) Q X.xe s
  | [], us, vs, σ, s, Q, _, hl, r, I, q => by
    have e : us = [] := List.eq_nil_of_length_eq_zero hl
    subst e
    cases r
    exact wpAny_assignInOrder_none (q s I)
  | n :: ns, us, vs, σ, s, Q, hs, hl, r, I, q => by
    match us, vs, hl, r with
    | u :: us, v :: vs, hl, .cons r1 r2 =>
      obtain ⟨h1, h2, h3⟩ := hs n List.mem_cons_self
      refine wpAny_assignInOrder_more (wpAny_bindName (store_ok I hN h1 h2 r1 (fun s1 I1 => ?_) h3))
      exact bind_all hN ns us vs _ s1 Q (fun m hm => hs m (List.mem_cons_of_mem _ hm)) (Nat.succ.inj hl) r2 I1 q
def tCase (word : Str) (is : List Nat) (tb : TS) (rest : TCs) : TCs := fun a xs D σ H =>
  (xs.length ≠ is.length + 1 ∧ rest a xs D σ H) ∨ ∃ z ys, xs = .str z :: ys ∧ ys.length = is.length ∧ ((z = word ∧ tb D (sets σ is ys) H) ∨ (z ≠ word ∧ rest a xs D σ H))
theorem pcs_seq {X : Cx} {e : Expr} {word : Str} {vp sp : Pos} {ps : List Pattern} {ns : List (Nat × Str)} {body : List Stmt} {rest : List MatchCase} {tb : TS} {tr : TCs} (hc : X.calm = true) (hN : X.N.Nodup) (hw : PE X e (tC (.str word))) (hcap : PCap X ps ns) (hb : PSs X body tb) (hr : PCs X rest tr)
    (hstar : (.MatchValue e vp :: ps).findIdx? (·.isStar) = none := by rfl) (hwild : ((.MatchValue e vp :: ps).all fun p => p.isWildcard || (p.isStar && p.names.isEmpty)) = false := by rfl) :
    PCs X (⟨.MatchSequence (.MatchValue e vp :: ps) sp, none, body⟩ :: rest) (tCase word (ns.map Prod.fst) tb tr) := by
  refine ⟨fun pins s σ H D a xs first I hq h => ?_⟩
  obtain ⟨its, rv, ht, hz⟩ := I.tuple hq
  have hl := rv.length
  have hsl : sizeLine = 16777216 := by decide
  have hfit : ((its.toArray.size : Nat) : Int) < 2 ^ 63 := by
    rw [List.size_toArray]
    omega
  have lp := hcap.len
  have miss : ∀ s', Inv X pins σ H s' → tr a xs D σ H → wpAny (model X.prog X.w) X.A (matchCases rest X.env (.ref a) false) (SP X pins D) X.xe s' := fun s' I' q => hr.run pins s' σ H D a xs false I' hq q
  refine wpAny_matchCases_cons ?_
  rcases h with ⟨hn, h⟩ | ⟨z, ys, rfl, hn, h⟩
  · rw [List.length_map] at hn
    refine matchSeq_tuple_miss ht hfit (by rw [List.size_toArray, List.length_cons]; omega) ?_ hstar hwild
    exact miss _ (I.kept (t' := s.toks + 1 + 1) fun b o q => q) h
  · rw [List.length_map] at hn
    rw [List.length_cons] at hl
    refine matchSeq_tuple_hit ht hfit (by rw [List.size_toArray, List.length_cons]; omega) ?_ hstar hwild
    have e1 : (Pattern.MatchValue e vp :: ps).length = its.toArray.size := by
      rw [List.size_toArray, List.length_cons]
      omega
    have key : ∀ s2 : Shared, Inv X pins σ H s2 → wpAny (model X.prog X.w) X.A (matchEach (.MatchValue e vp :: ps) X.env its) (fun r s₁ => match r with
        | none => wpAny (model X.prog X.w) X.A (matchCases rest X.env (.ref a) false) (SP X pins D) X.xe s₁
        | some bs => wpAny (model X.prog X.w) X.A (assignInOrder (bs.map fun (n, _) => bindName X.env n) (bs.map (·.2))) (fun _ s₂ => wpAny (model X.prog X.w) X.A (execs body X.env) (SP X pins D) X.xe s₂) X.xe s₁) X.xe s2 := fun s2 I1 => by
      clear e1 hfit hz ht
      match its, rv, hl with
      | u :: us, .cons r1 r2, hl =>
        refine wpAny_matchEach_cons (wpAny_matchPattern_Value ?_)
        refine thn (hw.run pins s2 σ H (fun v H' => v = .str word ∧ H' = H) I1 ⟨rfl, rfl⟩) fun c s3 ⟨x, H3, I3, r3, e3, e4⟩ => ?_
        subst e3 e4
        refine thn (op_eq pins s3 σ H3 (.str z) (.str word) u c (fun v H' => v = .bl (decide (V.str z = V.str word)) ∧ H' = H3) I3 r1 r3 ⟨rfl, rfl, rfl⟩) fun d s4 ⟨y, H4, I4, r4, e5, e6⟩ => ?_
        subst e5 e6
        obtain rfl : d = Value.bool (decide (V.str z = V.str word)) := r4
        refine wpAny_truthy_bool ?_
        rcases h with ⟨rfl, h⟩ | ⟨ne, h⟩
        · rw [if_pos (decide_eq_true rfl)]
          have ul : us.length = ns.length := by
            have := r2.length
            omega
          refine hcap.each s4 us _ ul ?_
          show wpAny _ _ (assignInOrder _ _) _ _ s4
          exact bind_all hN ns us ys σ s4 _ hcap.slot ul r2 I4 fun s5 I5 => hb.run pins s5 _ H4 D I5 h
        · rw [if_neg (fun y => ne (V.str.inj (of_decide_eq_true y)))]
          exact miss s4 I4 h
    rw [e1]
    refine unpackItems_tuple (I.ok.hd hc) ht fun h' hx => ?_
    have I1 : Inv X pins σ H { s with heap := h', toks := s.toks + 1 + 1 } := I.kept (t' := s.toks + 1 + 1) fun b o q => hx b o (Nat.ne_of_lt (Heap.lt_size q)) q
    refine key _ ?_
    exact I1
theorem nat_of {x : Int} (h : 0 ≤ x) : ∃ m : Nat, x = (m : Nat) := Int.eq_ofNat_of_zero_le h
/-! where a number stands first -/
theorem flat_ints (xs : List Int) : (xs.map V.int).all flatV = true := by
  rw [List.all_eq_true]
  intro x hx
  obtain ⟨i, _, rfl⟩ := List.mem_map.mp hx
  rfl
theorem in_ints (xs : List Int) (k : Int) : inV (.int k) (xs.map V.int) = decide (k ∈ xs) := by
  unfold inV
  rw [Bool.eq_iff_iff, List.any_eq_true, decide_eq_true_iff]
  constructor
  · rintro ⟨y, hy, e⟩
    obtain ⟨i, hi, rfl⟩ := List.mem_map.mp hy
    have : i = k := by
      have e : (i == k) = true := e
      exact eq_of_beq e
    rw [← this]
    exact hi
  · intro h
    exact ⟨_, List.mem_map.mpr ⟨k, h, rfl⟩, show (k == k) = true from beq_self_eq_true k⟩
theorem first_of {xs : List Int} {k : Int} : k ∈ xs → ∃ j : Nat, xs[j]? = some k ∧ ∀ m, m < j → xs[m]? ≠ some k := by
  induction xs with
  | nil => intro h; cases h
  | cons x r ih =>
    intro h
    by_cases e : x = k
    · exact ⟨0, by rw [e]; rfl, fun m hm => by omega⟩
    · rcases List.mem_cons.mp h with h | h
      · exact absurd h.symm e
      · obtain ⟨j, h1, h2⟩ := ih h
        refine ⟨j + 1, h1, fun m hm => ?_⟩
        cases m with
        | zero => exact fun z => e (Option.some.inj z)
        | succ m => exact h2 m (by omega)
theorem u1 {k : Nat} {A : Around} (r : Room k A) : A.units + 1 < cLine := by
  have := r.un
  omega
theorem lcK {X : Cx} {K : PySem.W.Frag} (h : X.K = K) : MtR X "list.count" (rCntI K) := by
  subst h
  exact mt_lcount
theorem pe_bmK {X : Cx} {K : PySem.W.Frag} {T id : String} {name : Str} {r : V → List V → Hp → VK → Prop} {o e : Expr} {es : List Expr} {to : TE} {t : TA} {apos cpos : Pos} (pa : PlainAttrs T) (slot : Slot T name id) (hty : typeOf (.builtin id) = pure (.type "method_descriptor")) (hm : MtR X id r) (ho : PE X o to) (ha : PA X (e :: es) t) (hk : X.K = K := by rfl)
    (hbase : attributeBase o name X.env (eval o X.env) = eval o X.env := by rfl)
    (hfew : ((backTo cpos (starEach (e :: es) X.env)).all (fun x => !x.1) && (backToKw cpos (keywordEach [] X.env)).all (fun x => x.1.isSome) && decide ((e :: es).length + ([] : List Keyword).length + (if ([] : List Keyword).isEmpty then 0 else 1) < 30)) = true := by rfl)
    (hline : (apos.endLine == cpos.line) = true := by rfl) (hs : starEach (e :: es) X.env = (false, eval e X.env) :: starEach es X.env := by rfl) (hplain : (backTo cpos (starEach es X.env)).any (·.1) = false := by rfl) :
    PE X (.Call (.Attribute o name apos) (e :: es) [] cpos) (tBM K T r to t) := by
  subst hk
  exact pe_bm pa slot hty hm ho ha hbase hfew hline hs hplain
/-! heaps with tables -/
theorem trip0 : TriplesOk (#[] : Array Value).toList := trivial
structure Sam (H H' : Hp) : Prop where
  obj : ∀ b o, (∀ ps, o ≠ .tbl ps) → H b = some o → H' b = some o
  tab : ∀ b ps, H b = some (.tbl ps) → ∃ ps', H' b = some (.tbl ps') ∧ (TriplesOk ps.toList → TriplesOk ps'.toList)
theorem Sam.of {H H' : Hp} (s : Same H H') : Sam H H' := ⟨fun b o _ e => s b o e, fun b ps e => ⟨ps, s b _ e, fun z => z⟩⟩
theorem Sam.refl (H : Hp) : Sam H H := .of (Same.refl H)
theorem Sam.trans {H H1 H2 : Hp} (a : Sam H H1) (b : Sam H1 H2) : Sam H H2 := ⟨fun c o n e => b.obj c o n (a.obj c o n e), fun c ps e => by
  obtain ⟨p1, e1, t1⟩ := a.tab c ps e
  obtain ⟨p2, e2, t2⟩ := b.tab c p1 e1
  exact ⟨p2, e2, fun z => t2 (t1 z)⟩⟩
theorem Sam.tabG {H H' : Hp} {P : Addr} (a : Sam H H') (t : GxR.TabG H P) : GxR.TabG H' P := by
  obtain ⟨ps, e, z⟩ := t
  obtain ⟨p1, e1, t1⟩ := a.tab P ps e
  exact ⟨p1, e1, t1 z⟩
theorem Sam.tup {H H' : Hp} {a : Addr} {xs : List V} (s : Sam H H') (h : H a = some (.tup xs)) : H' a = some (.tup xs) := s.obj _ _ (fun _ z => by cases z) h
theorem Sam.lst {H H' : Hp} {a : Addr} {xs : List V} (s : Sam H H') (h : H a = some (.lst xs)) : H' a = some (.lst xs) := s.obj _ _ (fun _ z => by cases z) h
theorem Sam.free {H H' : Hp} (s : Sam H H') {l : Addr} (h : H' l = none) : H l = none := by
  cases q : H l with
  | none => rfl
  | some o =>
    cases o with
    | tbl ps =>
      obtain ⟨p1, e1, _⟩ := s.tab l ps q
      rw [e1] at h
      cases h
    | _ =>
      rw [s.obj l _ (fun _ z => by cases z) q] at h
      cases h
theorem Sam.tabbed {P : Addr} {H H' : Hp} (g : GxR.TabG H P) (t : GxR.Tabbed P H H') : Sam H H' := by
  obtain ⟨⟨p1, e1, z1⟩, k⟩ := t
  obtain ⟨p0, e0, _⟩ := g
  refine ⟨fun b o n e => ?_, fun b ps e => ?_⟩
  · by_cases hb : b = P
    · rw [hb, e0] at e
      exact absurd (Option.some.inj e).symm (n p0)
    · rw [k b hb]
      exact e
  · by_cases hb : b = P
    · rw [hb]
      exact ⟨p1, e1, fun _ => z1⟩
    · exact ⟨ps, by rw [k b hb]; exact e, fun z => z⟩
theorem sam_newer {H H' : Hp} {q : Addr} {o : HO} (a : Sam H H') (n : H q = none) : Sam H (upd H' q o) := ⟨fun c x hx e => by
    rw [upd_ne (ne_of_none e n)]
    exact a.obj c x hx e, fun c ps e => by
    obtain ⟨p1, e1, t1⟩ := a.tab c ps e
    exact ⟨p1, by rw [upd_ne (ne_of_none e n)]; exact e1, t1⟩⟩
/-- all but the box stays, tables grow -/
structure Bus (p : Addr) (H H' : Hp) : Prop where
  obj : ∀ b o, b ≠ p → (∀ ps, o ≠ .tbl ps) → H b = some o → H' b = some o
  tab : ∀ b ps, b ≠ p → H b = some (.tbl ps) → ∃ ps', H' b = some (.tbl ps') ∧ (TriplesOk ps.toList → TriplesOk ps'.toList)
theorem Bus.of {p : Addr} {H H' : Hp} (s : But p H H') : Bus p H H' := ⟨fun b o n _ e => s b o n e, fun b ps n e => ⟨ps, s b _ n e, fun z => z⟩⟩
theorem Bus.sam {p : Addr} {H H' : Hp} (s : Sam H H') : Bus p H H' := ⟨fun b o _ n e => s.obj b o n e, fun b ps _ e => s.tab b ps e⟩
theorem Bus.refl (p : Addr) (H : Hp) : Bus p H H := .of (But.refl p H)
theorem Bus.trans {p : Addr} {H H1 H2 : Hp} (a : Bus p H H1) (b : Bus p H1 H2) : Bus p H H2 := ⟨fun c o h n e => b.obj c o h n (a.obj c o h n e), fun c ps h e => by
  obtain ⟨p1, e1, t1⟩ := a.tab c ps h e
  obtain ⟨p2, e2, t2⟩ := b.tab c p1 h e1
  exact ⟨p2, e2, fun z => t2 (t1 z)⟩⟩
theorem Bus.tup {p : Addr} {H H' : Hp} {n : Nat} {a : Addr} {xs : List V} (s : Bus p H H') (B : Bx H p n) (h : H a = some (.tup xs)) : H' a = some (.tup xs) := s.obj _ _ (B.ne_tup h) (fun _ z => by cases z) h
theorem Bus.lst {p : Addr} {H H' : Hp} {a : Addr} {xs : List V} (s : Bus p H H') (ne : a ≠ p) (h : H a = some (.lst xs)) : H' a = some (.lst xs) := s.obj _ _ ne (fun _ z => by cases z) h
theorem Bus.tabG {p : Addr} {H H' : Hp} {n : Nat} {P : Addr} (s : Bus p H H') (B : Bx H p n) (t : GxR.TabG H P) : GxR.TabG H' P := by
  obtain ⟨ps, e, z⟩ := t
  obtain ⟨a, b, c, hp, _⟩ := B
  obtain ⟨p1, e1, t1⟩ := s.tab P ps (ne_of e hp (fun z => by cases z)) e
  exact ⟨p1, e1, t1 z⟩
theorem Bus.new {p q : Addr} {H H' : Hp} {o : HO} (a : Bus p H H') (n : H' q = none) : Bus p H (upd H' q o) := a.trans (.of ((But.refl p H').new n))
/-- a thing made since H may change -/
theorem bus_newer {p q : Addr} {H H' : Hp} {o : HO} (a : Bus p H H') (n : H q = none) : Bus p H (upd H' q o) := ⟨fun c x h hx e => by
    rw [upd_ne (ne_of_none e n)]
    exact a.obj c x h hx e, fun c ps h e => by
    obtain ⟨p1, e1, t1⟩ := a.tab c ps h e
    exact ⟨p1, by rw [upd_ne (ne_of_none e n)]; exact e1, t1⟩⟩
theorem Bus.free {p : Addr} {H H' : Hp} {n : Nat} (s : Bus p H H') (B : Bx H p n) (B' : ∃ m, Bx H' p m) {l : Addr} (h : H' l = none) : H l = none := by
  cases q : H l with
  | none => rfl
  | some o =>
    have nl : l ≠ p := fun z => by
      obtain ⟨m, _, _, _, hp, _⟩ := B'
      rw [z, hp] at h
      cases h
    cases o with
    | tbl ps =>
      obtain ⟨p1, e1, _⟩ := s.tab l ps nl q
      rw [e1] at h
      cases h
    | _ =>
      rw [s.obj l _ nl (fun _ z => by cases z) q] at h
      cases h
theorem Bx.sam {H H' : Hp} {p : Addr} {n : Nat} (h : Bx H p n) (s : Sam H H') : Bx H' p n := by
  obtain ⟨a, b, c, hp, r⟩ := h
  exact ⟨a, b, c, s.lst hp, r⟩
theorem bus_same {p : Addr} {H H1 H2 : Hp} (n : H p = none) (a : Sam H H1) (b : Bus p H1 H2) : Sam H H2 := ⟨fun c x h e => b.obj c x (ne_of_none e n) h (a.obj c x h e), fun c ps e => by
  obtain ⟨p1, e1, t1⟩ := a.tab c ps e
  obtain ⟨p2, e2, t2⟩ := b.tab c p1 (ne_of_none e n) e1
  exact ⟨p2, e2, fun z => t2 (t1 z)⟩⟩
theorem ne_new {H : Hp} {p q : Addr} {n : Nat} (B : Bx H p n) (nq : H q = none) : q ≠ p := fun e => by
  obtain ⟨_, _, _, hp, _⟩ := B
  rw [e, hp] at nq
  cases nq
/-! a tuple so many times -/
theorem tuple_once (l : Addr) (items : Array Value) (n : Nat) (dd : Option Addr) (sl : Array (Option Value)) (u : Tok) :
    Meets (Builtin.«tuple.__mul__» ⟨[.ref l, .int 1 u], []⟩) (fun _ R s => s.heap.get? l = some { cls := .type "tuple", dict := dd, data := .seq items n, slots := sl } ∧ R (.ok (.ret (Value.ref l))) { s with toks := s.toks }) :=
  .of_wp fun prog w A R s h => by
    obtain ⟨hp, g, d, tk, os⟩ := s
    obtain ⟨hl, h⟩ := h
    have f1 := AutoSeq1.idx_int
    have c1 : (items.isEmpty || (1 : Int) == 1) = true := by simp
    wp_walk using wpAny_loadPart' hl
    repeat (first
      | (refine wpAny_ite_true (decide_eq_true c1) ?_; wp_walk using wpAny_loadPart' hl)
      | (refine wpAny_ite_false (decide_eq_false (by decide)) ?_; wp_walk using wpAny_loadPart' hl))
    exact ⟨_, rfl, h⟩
def rRepA (K : PySem.W.Frag) : R2 := fun x y H Q => ∃ (l : Addr) (k : Nat) (xs : List V), x = .ref l ∧ y = .int (k : Nat) ∧ SqT K H l xs ∧ xs ≠ [] ∧ 1 ≤ k ∧ xs.length * k ≤ 1000000 ∧ (k = 1 → Q (.ref l) H) ∧
  (2 ≤ k → ∀ p, H p = none → Q (.ref p) (upd H p (.tup (List.replicate k xs).flatten)))
theorem op_repA {X : Cx} : OpR X (binaryOp .Mult) (rRepA X.K) := by
  intro pins s σ H x y v u Q I rx ry h
  obtain ⟨l, k, xs, rfl, rfl, hT, hne, h1, hz, q1, q2⟩ := h
  cases rx
  obtain ⟨t, rfl⟩ := ry
  obtain ⟨its, r, ⟨⟨cls, dd, data, sl⟩, ho, hc, n, hd⟩, hs⟩ := I.tuple hT
  simp only at hc hd
  subst hc hd
  have lx : 0 < xs.length := List.length_pos_iff.mpr hne
  have le : its.length = xs.length := r.length.symm
  have ke : k * xs.length ≤ 1000000 := by
    rw [Nat.mul_comm]
    exact hz
  have kl : k ≤ 1000000 := Nat.le_trans (Nat.le_mul_of_pos_right k lx) ke
  have ne : its.toArray.isEmpty = false := by
    cases its with
    | nil =>
      rw [← le] at lx
      cases lx
    | cons a b => rfl
  by_cases k1 : k = 1
  · subst k1
    refine wpAny_binaryOp_repeat_ref (T := "tuple") (U := "int") (by decide) ⟨_, ho, rfl⟩ (fun s' => typeIs_int s' _ t) noFill_tuple_mul F.fills_int_mul F.slot_int_rmul repeat_tuple F.slot_int_index.lookup
      (call_meets F.slot_int_rmul (typeIs_int s _ t) F.entry_int_rmul (F.args_int_rmul_2 _ _) (int_rmul_tuple _ t l its.toArray n dd sl)
        ⟨ho, rfl, ⟨_, ho, rfl⟩, call_meets F.slot_tuple_mul ⟨_, ho, rfl⟩ F.entry_tuple_mul (F.args_tuple_mul_2 _ _) (tuple_once l its.toArray n dd sl t) ⟨ho, ?_⟩⟩)
    exact ⟨.ref l, H, I, rfl, q1 rfl⟩
  · have k2 : 2 ≤ k := by omega
    have sz : its.toArray.size = xs.length := by rw [List.size_toArray, le]
    have pr : ((its.toArray.size : Nat) : Int) * (k : Int) ≤ 1000000 := by
      rw [sz, ← Int.natCast_mul]
      omega
    have fl : (List.replicate k its).flatten.length ≤ sizeLine := by
      rw [PyProof.Rows.lm_len_rep_flat, le, sizeLine_eq]
      omega
    have d0 : (decide ((k : Int) < -(2 ^ 63)) || decide ((k : Int) ≥ 2 ^ 63)) = false := by
      rw [decide_eq_false (show ¬ (k : Int) < -(2 ^ 63) by omega), decide_eq_false (show ¬ (k : Int) ≥ 2 ^ 63 by omega)] <;> rfl
    have d1 : (its.toArray.isEmpty || (k : Int) == 1) = false := by
      rw [ne, Bool.false_or]
      exact beq_eq_false_iff_ne.mpr (by omega)
    have d2 : (decide ((k : Int) ≤ 0) || its.toArray.isEmpty) = false := by
      rw [ne, Bool.or_false]
      exact decide_eq_false (by omega)
    have d4 : Builtin.Tuple.tupleTooMany (((its.toArray.size : Nat) : Int) * (k : Int)) = false := by
      unfold Builtin.Tuple.tupleTooMany
      rw [sizeLine_eq]
      exact decide_eq_false (by omega)
    refine wpAny_binaryOp_repeat_ref (T := "tuple") (U := "int") (by decide) ⟨_, ho, rfl⟩ (fun s' => typeIs_int s' _ t) noFill_tuple_mul F.fills_int_mul F.slot_int_rmul repeat_tuple F.slot_int_index.lookup
      (call_meets F.slot_int_rmul (typeIs_int s _ t) F.entry_int_rmul (F.args_int_rmul_2 _ _) (int_rmul_tuple _ t l its.toArray n dd sl)
        ⟨ho, rfl, ⟨_, ho, rfl⟩, call_meets F.slot_tuple_mul ⟨_, ho, rfl⟩ F.entry_tuple_mul (F.args_tuple_mul_2 _ _) (tuple_mulW l its.toArray n dd sl (k : Int) t d0 d1 d2 (by omega) d4 (by rw [Int.toNat_natCast, size_rep, List.size_toArray]; exact fl)) ⟨ho, ?_⟩⟩)
    rw [Int.toNat_natCast, size_rep]
    refine ⟨.ref s.heap.objs.size, _, I.laid (t' := s.toks) (o := .tup (List.replicate k xs).flatten) (fun b ob q => Heap.get?_push_of_some _ q) (Nat.le_refl _) ⟨?_, _, r.rep k, IsTup.new _ _⟩, rfl, q2 k2 _ (I.hok.fresh (Nat.le_refl _))⟩
    rw [PyProof.Rows.lm_len_rep_flat, sizeLine_eq]
    omega
/-! the law's own rows -/
def Bits (rs : List Int) : Prop := ∀ x, x ∈ rs → x = 0 ∨ x = 1
theorem Bits.snoc {rs : List Int} {x : Int} (h : Bits rs) (hx : x = 0 ∨ x = 1) : Bits (rs ++ [x]) := fun y hy => by
  rcases List.mem_append.mp hy with hy | hy
  · exact h y hy
  · rw [List.mem_singleton] at hy
    rw [hy]
    exact hx
theorem but_newer {p q : Addr} {H H' : Hp} {o : HO} (a : But p H H') (n : H q = none) : But p H (upd H' q o) := fun c x hn e => by
  rw [upd_ne (ne_of_none e n)]
  exact a c x hn e
theorem Bx.other {H : Hp} {p q : Addr} {n : Nat} {o : HO} (h : Bx H p n) (nq : q ≠ p) : Bx (L2.upd H q o) p n := by
  obtain ⟨a, b, c, hp, r⟩ := h
  exact ⟨a, b, c, by rw [upd_ne (Ne.symm nq)]; exact hp, r⟩
def PV (p D : Addr) (HX : Hp) (k i : Nat) (H1 : Hp) : Prop := ∃ rs : List Int, rs.length = i ∧ Bits rs ∧ But p HX H1 ∧ Bx H1 p (k + i) ∧ H1 D = some (.lst (rs.map V.int))
theorem pv_start {p D : Addr} {HX : Hp} {k : Nat} (nD : HX D = none) (B : Bx HX p k) : PV p D HX k 0 (upd HX D (.lst [])) := ⟨[], rfl, fun _ h => (by cases h), (But.refl p HX).new nD, B.new nD, upd_same⟩
theorem pv_step {p D : Addr} {HX H1 H4 : Hp} {k i : Nat} {x : Int} (nD : HX D = none) (Dp : D ≠ p) (h : PV p D HX k i H1) (b : But p H1 H4) (B : Bx H4 p (k + (i + 1))) (hi : i < 100000) (hx : x = 0 ∨ x = 1) :
    ∃ acc, H4 D = some (.lst acc) ∧ acc.length < sizeLine ∧ PV p D HX k (i + 1) (upd H4 D (.lst (acc ++ [.int x]))) := by
  obtain ⟨rs, hl, hb, b1, _, hD⟩ := h
  have hsl : sizeLine = 16777216 := by decide
  refine ⟨_, b _ _ Dp hD, by rw [List.length_map]; omega, rs ++ [x], by rw [List.length_append, hl]; rfl, hb.snoc hx, but_newer (b1.trans b) nD, B.other Dp, ?_⟩
  rw [upd_same, List.map_append]
  rfl
theorem rep_one (m : Nat) (x : Int) : (List.replicate m [V.int x]).flatten = (List.replicate m x).map V.int := by
  rw [List.map_replicate]
  induction m with
  | zero => rfl
  | succ m ih => rw [List.replicate_succ, List.flatten_cons, ih, List.replicate_succ]; rfl
/-! a tuple no times, too -/
theorem tuple_nought (l : Addr) (items : Array Value) (n : Nat) (dd : Option Addr) (sl : Array (Option Value)) (u : Tok) (hi : items.isEmpty = false) :
    Meets (Builtin.«tuple.__mul__» ⟨[.ref l, .int 0 u], []⟩) (fun _ R s => s.heap.get? l = some { cls := .type "tuple", dict := dd, data := .seq items n, slots := sl } ∧ R (.ok (.ret (Value.ref s.heap.objs.size))) { s with heap := s.heap.push { cls := Value.type "tuple", data := Data.seq #[] }, toks := s.toks }) :=
  .of_wp fun prog w A R s h => by
    obtain ⟨hp, g, d, tk, os⟩ := s
    obtain ⟨hl, h⟩ := h
    have f1 := AutoSeq1.idx_int
    have c1 : (items.isEmpty || (0 : Int) == 1) = false := by rw [hi]; rfl
    have c2 : (decide ((0 : Int) ≤ 0) || items.isEmpty) = true := by simp
    wp_walk using wpAny_loadPart' hl
    repeat (first
      | (refine wpAny_ite_false (decide_eq_false (by rw [c1]; exact Bool.false_ne_true)) ?_; wp_walk using wpAny_loadPart' hl)
      | (refine wpAny_ite_true (decide_eq_true c2) ?_; wp_walk using wpAny_loadPart' hl)
      | (refine wpAny_ite_false (decide_eq_false (by decide)) ?_; wp_walk using wpAny_loadPart' hl))
    exact ⟨_, rfl, h⟩
def rRepB (K : PySem.W.Frag) : R2 := fun x y H Q => ∃ (l : Addr) (k : Nat) (xs : List V), x = .ref l ∧ y = .int (k : Nat) ∧ SqT K H l xs ∧ xs ≠ [] ∧ xs.length * k ≤ 1000000 ∧ (k = 1 → Q (.ref l) H) ∧
  (k ≠ 1 → ∀ p, H p = none → Q (.ref p) (upd H p (.tup (List.replicate k xs).flatten)))
theorem op_repB {X : Cx} : OpR X (binaryOp .Mult) (rRepB X.K) := by
  intro pins s σ H x y v u Q I rx ry h
  obtain ⟨l, k, xs, rfl, rfl, hT, hne, hz, q1, q2⟩ := h
  by_cases k0 : k = 0
  · subst k0
    cases rx
    obtain ⟨t, rfl⟩ := ry
    obtain ⟨its, r, ⟨⟨cls, dd, data, sl⟩, ho, hc, n, hd⟩, hs⟩ := I.tuple hT
    simp only at hc hd
    subst hc hd
    have le : its.length = xs.length := r.length.symm
    have ne : its.toArray.isEmpty = false := by
      cases its with
      | nil => exact absurd (List.eq_nil_of_length_eq_zero le.symm) hne
      | cons a b => rfl
    refine wpAny_binaryOp_repeat_ref (T := "tuple") (U := "int") (by decide) ⟨_, ho, rfl⟩ (fun s' => typeIs_int s' _ t) noFill_tuple_mul F.fills_int_mul F.slot_int_rmul repeat_tuple F.slot_int_index.lookup
      (call_meets F.slot_int_rmul (typeIs_int s _ t) F.entry_int_rmul (F.args_int_rmul_2 _ _) (int_rmul_tuple _ t l its.toArray n dd sl)
        ⟨ho, rfl, ⟨_, ho, rfl⟩, call_meets F.slot_tuple_mul ⟨_, ho, rfl⟩ F.entry_tuple_mul (F.args_tuple_mul_2 _ _) (tuple_nought l its.toArray n dd sl t ne) ⟨ho, ?_⟩⟩)
    exact ⟨.ref s.heap.objs.size, _, I.laid (t' := s.toks) (o := .tup []) (fun b ob q => Heap.get?_push_of_some _ q) (Nat.le_refl _) ⟨Nat.zero_le _, [], .nil, IsTup.new _ _⟩, rfl, q2 (by decide) _ (I.hok.fresh (Nat.le_refl _))⟩
  · exact op_repA pins s σ H _ _ v u Q I rx ry ⟨l, k, xs, rfl, rfl, hT, hne, by omega, hz, q1, fun z => q2 (by omega)⟩
/-- (x,) so many times -/
theorem rep_go {K : PySem.W.Frag} {H : Hp} {t : Addr} {x v : Int} {k : Nat} {Q : VK} (hv : v = (k : Nat)) (ht : H t = some (.tup [.int x])) (hk : k ≤ 100000) (q : ∀ H' p, Same H H' → H' p = some (.tup ((List.replicate k x).map V.int)) → Q (.ref p) H') : rRepB K (.ref t) (.int v) H Q := by
  subst hv
  refine ⟨t, k, _, rfl, rfl, SqT.mk ht, by simp, (show 1 * k ≤ 1000000 by omega), fun z => ?_, fun z p np => ?_⟩
  · subst z
    exact q H t (Same.refl H) ht
  · exact q _ p (same_upd np) (by rw [upd_same, rep_one])
theorem cat_go {K : PySem.W.Frag} {H : Hp} {a b : Addr} {rs ss : List Int} {Q : VK} (ha : H a = some (.tup (rs.map V.int))) (hb : H b = some (.tup (ss.map V.int))) (hl : rs.length + ss.length ≤ 100000)
    (q : ∀ H' p, Same H H' → H' p = some (.tup ((rs ++ ss).map V.int)) → Q (.ref p) H') : rCatA K (.ref a) (.ref b) H Q := by
  have hsl : sizeLine = 16777216 := by decide
  refine ⟨a, b, _, _, rfl, rfl, SqT.mk ha, SqT.mk hb, by rw [List.length_map, List.length_map]; omega, fun z => ?_, fun _ z => ?_, fun _ _ p np => ?_⟩
  · rw [List.map_eq_nil_iff.mp z] at q
    exact q H b (Same.refl H) hb
  · rw [List.map_eq_nil_iff.mp z] at q
    exact q H a (Same.refl H) (by rw [List.append_nil]; exact ha)
  · exact q _ p (same_upd np) (by rw [upd_same, List.map_append])
theorem catK {X : Cx} {K : PySem.W.Frag} (h : X.K = K) : OpR X (binaryOp .Add) (rCatA K) := by
  subst h
  exact op_catA
theorem zipAK {X : Cx} {K : PySem.W.Frag} {e e2 : Expr} {ta : TA} {p pos tpos : Pos} {elts : List Expr} {kk : Nat} (h : X.K = K) (hg : Gl X "zip") (hm : X.mg "zip" = none) (ha : PA X [e, e2] ta)
    (hs : starEach [e, e2] X.env = (false, eval e X.env) :: starEach [e2] X.env := by rfl) (hpl : (backTo pos (starEach [e2] X.env)).any (·.1) = false := by rfl) :
    PI X (.Tuple elts kk tpos) (.Call (.Name "zip" p) [e, e2] [] pos) (RZ.iZipA K ta) := by
  subst h
  exact RZ.pi_zipA hg hm ha hs hpl
theorem listK {X : Cx} {K : PySem.W.Frag} {tg e : Expr} {t : TE} (h : X.K = K) (he : PE X e t) : PI X tg e (iList K t) := by
  subst h
  exact pi_list he
theorem nx_via {t u : TS} {D : Ends} {r : VK} {k c : L2.St → Hp → Prop} {σ : L2.St} {H : Hp} (R : L2.St → Hp → Prop) (h1 : ∀ N : L2.St → Hp → Prop, (∀ σ H, R σ H → N σ H) → t { D with nx := N } σ H) (h2 : ∀ σ H, R σ H → u D σ H) : Ends.nx { nx := tSeq t u D, rt := r, bk := k, ct := c } σ H := h1 _ h2
theorem seq_via {t u : TS} {D : Ends} {σ : L2.St} {H : Hp} (R : L2.St → Hp → Prop) (h1 : ∀ N : L2.St → Hp → Prop, (∀ σ H, R σ H → N σ H) → t { D with nx := N } σ H) (h2 : ∀ σ H, R σ H → u D σ H) : tSeq t u D σ H := h1 _ h2
/-! formulas -/
inductive Fm where
  | inp (i : Nat)
  | less (f : Fm)
  | both (f g : Fm)
  | either (f g : Fm)
  | oneof (f g : Fm)
  | pick (f g h : Fm)
namespace Fm
def word : Fm → Str
  | inp _ => "in"
  | less _ => "less"
  | both _ _ => "both"
  | either _ _ => "either"
  | oneof _ _ => "oneof"
  | pick _ _ _ => "pick"
def sds : Fm → List Fm
  | inp _ => []
  | less f => [f]
  | both f g => [f, g]
  | either f g => [f, g]
  | oneof f g => [f, g]
  | pick f g h => [f, g, h]
def dep : Fm → Nat
  | inp _ => 1
  | less f => f.dep + 1
  | both f g => max f.dep g.dep + 1
  | either f g => max f.dep g.dep + 1
  | oneof f g => max f.dep g.dep + 1
  | pick f g h => max f.dep (max g.dep h.dep) + 1
def sz : Fm → Nat
  | inp _ => 1
  | less f => f.sz + 1
  | both f g => f.sz + g.sz + 1
  | either f g => f.sz + g.sz + 1
  | oneof f g => f.sz + g.sz + 1
  | pick f g h => f.sz + g.sz + h.sz + 1
def ins : Fm → List Nat
  | inp i => [i]
  | less f => f.ins
  | both f g => f.ins ++ g.ins
  | either f g => f.ins ++ g.ins
  | oneof f g => f.ins ++ g.ins
  | pick f g h => f.ins ++ (g.ins ++ h.ins)
theorem sz_pos (f : Fm) : 1 ≤ f.sz := by
  cases f <;> simp [sz]
theorem dep_pos (f : Fm) : 1 ≤ f.dep := by
  cases f <;> simp [dep]
theorem ins_len : ∀ f : Fm, 1 ≤ f.ins.length ∧ f.ins.length ≤ f.sz
  | inp i => ⟨Nat.le_refl 1, Nat.le_refl 1⟩
  | less f => by
    have := ins_len f
    simp only [ins, sz]
    omega
  | both f g => by
    have := ins_len f
    have := ins_len g
    simp only [ins, sz, List.length_append]
    omega
  | either f g => by
    have := ins_len f
    have := ins_len g
    simp only [ins, sz, List.length_append]
    omega
  | oneof f g => by
    have := ins_len f
    have := ins_len g
    simp only [ins, sz, List.length_append]
    omega
  | pick f g h => by
    have := ins_len f
    have := ins_len g
    have := ins_len h
    simp only [ins, sz, List.length_append]
    omega
theorem sds_dep {f g : Fm} (h : g ∈ f.sds) : g.dep < f.dep ∧ g.sz < f.sz := by
  cases f <;> simp only [sds, List.mem_cons, List.not_mem_nil, or_false] at h
  · subst h
    simp only [dep, sz]
    omega
  all_goals
    simp only [dep, sz]
    rcases h with rfl | h
    · omega
  · subst h; omega
  · subst h; omega
  · subst h; omega
  · rcases h with rfl | rfl <;> omega
theorem sds_ins {f : Fm} (h : f.word ≠ "in") : (f.sds.map ins).flatten = f.ins := by
  cases f with
  | inp i => exact absurd rfl h
  | _ => simp [sds, ins]
theorem sds_mem {f g : Fm} {i : Nat} (h : g ∈ f.sds) (hi : i ∈ g.ins) : i ∈ f.ins := by
  cases f <;> simp only [sds, List.mem_cons, List.not_mem_nil, or_false] at h
  · subst h
    exact hi
  all_goals
    simp only [ins, List.mem_append]
  · rcases h with rfl | rfl
    · exact .inl hi
    · exact .inr hi
  · rcases h with rfl | rfl
    · exact .inl hi
    · exact .inr hi
  · rcases h with rfl | rfl
    · exact .inl hi
    · exact .inr hi
  · rcases h with rfl | rfl | rfl
    · exact .inl hi
    · exact .inr (.inl hi)
    · exact .inr (.inr hi)
end Fm
def FmAt (H : Hp) : Fm → V → Prop
  | .inp i, v => ∃ a, v = .ref a ∧ H a = some (.tup [.str "in", .int (i : Nat)])
  | .less f, v => ∃ a u, v = .ref a ∧ H a = some (.tup [.str "less", u]) ∧ FmAt H f u
  | .both f g, v => ∃ a u x, v = .ref a ∧ H a = some (.tup [.str "both", u, x]) ∧ FmAt H f u ∧ FmAt H g x
  | .either f g, v => ∃ a u x, v = .ref a ∧ H a = some (.tup [.str "either", u, x]) ∧ FmAt H f u ∧ FmAt H g x
  | .oneof f g, v => ∃ a u x, v = .ref a ∧ H a = some (.tup [.str "oneof", u, x]) ∧ FmAt H f u ∧ FmAt H g x
  | .pick f g h, v => ∃ a u x y, v = .ref a ∧ H a = some (.tup [.str "pick", u, x, y]) ∧ FmAt H f u ∧ FmAt H g x ∧ FmAt H h y
theorem FmAt.keep {H H' : Hp} (k : ∀ a xs, H a = some (.tup xs) → H' a = some (.tup xs)) : ∀ {f : Fm} {v : V}, FmAt H f v → FmAt H' f v
  | .inp i, v, ⟨a, e, h⟩ => ⟨a, e, k _ _ h⟩
  | .less f, v, ⟨a, u, e, h, h1⟩ => ⟨a, u, e, k _ _ h, FmAt.keep k h1⟩
  | .both f g, v, ⟨a, u, x, e, h, h1, h2⟩ => ⟨a, u, x, e, k _ _ h, FmAt.keep k h1, FmAt.keep k h2⟩
  | .either f g, v, ⟨a, u, x, e, h, h1, h2⟩ => ⟨a, u, x, e, k _ _ h, FmAt.keep k h1, FmAt.keep k h2⟩
  | .oneof f g, v, ⟨a, u, x, e, h, h1, h2⟩ => ⟨a, u, x, e, k _ _ h, FmAt.keep k h1, FmAt.keep k h2⟩
  | .pick f g h, v, ⟨a, u, x, y, e, h0, h1, h2, h3⟩ => ⟨a, u, x, y, e, k _ _ h0, FmAt.keep k h1, FmAt.keep k h2, FmAt.keep k h3⟩
theorem FmAt.same {H H' : Hp} {f : Fm} {v : V} (h : FmAt H f v) (s : Same H H') : FmAt H' f v := h.keep fun _ _ e => s _ _ e
theorem FmAt.but {H H' : Hp} {f : Fm} {v : V} {p : Addr} {n : Nat} (h : FmAt H f v) (B : Bx H p n) (s : But p H H') : FmAt H' f v := h.keep fun _ _ e => s _ _ (B.ne_tup e) e
/-- the sides of a part, as they stand -/
def FsAt (H : Hp) (fs : List Fm) (us : List V) : Prop := us.length = fs.length ∧ ∀ (i : Nat) (f : Fm) (u : V), fs[i]? = some f → us[i]? = some u → FmAt H f u
theorem FsAt.keep {H H' : Hp} {fs : List Fm} {us : List V} (h : FsAt H fs us) (k : ∀ a xs, H a = some (.tup xs) → H' a = some (.tup xs)) : FsAt H' fs us := ⟨h.1, fun i f u e1 e2 => (h.2 i f u e1 e2).keep k⟩
theorem FsAt.same {H H' : Hp} {fs : List Fm} {us : List V} (h : FsAt H fs us) (s : Same H H') : FsAt H' fs us := h.keep fun _ _ e => s _ _ e
theorem FmAt.shape {H : Hp} {f : Fm} {v : V} (h : FmAt H f v) : (∃ i a, f = .inp i ∧ v = .ref a ∧ H a = some (.tup [.str "in", .int (i : Nat)])) ∨ ∃ a us, v = .ref a ∧ H a = some (.tup (.str f.word :: us)) ∧ f.word ≠ "in" ∧ FsAt H f.sds us := by
  cases f with
  | inp i =>
    obtain ⟨a, e, h⟩ := h
    exact .inl ⟨i, a, rfl, e, h⟩
  | less f =>
    obtain ⟨a, u, e, h, h1⟩ := h
    refine .inr ⟨a, [u], e, h, by simp only [Fm.word]; decide +kernel, rfl, fun i g x e1 e2 => ?_⟩
    match i with
    | 0 => cases e1; cases e2; exact h1
    | i + 1 => cases e1
  | both f g =>
    obtain ⟨a, u, x, e, h, h1, h2⟩ := h
    refine .inr ⟨a, [u, x], e, h, by simp only [Fm.word]; decide +kernel, rfl, fun i g x e1 e2 => ?_⟩
    match i with
    | 0 => cases e1; cases e2; exact h1
    | 1 => cases e1; cases e2; exact h2
    | i + 2 => cases e1
  | either f g =>
    obtain ⟨a, u, x, e, h, h1, h2⟩ := h
    refine .inr ⟨a, [u, x], e, h, by simp only [Fm.word]; decide +kernel, rfl, fun i g x e1 e2 => ?_⟩
    match i with
    | 0 => cases e1; cases e2; exact h1
    | 1 => cases e1; cases e2; exact h2
    | i + 2 => cases e1
  | oneof f g =>
    obtain ⟨a, u, x, e, h, h1, h2⟩ := h
    refine .inr ⟨a, [u, x], e, h, by simp only [Fm.word]; decide +kernel, rfl, fun i g x e1 e2 => ?_⟩
    match i with
    | 0 => cases e1; cases e2; exact h1
    | 1 => cases e1; cases e2; exact h2
    | i + 2 => cases e1
  | pick f g h' =>
    obtain ⟨a, u, x, y, e, h, h1, h2, h3⟩ := h
    refine .inr ⟨a, [u, x, y], e, h, by simp only [Fm.word]; decide +kernel, rfl, fun i g x e1 e2 => ?_⟩
    match i with
    | 0 => cases e1; cases e2; exact h1
    | 1 => cases e1; cases e2; exact h2
    | 2 => cases e1; cases e2; exact h3
    | i + 3 => cases e1
theorem FsAt.get {H : Hp} {fs : List Fm} {us : List V} (h : FsAt H fs us) {i : Nat} {u : V} (hu : us[i]? = some u) : ∃ f, fs[i]? = some f ∧ f ∈ fs ∧ FmAt H f u := by
  have hi := (List.getElem?_eq_some_iff.mp hu).1
  have hi2 : i < fs.length := by rw [← h.1]; exact hi
  exact ⟨fs[i], List.getElem?_eq_getElem hi2, List.getElem_mem hi2, h.2 i _ u (List.getElem?_eq_getElem hi2) hu⟩
theorem cut_tail (v : V) (us : List V) : cutV (v :: us) (some 1) none = us := by
  unfold cutV
  rw [show (1 : Int) = ((1 : Nat) : Int) from rfl, HT.sIx_nat, HT.sIx_none]
  have e : min 1 (v :: us).length = 1 := by simp
  rw [e, List.drop_succ_cons, List.drop_zero, List.length_cons]
  exact List.take_of_length_le (by omega)
/-! formulas drawn -/
structure Fm.Ok (f : Fm) (d m w : Nat) : Prop where
  dp : f.dep ≤ max d 1
  sz : f.sz ≤ m
  ins : ∀ i, i ∈ f.ins → i < w
def spr__law_formula (d : Nat) (_ : PySem.W.Frag) : Sp := fun vs H Q _ => ∃ (p : Addr) (n de ma wi : Nat), vs = [.ref p, .int (de : Nat), .int (ma : Nat), .int (wi : Nat)] ∧ Bx H p n ∧ n + 4 * ma < 100000000 ∧ de < d ∧ 1 ≤ ma ∧ ma ≤ 100 ∧ 1 ≤ wi ∧ wi ≤ 100 ∧
  ∀ H' v f, But p H H' → Bx H' p (n + 4 * ma) → FmAt H' f v → f.Ok de ma wi → Q v H'
theorem no__law_formula {K : PySem.W.Frag} {vs : List V} {H : Hp} {Q : VK} {E : XK} (h : spr__law_formula 0 K vs H Q E) : False := by
  obtain ⟨p, n, de, ma, wi, _, _, _, z, _⟩ := h
  exact Nat.not_lt_zero _ z
/-- three formulas drawn so far -/
def F3 (p D : Addr) (X : Hp) (n l de wi : Nat) (i : Nat) (G : Hp) : Prop := ∃ fs : List (V × Fm), fs.length = i ∧ G D = some (.lst (fs.map Prod.fst)) ∧ (∀ q, q ∈ fs → FmAt G q.2 q.1 ∧ q.2.Ok de l wi) ∧ But p X G ∧ Bx G p (n + 4 * l * i)
theorem okr__law_formula (T : Defs K mg) : ∀ d : Nat, FnOk P w K mg base CX0 (2 + d) T.f__law_formula T.fd__law_formula ["_law_box_here", "_law_deep", "_law_many", "_law_wide"] (spr__law_formula d K)
  | 0 => ⟨fun _ _ _ _ z => (no__law_formula z).elim, fun _ _ _ _ _ _ _ _ _ _ _ _ _ z => (no__law_formula z).elim⟩
  | d + 1 => by
    have G__law_take : FnOk P w K mg base CX0 1 T.f__law_take T.fd__law_take ["_law_box_here", "_law_many"] (sp__law_take K) := ok__law_take T
    have G__law_formula : FnOk P w K mg base CX0 (2 + d) T.f__law_formula T.fd__law_formula ["_law_box_here", "_law_deep", "_law_many", "_law_wide"] (spr__law_formula d K) := okr__law_formula T d
    show FnOk P w K mg base CX0 ((2 + d) + 1) T.f__law_formula T.fd__law_formula ["_law_box_here", "_law_deep", "_law_many", "_law_wide"] (spr__law_formula (d + 1) K)
    refine T.F__law_formula.ok sc__law_formula (fun vs H Q E h => ?_) (fun cdv A outer s H vs Q E hr h => ?_)
    · obtain ⟨p, n, de, ma, wi, rfl, hB, hn, hd, m1, m2, w1, w2, q⟩ := h
      rfl
    · obtain ⟨p, n, de, ma, wi, rfl, hB, hn, hd, m1, m2, w1, w2, q⟩ := h
      refine ⟨_, PSs.nox (pss_cons (ps_set (i := 4) sc__law_formula.nd rfl (.inl rfl) (pe_call G__law_take (hr.mono (by omega)) (by rfl) T.g__law_take T.F__law_take.kp T.b__law_take .nil pass0 (pa_cons (pv 0) (pa_cons pe_int pa_nil))))
    (pss_cons (ps_if (PW.pt (pw_or (pt_cmpR op_lt (pv 1) pe_int (nomark _)) (pw_or (pt_cmpR op_lt (pv 2) pe_int (nomark _)) (pw_or1 (pt_cmpR op_eq (pv 4) pe_int (nomark _)))))) (pss_one (ps_ret (pe_tup (pa_cons pe_str (pa_cons (pe_call G__law_take (hr.mono (by omega)) (by rfl) T.g__law_take T.F__law_take.kp T.b__law_take .nil pass0 (pa_cons (pv 0) (pa_cons (pv 3) pa_nil))) pa_nil))))) pss_nil)
    (pss_cons (ps_if (PW.pt (pw_or (pt_cmpR op_eq (pv 4) pe_int (nomark _)) (pw_or1 (pt_cmpR op_lt (pv 2) pe_int (nomark _))))) (pss_one (ps_ret (pe_tup (pa_cons pe_str (pa_cons (pe_call G__law_formula (hr.mono (by omega)) (by rfl) T.g__law_formula T.F__law_formula.kp T.b__law_formula .nil pass0 (pa_cons (pv 0) (pa_cons (pe_op op_sub (pv 1) pe_int) (pa_cons (pe_op op_sub (pv 2) pe_int) (pa_cons (pv 3) pa_nil))))) pa_nil))))) pss_nil)
    (pss_cons (ps_if (PW.pt (pw_and (pt_cmpR op_eq (pv 4) pe_int (nomark _)) (pw_and1 (pt_cmpR op_gt (pv 2) pe_int (nomark _))))) (pss_cons (ps_set (i := 5) sc__law_formula.nd rfl (.inr rfl) (pe_op op_fdiv (pe_op op_sub (pv 2) pe_int) pe_int))
    (pss_one (ps_ret (pe_op op_catA (pe_tup (pa_cons pe_str pa_nil)) (pe_callTy call_tuple_of (by rfl) T.m_tuple bt_tuple (pa_cons (pe_lc (own := [("_law_turn", 7)]) (g := gName 7) (tt := tYes) rfl sc__law_formula.nd (pi_range1 (by rfl) T.m_range (pa_cons pe_int pa_nil)) (blkOk_by (N := N__law_formula) (sc := defScope s__law_formula) (by decide +kernel)) (fun _ _ _ _ _ => (pg_name (i := 7) sc__law_formula.nd rfl (.inl rfl))) (fun _ _ _ _ _ => pts_nil) (fun _ _ _ _ _ => (pe_call G__law_formula (hr.mono (by omega)) (by rfl) T.g__law_formula T.F__law_formula.kp T.b__law_formula .nil pass0 (pa_cons (pv 0) (pa_cons (pe_op op_sub (pv 1) pe_int) (pa_cons (pv 5) (pa_cons (pv 3) pa_nil))))))) pa_nil)))))) pss_nil)
    (pss_cons (ps_asg (pe_tup (pa_cons (pe_ix ix_list (pe_lst (pa_cons pe_str (pa_cons pe_str (pa_cons pe_str pa_nil)))) (pe_call G__law_take (hr.mono (by omega)) (by rfl) T.g__law_take T.F__law_take.kp T.b__law_take .nil pass0 (pa_cons (pv 0) (pa_cons pe_int pa_nil))) (fun _ _ => rfl)) (pa_cons (pe_op op_add pe_int (pe_call G__law_take (hr.mono (by omega)) (by rfl) T.g__law_take T.F__law_take.kp T.b__law_take .nil pass0 (pa_cons (pv 0) (pa_cons (pe_op op_sub (pv 2) pe_int) pa_nil)))) pa_nil))) (pg_tup rfl (pgs_cons (pg_name (i := 6) sc__law_formula.nd rfl (.inl rfl)) (pgs_cons (pg_name (i := 5) sc__law_formula.nd rfl (.inr rfl)) pgs_nil))))
    (pss_one (ps_ret (pe_tup (pa_cons (pv 6) (pa_cons (pe_call G__law_formula (hr.mono (by omega)) (by rfl) T.g__law_formula T.F__law_formula.kp T.b__law_formula .nil pass0 (pa_cons (pv 0) (pa_cons (pe_op op_sub (pv 1) pe_int) (pa_cons (pv 5) (pa_cons (pv 3) pa_nil))))) (pa_cons (pe_call G__law_formula (hr.mono (by omega)) (by rfl) T.g__law_formula T.F__law_formula.kp T.b__law_formula .nil pass0 (pa_cons (pv 0) (pa_cons (pe_op op_sub (pv 1) pe_int) (pa_cons (pe_op op_sub (pe_op op_sub (pv 2) pe_int) (pv 5)) (pa_cons (pv 3) pa_nil))))) pa_nil))))))))))), ?_⟩
      have hsl : sizeLine = 16777216 := by decide
      refine ⟨.ref p, rfl, p, 7, n, rfl, hB, by decide, by decide, by omega, fun H1 way c1 B1 l1 u1 => ?_⟩
      have fin : ∀ H' v f, But p H1 H' → Bx H' p (n + 4 * ma) → FmAt H' f v → f.Ok de ma wi → Q v H' := fun H' v f b B hf ok => q H' v f (c1.trans b) B hf ok
      refine ⟨_, rfl, _, _, rfl, rfl, _, rfl, ite2 (fun _ => ?_) (fun e1 => ?_)⟩
      · refine iteT ?_
        refine ⟨.ref p, rfl, _, rfl, p, (wi : Int), _, rfl, B1, by omega, by omega, by omega, fun H2 r c2 B2 l2 u2 => ⟨(show 2 ≤ sizeLine by decide), fun t nt => ?_⟩⟩
        obtain ⟨r, rfl⟩ := nat_of l2
        exact fin _ _ (.inp r) (c2.new nt) ((B2.new nt).mono (by omega)) ⟨t, rfl, upd_same⟩ ⟨by simp only [Fm.dep]; omega, by simp only [Fm.sz]; omega, fun i hi => by
          rw [List.mem_singleton.mp hi]
          omega⟩
      have de2 : 2 ≤ de := by
        have : ¬ (de : Int) < 2 := fun z => e1 (decide_eq_true z)
        omega
      refine ⟨_, rfl, _, _, rfl, rfl, _, rfl, ite2 (fun _ => ?_) (fun e2 => ?_)⟩
      · refine iteT ?_
        refine ⟨.ref p, rfl, _, rfl, p, (wi : Int), _, rfl, B1, by omega, by omega, by omega, fun H2 r c2 B2 l2 u2 => ⟨(show 2 ≤ sizeLine by decide), fun t nt => ?_⟩⟩
        obtain ⟨r, rfl⟩ := nat_of l2
        exact fin _ _ (.inp r) (c2.new nt) ((B2.new nt).mono (by omega)) ⟨t, rfl, upd_same⟩ ⟨by simp only [Fm.dep]; omega, by simp only [Fm.sz]; omega, fun i hi => by
          rw [List.mem_singleton.mp hi]
          omega⟩
      have ma2 : 2 ≤ ma := by
        have : ¬ (ma : Int) < 2 := fun z => e2 (decide_eq_true z)
        omega
      refine ⟨_, rfl, rfl, _, rfl, ite2 (fun _ => ?_) (fun _ => ?_)⟩
      · refine ⟨.ref p, rfl, _, rfl, p, (wi : Int), _, rfl, B1, by omega, by omega, by omega, fun H2 r c2 B2 l2 u2 => ⟨(show 2 ≤ sizeLine by decide), fun t nt => ?_⟩⟩
        obtain ⟨r, rfl⟩ := nat_of l2
        exact fin _ _ (.inp r) (c2.new nt) ((B2.new nt).mono (by omega)) ⟨t, rfl, upd_same⟩ ⟨by simp only [Fm.dep]; omega, by simp only [Fm.sz]; omega, fun i hi => by
          rw [List.mem_singleton.mp hi]
          omega⟩
      have ed : (de : Int) - 1 = ((de - 1 : Nat) : Int) := by omega
      have em : (ma : Int) - 1 = ((ma - 1 : Nat) : Int) := by omega
      clear e1 e2
      refine ⟨_, rfl, rfl, _, rfl, ite2 (fun _ => iteT ?_) (fun _ => ⟨_, rfl, _, _, rfl, rfl, _, rfl, ite2 (fun _ => ?_) (fun e3 => ?_)⟩)⟩
      · refine ⟨.ref p, rfl, _, rfl, _, _, rfl, rfl, _, rfl, _, _, rfl, rfl, _, rfl, p, _, de - 1, ma - 1, wi, by rw [← ed, ← em]; rfl, B1, by omega, by omega, by omega, by omega, w1, w2, fun H2 v f c2 B2 hf ok => ⟨(show 2 ≤ sizeLine by decide), fun t nt => ?_⟩⟩
        have o1 := ok.dp
        have o2 := ok.sz
        exact fin _ _ (.less f) (c2.new nt) ((B2.new nt).mono (by omega)) ⟨t, v, rfl, upd_same, hf.same (same_upd nt)⟩ ⟨by simp only [Fm.dep]; omega, by simp only [Fm.sz]; omega, ok.ins⟩
      · refine ⟨.ref p, rfl, _, rfl, _, _, rfl, rfl, _, rfl, _, _, rfl, rfl, _, rfl, p, _, de - 1, ma - 1, wi, by rw [← ed, ← em]; rfl, B1, by omega, by omega, by omega, by omega, w1, w2, fun H2 v f c2 B2 hf ok => ⟨(show 2 ≤ sizeLine by decide), fun t nt => ?_⟩⟩
        have o1 := ok.dp
        have o2 := ok.sz
        exact fin _ _ (.less f) (c2.new nt) ((B2.new nt).mono (by omega)) ⟨t, v, rfl, upd_same, hf.same (same_upd nt)⟩ ⟨by simp only [Fm.dep]; omega, by simp only [Fm.sz]; omega, ok.ins⟩
      have ma3 : 3 ≤ ma := by
        have : ¬ (ma : Int) < 3 := fun z => e3 (decide_eq_true z)
        omega
      clear e3
      refine nx_via (fun σ F => (∃ y5 y6 y7, σ = [some (.ref p), some (.int (de : Nat)), some (.int (ma : Nat)), some (.int (wi : Nat)), some (.int way), y5, y6, y7]) ∧ F = H1) (fun N key => ?_) ?_
      · refine ⟨_, rfl, rfl, _, rfl, ite2 (fun _ => ?_) (fun _ => iteF (key _ _ ⟨⟨_, _, _, rfl⟩, rfl⟩))⟩
        refine ⟨_, rfl, _, _, rfl, rfl, _, rfl, ite2 (fun e4 => ?_) (fun _ => key _ _ ⟨⟨_, _, _, rfl⟩, rfl⟩)⟩
        have ma4 : 4 ≤ ma := by
          have : (3 : Int) < (ma : Int) := of_decide_eq_true e4
          omega
        obtain ⟨l, hl⟩ : ∃ l : Nat, ((ma : Int) - 1) / 3 = (l : Int) := ⟨(ma - 1) / 3, by omega⟩
        have l1 : 1 ≤ l := by omega
        have l3 : 3 * l + 1 ≤ ma := by omega
        refine ⟨_, rfl, _, _, rfl, rfl, _, _, rfl, rfl, ⟨by decide, by decide⟩, ?_⟩
        try dsimp only
        rw [hl]
        refine ⟨(show 1 ≤ sizeLine by decide), fun t0 nt0 => ?_⟩
        have u0 := same_upd nt0 (o := .tup [.str "pick"])
        refine ⟨3, rfl, by decide, by decide, fun D nD => ?_⟩
        have nDp : D ≠ p := ne_new (B1.new (o := .tup [.str "pick"]) nt0) nD
        have ht0 := upd_same (H := H1) (a := t0) (o := .tup [.str "pick"])
        generalize upd H1 t0 (.tup [.str "pick"]) = X at u0 nD ht0 ⊢
        have BX := B1.same u0
        refine lc_range (F3 p D X (n + 1) l (de - 1) wi) ⟨[], rfl, upd_same, fun _ z => (by cases z), (But.refl p X).new nD, BX.new nD⟩ (fun j G hj h => ?_) (fun G h => ?_)
        · obtain ⟨fs, lf, hD, hfs, cG, BG⟩ := h
          have hj3 : j < 3 := by
            have : (3 : Int).toNat = 3 := rfl
            omega
          have ll : 4 * l * j ≤ 4 * l * 2 := Nat.mul_le_mul_left _ (by omega)
          refine ⟨rfl, yes_ite ?_⟩
          refine ⟨.ref p, rfl, _, rfl, _, _, rfl, rfl, _, rfl, _, rfl, p, _, de - 1, l, wi, by rw [← ed]; rfl, BG, by omega, by omega, l1, by omega, w1, w2, fun G2 v f c2 B2 hf ok => ?_⟩
          refine ⟨_, c2 _ _ nDp hD, by rw [List.length_map]; omega, fs ++ [(v, f)], by rw [List.length_append, lf]; rfl, by rw [upd_same, List.map_append]; rfl, fun q' hq => ?_, but_newer (cG.trans c2) nD, ?_⟩
          · have keep : ∀ t xs, G2 t = some (.tup xs) → (upd G2 D (.lst (fs.map Prod.fst ++ [v]))) t = some (.tup xs) := fun t xs e => by
              rw [upd_ne (ne_of e (c2 _ _ nDp hD) (fun z => by cases z))]
              exact e
            rcases List.mem_append.mp hq with hq | hq
            · exact ⟨((hfs q' hq).1.but BG c2).keep keep, (hfs q' hq).2⟩
            · rw [List.mem_singleton.mp hq]
              exact ⟨hf.keep keep, ok⟩
          · have e : n + 1 + 4 * l * j + 4 * l = n + 1 + 4 * l * (j + 1) := by rw [Nat.mul_add, Nat.mul_one]; omega
            rw [← e]
            exact B2.other nDp
        obtain ⟨fs, lf, hD, hfs, cG, BG⟩ := h
        have lf : fs.length = 3 := lf
        have BG : Bx G p (n + 1 + 4 * l * 3) := BG
        obtain ⟨q1, q2, q3, rfl⟩ : ∃ q1 q2 q3, fs = [q1, q2, q3] := by
          match fs, lf with
          | [a, b, c], _ => exact ⟨a, b, c, rfl⟩
        obtain ⟨f1, o1⟩ := hfs q1 (by simp)
        obtain ⟨f2, o2⟩ := hfs q2 (by simp)
        obtain ⟨f3, o3⟩ := hfs q3 (by simp)
        refine ⟨D, _, rfl, .inl ⟨SqL.mk hD, fun t1 nt1 => ?_⟩⟩
        have u1 := same_upd nt1 (o := .tup ([q1, q2, q3].map Prod.fst))
        refine ⟨t0, t1, _, _, rfl, rfl, SqT.mk (u1 _ _ (cG _ _ (BX.ne_tup ht0) ht0)), SqT.mk upd_same, (show 4 ≤ sizeLine by decide), fun z => (by cases z), fun _ z => (by cases z), fun _ _ t2 nt2 => ?_⟩
        have u2 := u1.trans (same_upd nt2 (o := .tup [.str "pick", q1.1, q2.1, q3.1]))
        have cA : But p H1 (upd (upd G t1 (.tup ([q1, q2, q3].map Prod.fst))) t2 (.tup ([V.str "pick"] ++ [q1, q2, q3].map Prod.fst))) := (same_but u0).trans (cG.trans (same_but u2))
        have d1 := o1.dp
        have d2 := o2.dp
        have d3 := o3.dp
        have z1 := o1.sz
        have z2 := o2.sz
        have z3 := o3.sz
        refine fin _ _ (.pick q1.2 q2.2 q3.2) cA ((BG.same u2).mono (by omega)) ⟨t2, q1.1, q2.1, q3.1, rfl, upd_same, f1.same u2, f2.same u2, f3.same u2⟩ ⟨by simp only [Fm.dep]; omega, by simp only [Fm.sz]; omega, fun i hi => ?_⟩
        simp only [Fm.ins, List.mem_append] at hi
        rcases hi with hi | hi | hi
        · exact o1.ins i hi
        · exact o2.ins i hi
        · exact o3.ins i hi
      rintro σ F ⟨⟨y5, y6, y7, rfl⟩, rfl⟩
      refine ⟨(show 3 ≤ sizeLine by decide), fun L nL => ?_⟩
      have uL := same_upd nL (o := .lst [.str "both", .str "either", .str "oneof"])
      have hL := upd_same (H := F) (a := L) (o := .lst [.str "both", .str "either", .str "oneof"])
      generalize upd F L (.lst [.str "both", .str "either", .str "oneof"]) = X at uL hL ⊢
      have BX := B1.same uL
      have nLp : L ≠ p := fun e => by
        obtain ⟨_, _, _, z, _⟩ := BX
        rw [← e, hL] at z
        cases z
      refine ⟨.ref p, rfl, p, 3, _, rfl, BX, by decide, by decide, by omega, fun G1 r1 d1 B2 l2 u2 => ?_⟩
      obtain ⟨wd, ewd, hwd⟩ : ∃ wd : Str, atI [V.str "both", .str "either", .str "oneof"] r1 = some (.str wd) ∧ (wd = "both" ∨ wd = "either" ∨ wd = "oneof") := by
        obtain ⟨r1, rfl⟩ := nat_of l2
        match r1, u2 with
        | 0, _ => exact ⟨"both", atI_nat (j := 0) rfl, .inl rfl⟩
        | 1, _ => exact ⟨"either", atI_nat (j := 1) rfl, .inr (.inl rfl)⟩
        | 2, _ => exact ⟨"oneof", atI_nat (j := 2) rfl, .inr (.inr rfl)⟩
        | r + 3, h => exact absurd h (by omega)
      refine ⟨L, _, _, _, rfl, rfl, SqL.mk (d1 _ _ nLp hL), ewd, ?_⟩
      have em2 : (ma : Int) - 2 = ((ma - 2 : Nat) : Int) := by omega
      refine ⟨.ref p, rfl, _, rfl, _, _, rfl, rfl, p, (ma : Int) - 2, _, rfl, B2, by omega, by omega, by omega, fun G2 r2 d2 B3 l3 u3 => ⟨_, _, rfl, rfl, ?_⟩⟩
      obtain ⟨l, hl⟩ := nat_of (show 0 ≤ 1 + r2 by omega)
      try dsimp only
      rw [hl]
      refine ⟨(show 2 ≤ sizeLine by decide), fun tp ntp => ⟨tp, _, rfl, SqT.mk upd_same, rfl, _, _, rfl, _, _, rfl, rfl, ?_⟩⟩
      have uT := same_upd ntp (o := .tup [.str wd, .int (l : Nat)])
      have BT := B3.same uT
      have cT : But p F (upd G2 tp (.tup [.str wd, .int (l : Nat)])) := (same_but uL).trans (d1.trans (d2.trans (same_but uT)))
      generalize upd G2 tp (.tup [.str wd, .int (l : Nat)]) = Y at BT cT ⊢
      have el : (ma : Int) - 1 - (l : Int) = ((ma - 1 - l : Nat) : Int) := by omega
      refine ⟨_, rfl, .ref p, rfl, _, rfl, _, _, rfl, rfl, _, rfl, _, rfl, p, _, de - 1, l, wi, by rw [← ed]; rfl, BT, by omega, by omega, by omega, by omega, w1, w2, fun Y1 v1 f1 y1 C1 h1 o1 => ?_⟩
      refine ⟨.ref p, rfl, _, rfl, _, _, rfl, rfl, _, rfl, _, _, rfl, rfl, _, rfl, _, _, rfl, rfl, _, rfl, p, _, de - 1, ma - 1 - l, wi, by rw [← ed, ← el]; rfl, C1, by omega, by omega, by omega, by omega, w1, w2, fun Y2 v2 f2 y2 C2 h2 o2 => ⟨(show 3 ≤ sizeLine by decide), fun t nt => ?_⟩⟩
      have cZ : But p F (upd Y2 t (.tup [.str wd, v1, v2])) := (cT.trans (y1.trans y2)).new nt
      have sT := same_upd nt (o := .tup [.str wd, v1, v2])
      have BZ : Bx (upd Y2 t (.tup [.str wd, v1, v2])) p (n + 4 * ma) := (C2.new nt).mono (by omega)
      have a1 := (h1.but C1 y2).same sT
      have a2 := h2.same sT
      have p1 := o1.dp
      have p2 := o2.dp
      have z1 := o1.sz
      have z2 := o2.sz
      have oi : ∀ i, i ∈ f1.ins ++ f2.ins → i < wi := fun i hi => by
        rcases List.mem_append.mp hi with hi | hi
        · exact o1.ins i hi
        · exact o2.ins i hi
      rcases hwd with rfl | rfl | rfl
      · exact fin _ _ (.both f1 f2) cZ BZ ⟨t, v1, v2, rfl, upd_same, a1, a2⟩ ⟨by simp only [Fm.dep]; omega, by simp only [Fm.sz]; omega, oi⟩
      · exact fin _ _ (.either f1 f2) cZ BZ ⟨t, v1, v2, rfl, upd_same, a1, a2⟩ ⟨by simp only [Fm.dep]; omega, by simp only [Fm.sz]; omega, oi⟩
      · exact fin _ _ (.oneof f1 f2) cZ BZ ⟨t, v1, v2, rfl, upd_same, a1, a2⟩ ⟨by simp only [Fm.dep]; omega, by simp only [Fm.sz]; omega, oi⟩
def sp__law_formula (K : PySem.W.Frag) : Sp := spr__law_formula 9 K
theorem ok__law_formula (T : Defs K mg) : FnOk P w K mg base CX0 11 T.f__law_formula T.fd__law_formula ["_law_box_here", "_law_deep", "_law_many", "_law_wide"] (sp__law_formula K) := okr__law_formula T 9
def sp__law_any (_ : PySem.W.Frag) : Sp := fun vs H Q _ => ∃ (p : Addr) (n : Nat), vs = [.ref p] ∧ Bx H p n ∧ n < 1000000 ∧
  ∀ H' v f, But p H H' → Bx H' p (n + 200) → FmAt H' f v → f.dep ≤ 8 → f.sz ≤ 24 → (∀ i, i ∈ f.ins → i < 6) → Q v H'
theorem bl01 {c : Bool} : 0 ≤ (if c = true then (1 : Int) else 0) ∧ (if c = true then (1 : Int) else 0) < ((2 : Nat) : Int) := by
  cases c <;> decide
theorem ok__law_any (T : Defs K mg) : FnOk P w K mg base CX0 12 T.f__law_any T.fd__law_any ["_law_box_here"] (sp__law_any K) := by
  have G__law_formula : FnOk P w K mg base CX0 11 T.f__law_formula T.fd__law_formula ["_law_box_here", "_law_deep", "_law_many", "_law_wide"] (sp__law_formula K) := ok__law_formula T
  have G__law_take : FnOk P w K mg base CX0 1 T.f__law_take T.fd__law_take ["_law_box_here", "_law_many"] (sp__law_take K) := ok__law_take T
  refine T.F__law_any.ok sc__law_any (fun vs H Q E h => ?_) (fun cdv A outer s H vs Q E hr h => ?_)
  · obtain ⟨p, n, rfl, hB, hn, q⟩ := h
    rfl
  · obtain ⟨p, n, rfl, hB, hn, q⟩ := h
    refine ⟨_, PSs.nox (pss_cons (ps_par (i := 1) (j := 2) (by rfl) sc__law_any.nd rfl rfl (by decide) rfl rfl (pa_cons (pe_cmpR op_eq (pe_call G__law_take (hr.mono (by decide)) (by rfl) T.g__law_take T.F__law_take.kp T.b__law_take .nil pass0 (pa_cons (pv 0) (pa_cons pe_int pa_nil))) pe_int (nomark _)) (pa_cons (pe_op op_add pe_int (pe_call G__law_take (hr.mono (by decide)) (by rfl) T.g__law_take T.F__law_take.kp T.b__law_take .nil pass0 (pa_cons (pv 0) (pa_cons pe_int pa_nil)))) pa_nil)) (by rfl))
    (pss_one (ps_ret (pe_call G__law_formula (hr.mono (by decide)) (by rfl) T.g__law_formula T.F__law_formula.kp T.b__law_formula .nil pass0 (pa_cons (pv 0) (pa_cons (pe_ix ix_list (pe_lst (pa_cons pe_int (pa_cons pe_int pa_nil))) (pe_callTy call_int1 (by rfl) T.m_int bt_int (pa_cons (pv 1) pa_nil)) (fun _ _ => rfl)) (pa_cons (pe_ix ix_list (pe_lst (pa_cons (pe_op op_add pe_int (pe_call G__law_take (hr.mono (by decide)) (by rfl) T.g__law_take T.F__law_take.kp T.b__law_take .nil pass0 (pa_cons (pv 0) (pa_cons pe_int pa_nil)))) (pa_cons pe_int pa_nil))) (pe_callTy call_int1 (by rfl) T.m_int bt_int (pa_cons (pv 1) pa_nil)) (fun _ _ => rfl)) (pa_cons (pv 2) pa_nil)))))))), ?_⟩
    have hsl : sizeLine = 16777216 := by decide
    refine ⟨.ref p, rfl, p, 4, n, rfl, hB, by decide, by decide, by omega, fun H1 r1 c1 B1 l1 u1 => ⟨rfl, ?_⟩⟩
    obtain ⟨gr, egr⟩ : ∃ gr, decide (V.int r1 = V.int 0) = gr := ⟨_, rfl⟩
    rw [egr]
    refine ⟨.ref p, rfl, p, 6, _, rfl, B1, by decide, by decide, by omega, fun H2 r2 c2 B2 l2 u2 => ⟨_, _, rfl, rfl, ?_⟩⟩
    obtain ⟨wi, hwi⟩ := nat_of (show 0 ≤ 1 + r2 by omega)
    try dsimp only
    rw [hwi]
    refine ⟨_, _, rfl, ?_⟩
    refine ⟨.ref p, rfl, (show 2 ≤ sizeLine by decide), fun la na => ?_⟩
    have s3 := same_upd na (o := .lst [.int 5, .int 8])
    obtain ⟨de, ev1, hde⟩ := at_menu (Pr := fun v => v = 5 ∨ v = 8) (xs := [5, 8]) (r := if gr = true then (1 : Int) else 0) bl01.1 bl01.2 (fun x hx => by
      simp only [List.mem_cons, List.not_mem_nil, or_false] at hx
      exact hx)
    refine ⟨.bl gr, rfl, .inr ⟨_, rfl, la, _, _, _, rfl, rfl, SqL.mk upd_same, ev1, ?_⟩⟩
    have B3 := B2.same s3
    have c3 := (c1.trans c2).trans (same_but s3)
    generalize upd H2 la (.lst [.int 5, .int 8]) = H3 at B3 c3 ⊢
    refine ⟨.ref p, rfl, p, 9, _, rfl, B3, by decide, by decide, by omega, fun H4 r4 c4 B4 l4 u4 => ⟨_, _, rfl, rfl, (show 2 ≤ sizeLine by decide), fun lb nb => ?_⟩⟩
    obtain ⟨ma, ev2, hma⟩ := at_menu (Pr := fun v => 1 ≤ v ∧ v ≤ 24) (xs := [1 + r4, 24]) (r := if gr = true then (1 : Int) else 0) bl01.1 bl01.2 (fun x hx => by
      simp only [List.mem_cons, List.not_mem_nil, or_false] at hx
      omega)
    have s5 := same_upd nb (o := .lst [.int (1 + r4), .int 24])
    refine ⟨.bl gr, rfl, .inr ⟨_, rfl, lb, _, _, _, rfl, rfl, SqL.mk upd_same, ev2, ?_⟩⟩
    have B5 := B4.same s5
    obtain ⟨de, rfl⟩ := nat_of (show 0 ≤ de by omega)
    obtain ⟨ma, rfl⟩ := nat_of (show 0 ≤ ma by omega)
    refine ⟨_, rfl, p, _, de, ma, wi, rfl, B5, by omega, by omega, by omega, by omega, by omega, by omega, fun H6 v f c6 B6 hf ok => ?_⟩
    have o1 := ok.dp
    have o2 := ok.sz
    exact q H6 v f ((c3.trans c4).trans ((same_but s5).trans c6)) (B6.mono (by omega)) hf (by omega) (by omega) fun i hi => by
      have := ok.ins i hi
      omega
theorem wd_in {w : Str} (h : w ≠ "in") : decide (V.str w = V.str "in") = false := decide_eq_false fun e => h (V.str.inj e)
theorem not_whole {v : V} {us : List V} : ¬ (HT.sIx (v :: us).length 0 (some 1) = 0 ∧ HT.sIx (v :: us).length (v :: us).length none = (v :: us).length) := by
  rintro ⟨e, _⟩
  rw [show (1 : Int) = ((1 : Nat) : Int) from rfl, HT.sIx_nat] at e
  simp at e
def spr__law_inputs (d : Nat) (_ : PySem.W.Frag) : Sp := fun vs H Q _ => ∃ f v, vs = [v] ∧ FmAt H f v ∧ f.dep ≤ d ∧ f.sz ≤ 100 ∧
  ∀ H' p, Same H H' → H' p = some (.lst ((f.ins.map fun (i : Nat) => (i : Int)).map V.int)) → Q (.ref p) H'
theorem no__law_inputs {K : PySem.W.Frag} {vs : List V} {H : Hp} {Q : VK} {E : XK} (h : spr__law_inputs 0 K vs H Q E) : False := by
  obtain ⟨f, v, _, _, z, _⟩ := h
  have := f.dep_pos
  omega
def insN (fs : List Fm) : List Int := ((fs.map Fm.ins).flatten).map fun (i : Nat) => (i : Int)
theorem insN_snoc (fs : List Fm) (f : Fm) : insN (fs ++ [f]) = insN fs ++ f.ins.map fun (i : Nat) => (i : Int) := by
  unfold insN
  rw [List.map_append, List.flatten_append, List.map_append]
  simp
theorem insN_le {f : Fm} (i : Nat) : (insN (f.sds.take i)).length ≤ f.sz := by
  unfold insN
  rw [List.length_map]
  have a : ((f.sds.take i).map Fm.ins).flatten.length ≤ (f.sds.map Fm.ins).flatten.length := by
    conv => rhs; rw [← List.take_append_drop i f.sds, List.map_append, List.flatten_append, List.length_append]
    exact Nat.le_add_right _ _
  have b := f.ins_len
  by_cases h : f.word = "in"
  · cases f with
    | inp j =>
      rw [show (Fm.inp j).sds.take i = [] by simp [Fm.sds]]
      exact Nat.zero_le _
    | _ => exact absurd h (by simp only [Fm.word]; decide +kernel)
  · rw [Fm.sds_ins h] at a
    omega
theorem okr__law_inputs (T : Defs K mg) : ∀ d : Nat, FnOk P w K mg base CX0 (1 + d) T.f__law_inputs T.fd__law_inputs ["_law_formula_here"] (spr__law_inputs d K)
  | 0 => ⟨fun _ _ _ _ z => (no__law_inputs z).elim, fun _ _ _ _ _ _ _ _ _ _ _ _ _ z => (no__law_inputs z).elim⟩
  | d + 1 => by
    have G__law_inputs : FnOk P w K mg base CX0 (1 + d) T.f__law_inputs T.fd__law_inputs ["_law_formula_here"] (spr__law_inputs d K) := okr__law_inputs T d
    show FnOk P w K mg base CX0 ((1 + d) + 1) T.f__law_inputs T.fd__law_inputs ["_law_formula_here"] (spr__law_inputs (d + 1) K)
    refine T.F__law_inputs.ok sc__law_inputs (fun vs H Q E h => ?_) (fun cdv A outer s H vs Q E hr h => ?_)
    · obtain ⟨f, v, rfl, hf, dp, sz, q⟩ := h
      rfl
    · obtain ⟨f, v, rfl, hf, dp, sz, q⟩ := h
      refine ⟨_, PSs.nox (pss_cons (ps_if (pt_cmpR op_eq (pe_ix ix_tup (pv 0) pe_int (fun _ _ => rfl)) pe_str (nomark _)) (pss_one (ps_ret (pe_lst (pa_cons (pe_ix ix_tup (pv 0) pe_int (fun _ _ => rfl)) pa_nil)))) pss_nil)
    (pss_cons (ps_set (i := 1) sc__law_inputs.nd rfl (.inl rfl) (pe_lst pa_nil))
    (pss_cons (ps_for PassesOwn.never rfl (pi_tup (pe_slice sl_tup (pv 0) (po_some pe_int) po_none)) (pg_name (i := 2) sc__law_inputs.nd rfl (.inl rfl)) (pss_one (ps_set (i := 1) sc__law_inputs.nd rfl (.inl rfl) (pe_op op_cat (pv 1) (pe_call G__law_inputs (hr.mono (by omega)) (by rfl) T.g__law_inputs T.F__law_inputs.kp T.b__law_inputs .nil pass0 (pa_cons (pv 2) pa_nil))))))
    (pss_one (ps_ret (pv 1)))))), ?_⟩
      have hsl : sizeLine = 16777216 := by decide
      rcases hf.shape with ⟨i, a, rfl, rfl, ha⟩ | ⟨a, us, rfl, ha, hw, hs⟩
      · refine ⟨.ref a, rfl, a, _, 0, _, rfl, rfl, SqT.mk ha, atI_nat (j := 0) rfl, rfl, _, rfl, ?_⟩
        rw [decide_eq_true rfl]
        refine iteT ⟨.ref a, rfl, a, _, 1, _, rfl, rfl, SqT.mk ha, atI_nat (j := 1) rfl, (show 1 ≤ sizeLine by decide), fun l nl => q _ l (same_upd nl) upd_same⟩
      refine ⟨.ref a, rfl, a, _, 0, _, rfl, rfl, SqT.mk ha, atI_nat (j := 0) rfl, rfl, _, rfl, ?_⟩
      rw [wd_in hw]
      refine iteF ⟨Nat.zero_le _, fun l nl => ?_⟩
      have s1 := same_upd nl (o := .lst [])
      have hl := upd_same (H := H) (a := l) (o := .lst [])
      generalize upd H l (.lst []) = H1 at s1 hl ⊢
      refine ⟨.ref a, rfl, 1, rfl, a, _, rfl, SqT.mk (s1 _ _ ha), not_whole, fun t nt => ?_⟩
      rw [cut_tail]
      have s2 := s1.trans (same_upd nt (o := .tup us))
      have ht := upd_same (H := H1) (a := t) (o := .tup us)
      have hl2 := (same_upd nt (o := .tup us)) _ _ hl
      generalize upd H1 t (.tup us) = H2 at s2 ht hl2 ⊢
      refine ⟨t, rfl, ⟨_, SqT.mk ht⟩, for_tup (xs := us) (fun i σ G => ∃ l y2, σ = [some (.ref a), some (.ref l), y2] ∧ Same H2 G ∧ G l = some (.lst ((insN (f.sds.take i)).map V.int))) ⟨l, none, rfl, Same.refl H2, hl2⟩ ?_ ?_ ?_⟩
      · rintro i σ G _ ⟨l, y2, rfl, sG, hG⟩
        exact SqT.mk (sG _ _ ht)
      · rintro i u σ G hu ⟨l, y2, rfl, sG, hG⟩
        obtain ⟨g, hg1, hg2, hg⟩ := (hs.same (s2.trans sG)).get hu
        have gd := Fm.sds_dep hg2
        have gl := g.ins_len
        refine ⟨.ref l, rfl, u, rfl, g, u, rfl, hg, by omega, by omega, fun G2 p2 t2 h2 => ?_⟩
        have l1 := insN_le (f := f) i
        refine ⟨l, p2, _, _, rfl, rfl, t2 _ _ hG, h2, by rw [List.length_map, List.length_map, List.length_map]; omega, fun l3 n3 => ?_⟩
        refine ⟨l3, _, rfl, (sG.trans t2).trans (same_upd n3), ?_⟩
        rw [upd_same, List.take_add_one, hg1, Option.toList_some, insN_snoc, List.map_append]
      · rintro σ G ⟨l, y2, rfl, sG, hG⟩
        rw [hs.1, List.take_length] at hG
        unfold insN at hG
        rw [Fm.sds_ins hw] at hG
        exact ⟨.ref l, rfl, q G l (s2.trans sG) hG⟩
def sp__law_inputs (K : PySem.W.Frag) : Sp := spr__law_inputs 8 K
theorem ok__law_inputs (T : Defs K mg) : FnOk P w K mg base CX0 9 T.f__law_inputs T.fd__law_inputs ["_law_formula_here"] (sp__law_inputs K) := okr__law_inputs T 8
theorem fr_mulS {q b : Int} (t : Int) (hq : 0 < q) (hb : 0 < b) : frT (q * t) (q * b) = frT t b ∧ frB (q * t) (q * b) = frB t b := by
  have qb : 0 < q * b := Int.mul_pos hq hb
  have eg : ((Int.gcd (q * t) (q * b) : Nat) : Int) = q * (Int.gcd t b : Int) := by
    rw [Int.gcd_mul_left, Int.natCast_mul, Int.natAbs_of_nonneg (Int.le_of_lt hq)]
  unfold frT frB
  rw [eg, Int.sign_eq_one_of_pos qb, Int.sign_eq_one_of_pos hb, Int.one_mul, Int.one_mul, Int.natAbs_of_nonneg (Int.le_of_lt qb), Int.natAbs_of_nonneg (Int.le_of_lt hb)]
  exact ⟨Int.mul_ediv_mul_of_pos _ _ hq, Int.mul_ediv_mul_of_pos _ _ hq⟩
theorem fr_cross {s n b t : Int} (hn : 0 < n) (ht : 0 < t) (h : s * t = b * n) : frT s n = frT b t ∧ frB s n = frB b t := by
  obtain ⟨a1, a2⟩ := fr_mulS s ht hn
  obtain ⟨b1, b2⟩ := fr_mulS b hn ht
  rw [← a1, ← a2, ← b1, ← b2, Int.mul_comm t s, h, Int.mul_comm n b, Int.mul_comm t n]
  exact ⟨rfl, rfl⟩
/-! fractions of any sizes -/
theorem mulW {n m : Nat} {x y : Int} (h : S (n + 1) x) (k : S (m + 1) y) (l : n + m ≤ 9000) : CMulW x y := wide_mul h k (by omega) (by omega) (by omega)
def FrAt (H : Hp) (p : Addr) (x n : Int) : Prop := H p = some (.tup [.int (frT x n), .int (frB x n)])
def SqF (K : PySem.W.Frag) (H : Hp) (p : Addr) (t b : Int) : Prop := SqT K H p [.int (frT t b), .int (frB t b)]
theorem FrAt.same {H H' : Hp} {p : Addr} {x n : Int} (h : FrAt H p x n) (s : Same H H') : FrAt H' p x n := s _ _ h
theorem FrAt.sq {K : PySem.W.Frag} {H : Hp} {p : Addr} {x n : Int} (h : FrAt H p x n) : SqF K H p x n := SqT.mk h
theorem SqF.same {K : PySem.W.Frag} {H H' : Hp} {p : Addr} {x n : Int} (h : SqF K H p x n) (s : Same H H') : SqF K H' p x n := same_tup s h
theorem FrAt.cong {H : Hp} {p : Addr} {t b t' b' : Int} (h : FrAt H p t b) (hb : 0 < b) (hb' : 0 < b') (e : t * b' = t' * b) : FrAt H p t' b' := by
  obtain ⟨e1, e2⟩ := fr_cross hb hb' e
  unfold FrAt at *
  rw [← e1, ← e2]
  exact h
theorem fr_addG {a b c d : Int} (hb : 0 < b) (hd : 0 < d) : frT (frT a b * frB c d + frT c d * frB a b) (frB a b * frB c d) = frT (a * d + c * b) (b * d) ∧ frB (frT a b * frB c d + frT c d * frB a b) (frB a b * frB c d) = frB (a * d + c * b) (b * d) := by
  have e1 := fr_eq a (show b ≠ 0 by omega)
  have e2 := fr_eq c (show d ≠ 0 by omega)
  refine fr_cross (Int.mul_pos (fr_pos a (by omega)) (fr_pos c (by omega))) (Int.mul_pos hb hd) ?_
  rw [Int.add_mul, Int.add_mul]
  congr 1
  · rw [show frT a b * frB c d * (b * d) = (frT a b * b) * (frB c d * d) by simp only [Int.mul_comm, Int.mul_left_comm, Int.mul_assoc], e1]
    simp only [Int.mul_comm, Int.mul_left_comm, Int.mul_assoc]
  · rw [show frT c d * frB a b * (b * d) = (frT c d * d) * (frB a b * b) by simp only [Int.mul_comm, Int.mul_left_comm, Int.mul_assoc], e2]
    simp only [Int.mul_comm, Int.mul_left_comm, Int.mul_assoc]
theorem fr_subG {a b c d : Int} (hb : 0 < b) (hd : 0 < d) : frT (frT a b * frB c d - frT c d * frB a b) (frB a b * frB c d) = frT (a * d - c * b) (b * d) ∧ frB (frT a b * frB c d - frT c d * frB a b) (frB a b * frB c d) = frB (a * d - c * b) (b * d) := by
  have e1 := fr_eq a (show b ≠ 0 by omega)
  have e2 := fr_eq c (show d ≠ 0 by omega)
  refine fr_cross (Int.mul_pos (fr_pos a (by omega)) (fr_pos c (by omega))) (Int.mul_pos hb hd) ?_
  rw [Int.sub_mul, Int.sub_mul]
  congr 1
  · rw [show frT a b * frB c d * (b * d) = (frT a b * b) * (frB c d * d) by simp only [Int.mul_comm, Int.mul_left_comm, Int.mul_assoc], e1]
    simp only [Int.mul_comm, Int.mul_left_comm, Int.mul_assoc]
  · rw [show frT c d * frB a b * (b * d) = (frT c d * d) * (frB a b * b) by simp only [Int.mul_comm, Int.mul_left_comm, Int.mul_assoc], e2]
    simp only [Int.mul_comm, Int.mul_left_comm, Int.mul_assoc]
theorem fr_mulG {a b c d : Int} (hb : 0 < b) (hd : 0 < d) : frT (frT a b * frT c d) (frB a b * frB c d) = frT (a * c) (b * d) ∧ frB (frT a b * frT c d) (frB a b * frB c d) = frB (a * c) (b * d) := by
  have e1 := fr_eq a (show b ≠ 0 by omega)
  have e2 := fr_eq c (show d ≠ 0 by omega)
  refine fr_cross (Int.mul_pos (fr_pos a (by omega)) (fr_pos c (by omega))) (Int.mul_pos hb hd) ?_
  rw [show frT a b * frT c d * (b * d) = (frT a b * b) * (frT c d * d) by simp only [Int.mul_comm, Int.mul_left_comm, Int.mul_assoc], e1, e2]
  simp only [Int.mul_comm, Int.mul_left_comm, Int.mul_assoc]
theorem bd_ne {b d : Int} (h : 0 < b) (k : 0 < d) : b * d ≠ 0 := by
  have := Int.mul_pos h k
  omega
/-- two fractions handed in, one told -/
def spFr (K : PySem.W.Frag) (ft : Int → Int → Int → Int → Int) : Sp := fun vs H Q _ => ∃ (p r : Addr) (a b c d : Int), vs = [.ref p, .ref r] ∧ SqF K H p a b ∧ SqF K H r c d ∧ 0 < b ∧ 0 < d ∧ S 900 a ∧ S 900 b ∧ S 900 c ∧ S 900 d ∧
  ∀ H' t, Same H H' → FrAt H' t (ft a b c d) (b * d) → Q (.ref t) H'
abbrev sp_plus (K : PySem.W.Frag) : Sp := spFr K (fun a b c d => a * d + c * b)
abbrev sp_minus (K : PySem.W.Frag) : Sp := spFr K (fun a b c d => a * d - c * b)
abbrev sp_times (K : PySem.W.Frag) : Sp := spFr K (fun a _ c _ => a * c)
theorem ok_plus (T : Defs K mg) : FnOk P w K mg base CX0 3 T.f_plus T.fd_plus ["one", "other"] (sp_plus K) := by
  have G_fraction : FnOk P w K mg base CX0 2 T.f_fraction T.fd_fraction ["top", "bottom"] (sp_fraction K) := ok_fraction T
  refine T.F_plus.ok sc_plus (fun vs H Q E h => ?_) (fun cdv A outer s H vs Q E hr h => ?_)
  · obtain ⟨p, r, a, b, c, d, rfl, SP, SR, hb, hd, sa, sb, sc, sd, q⟩ := h
    rfl
  · obtain ⟨p, r, a, b, c, d, rfl, SP, SR, hb, hd, sa, sb, sc, sd, q⟩ := h
    refine ⟨_, PSs.nox (pss_one (ps_ret (pe_call G_fraction (hr.mono (by decide)) (by rfl) T.g_fraction T.F_fraction.kp T.b_fraction .nil pass0 (pa_cons (pe_op op_add (pe_op op_mulW (pe_ix ix_tup (pv 0) pe_int (fun _ _ => rfl)) (pe_ix ix_tup (pv 1) pe_int (fun _ _ => rfl))) (pe_op op_mulW (pe_ix ix_tup (pv 1) pe_int (fun _ _ => rfl)) (pe_ix ix_tup (pv 0) pe_int (fun _ _ => rfl)))) (pa_cons (pe_op op_mulW (pe_ix ix_tup (pv 0) pe_int (fun _ _ => rfl)) (pe_ix ix_tup (pv 1) pe_int (fun _ _ => rfl))) pa_nil))))), ?_⟩
    have b0 : b ≠ 0 := by omega
    have d0 : d ≠ 0 := by omega
    have ta := sa.frT (b := b) b0
    have tb := sb.frB (t := a) b0
    have tc := sc.frT (b := d) d0
    have td := sd.frB (t := c) d0
    refine ⟨.ref p, rfl, p, _, 0, _, rfl, rfl, SP, atI_nat (j := 0) rfl, .ref r, rfl, r, _, 1, _, rfl, rfl, SR, atI_nat (j := 1) rfl, _, _, rfl, rfl, mulW ta td (by decide), .ref r, rfl, r, _, 0, _, rfl, rfl, SR, atI_nat (j := 0) rfl, .ref p, rfl, p, _, 1, _, rfl, rfl, SP, atI_nat (j := 1) rfl, _, _, rfl, rfl, mulW tc tb (by decide), _, _, rfl, rfl, .ref p, rfl, p, _, 1, _, rfl, rfl, SP, atI_nat (j := 1) rfl, .ref r, rfl, r, _, 1, _, rfl, rfl, SR, atI_nat (j := 1) rfl, _, _, rfl, rfl, mulW tb td (by decide), ?_⟩
    refine ⟨_, _, rfl, bd_ne (fr_pos a b0) (fr_pos c d0), (tb.mul td).mono (by decide), fun H' t s nt ht => q H' t s ?_⟩
    obtain ⟨e1, e2⟩ := fr_addG (a := a) (c := c) hb hd
    unfold FrAt
    rw [← e1, ← e2]
    exact ht
theorem ok_minus (T : Defs K mg) : FnOk P w K mg base CX0 3 T.f_minus T.fd_minus ["one", "other"] (sp_minus K) := by
  have G_fraction : FnOk P w K mg base CX0 2 T.f_fraction T.fd_fraction ["top", "bottom"] (sp_fraction K) := ok_fraction T
  refine T.F_minus.ok sc_minus (fun vs H Q E h => ?_) (fun cdv A outer s H vs Q E hr h => ?_)
  · obtain ⟨p, r, a, b, c, d, rfl, SP, SR, hb, hd, sa, sb, sc, sd, q⟩ := h
    rfl
  · obtain ⟨p, r, a, b, c, d, rfl, SP, SR, hb, hd, sa, sb, sc, sd, q⟩ := h
    refine ⟨_, PSs.nox (pss_one (ps_ret (pe_call G_fraction (hr.mono (by decide)) (by rfl) T.g_fraction T.F_fraction.kp T.b_fraction .nil pass0 (pa_cons (pe_op op_sub (pe_op op_mulW (pe_ix ix_tup (pv 0) pe_int (fun _ _ => rfl)) (pe_ix ix_tup (pv 1) pe_int (fun _ _ => rfl))) (pe_op op_mulW (pe_ix ix_tup (pv 1) pe_int (fun _ _ => rfl)) (pe_ix ix_tup (pv 0) pe_int (fun _ _ => rfl)))) (pa_cons (pe_op op_mulW (pe_ix ix_tup (pv 0) pe_int (fun _ _ => rfl)) (pe_ix ix_tup (pv 1) pe_int (fun _ _ => rfl))) pa_nil))))), ?_⟩
    have b0 : b ≠ 0 := by omega
    have d0 : d ≠ 0 := by omega
    have ta := sa.frT (b := b) b0
    have tb := sb.frB (t := a) b0
    have tc := sc.frT (b := d) d0
    have td := sd.frB (t := c) d0
    refine ⟨.ref p, rfl, p, _, 0, _, rfl, rfl, SP, atI_nat (j := 0) rfl, .ref r, rfl, r, _, 1, _, rfl, rfl, SR, atI_nat (j := 1) rfl, _, _, rfl, rfl, mulW ta td (by decide), .ref r, rfl, r, _, 0, _, rfl, rfl, SR, atI_nat (j := 0) rfl, .ref p, rfl, p, _, 1, _, rfl, rfl, SP, atI_nat (j := 1) rfl, _, _, rfl, rfl, mulW tc tb (by decide), _, _, rfl, rfl, .ref p, rfl, p, _, 1, _, rfl, rfl, SP, atI_nat (j := 1) rfl, .ref r, rfl, r, _, 1, _, rfl, rfl, SR, atI_nat (j := 1) rfl, _, _, rfl, rfl, mulW tb td (by decide), ?_⟩
    refine ⟨_, _, rfl, bd_ne (fr_pos a b0) (fr_pos c d0), (tb.mul td).mono (by decide), fun H' t s nt ht => q H' t s ?_⟩
    obtain ⟨e1, e2⟩ := fr_subG (a := a) (c := c) hb hd
    unfold FrAt
    rw [← e1, ← e2]
    exact ht
theorem ok_times (T : Defs K mg) : FnOk P w K mg base CX0 3 T.f_times T.fd_times ["one", "other"] (sp_times K) := by
  have G_fraction : FnOk P w K mg base CX0 2 T.f_fraction T.fd_fraction ["top", "bottom"] (sp_fraction K) := ok_fraction T
  refine T.F_times.ok sc_times (fun vs H Q E h => ?_) (fun cdv A outer s H vs Q E hr h => ?_)
  · obtain ⟨p, r, a, b, c, d, rfl, SP, SR, hb, hd, sa, sb, sc, sd, q⟩ := h
    rfl
  · obtain ⟨p, r, a, b, c, d, rfl, SP, SR, hb, hd, sa, sb, sc, sd, q⟩ := h
    refine ⟨_, PSs.nox (pss_one (ps_ret (pe_call G_fraction (hr.mono (by decide)) (by rfl) T.g_fraction T.F_fraction.kp T.b_fraction .nil pass0 (pa_cons (pe_op op_mulW (pe_ix ix_tup (pv 0) pe_int (fun _ _ => rfl)) (pe_ix ix_tup (pv 1) pe_int (fun _ _ => rfl))) (pa_cons (pe_op op_mulW (pe_ix ix_tup (pv 0) pe_int (fun _ _ => rfl)) (pe_ix ix_tup (pv 1) pe_int (fun _ _ => rfl))) pa_nil))))), ?_⟩
    have b0 : b ≠ 0 := by omega
    have d0 : d ≠ 0 := by omega
    have ta := sa.frT (b := b) b0
    have tb := sb.frB (t := a) b0
    have tc := sc.frT (b := d) d0
    have td := sd.frB (t := c) d0
    refine ⟨.ref p, rfl, p, _, 0, _, rfl, rfl, SP, atI_nat (j := 0) rfl, .ref r, rfl, r, _, 0, _, rfl, rfl, SR, atI_nat (j := 0) rfl, _, _, rfl, rfl, mulW ta tc (by decide), .ref p, rfl, p, _, 1, _, rfl, rfl, SP, atI_nat (j := 1) rfl, .ref r, rfl, r, _, 1, _, rfl, rfl, SR, atI_nat (j := 1) rfl, _, _, rfl, rfl, mulW tb td (by decide), ?_⟩
    refine ⟨_, _, rfl, bd_ne (fr_pos a b0) (fr_pos c d0), (tb.mul td).mono (by decide), fun H' t s nt ht => q H' t s ?_⟩
    obtain ⟨e1, e2⟩ := fr_mulG (a := a) (c := c) hb hd
    unfold FrAt
    rw [← e1, ← e2]
    exact ht
/-! shares of two and three sides -/
def spSh (K : PySem.W.Frag) (ft : Int → Int → Int → Int → Int) : Sp := fun vs H Q _ => ∃ (p r : Addr) (a x b y : Int), vs = [.ref p, .ref r] ∧ SqF K H p a x ∧ SqF K H r b y ∧ 0 < x ∧ 0 < y ∧ S 200 a ∧ S 200 x ∧ S 200 b ∧ S 200 y ∧
  ∀ H' t, Same H H' → FrAt H' t (ft a x b y) (x * y) → Q (.ref t) H'
abbrev sp_either_share (K : PySem.W.Frag) : Sp := spSh K (fun a x b y => a * y + b * x - a * b)
abbrev sp_oneof_share (K : PySem.W.Frag) : Sp := spSh K (fun a x b y => a * y + b * x - 2 * a * b)
theorem ok_either_share (T : Defs K mg) : FnOk P w K mg base CX0 4 T.f_either_share T.fd_either_share ["x", "y"] (sp_either_share K) := by
  have G_minus : FnOk P w K mg base CX0 3 T.f_minus T.fd_minus ["one", "other"] (sp_minus K) := ok_minus T
  have G_plus : FnOk P w K mg base CX0 3 T.f_plus T.fd_plus ["one", "other"] (sp_plus K) := ok_plus T
  have G_times : FnOk P w K mg base CX0 3 T.f_times T.fd_times ["one", "other"] (sp_times K) := ok_times T
  refine T.F_either_share.ok sc_either_share (fun vs H Q E h => ?_) (fun cdv A outer s H vs Q E hr h => ?_)
  · obtain ⟨p, r, a, x, b, y, rfl, SP, SR, hx, hy, sa, sx, sb, sy, q⟩ := h
    rfl
  · obtain ⟨p, r, a, x, b, y, rfl, SP, SR, hx, hy, sa, sx, sb, sy, q⟩ := h
    refine ⟨_, PSs.nox (pss_one (ps_ret (pe_call G_minus (hr.mono (by decide)) (by rfl) T.g_minus T.F_minus.kp T.b_minus .nil pass0 (pa_cons (pe_call G_plus (hr.mono (by decide)) (by rfl) T.g_plus T.F_plus.kp T.b_plus .nil pass0 (pa_cons (pv 0) (pa_cons (pv 1) pa_nil))) (pa_cons (pe_call G_times (hr.mono (by decide)) (by rfl) T.g_times T.F_times.kp T.b_times .nil pass0 (pa_cons (pv 0) (pa_cons (pv 1) pa_nil))) pa_nil))))), ?_⟩
    have xy : 0 < x * y := Int.mul_pos hx hy
    have sxy := sx.mul sy
    have say := sa.mul sy
    have sbx := sb.mul sx
    have sab := sa.mul sb
    refine ⟨.ref p, rfl, .ref r, rfl, p, r, a, x, b, y, rfl, SP, SR, hx, hy, sa.mono (by decide), sx.mono (by decide), sb.mono (by decide), sy.mono (by decide), fun H1 t1 s1 h1 => ?_⟩
    refine ⟨.ref p, rfl, .ref r, rfl, p, r, a, x, b, y, rfl, SP.same s1, SR.same s1, hx, hy, sa.mono (by decide), sx.mono (by decide), sb.mono (by decide), sy.mono (by decide), fun H2 t2 s2 h2 => ?_⟩
    refine ⟨t1, t2, _, _, _, _, rfl, (h1.same s2).sq, h2.sq, xy, xy, (say.add sbx).mono (by decide), sxy.mono (by decide), sab.mono (by decide), sxy.mono (by decide), fun H3 t3 s3 h3 => q H3 t3 ((s1.trans s2).trans s3) (h3.cong (Int.mul_pos xy xy) xy ?_)⟩
    dsimp only
    rw [← Int.sub_mul, Int.mul_assoc]
theorem ok_oneof_share (T : Defs K mg) : FnOk P w K mg base CX0 5 T.f_oneof_share T.fd_oneof_share ["x", "y"] (sp_oneof_share K) := by
  have G_minus : FnOk P w K mg base CX0 3 T.f_minus T.fd_minus ["one", "other"] (sp_minus K) := ok_minus T
  have G_either_share : FnOk P w K mg base CX0 4 T.f_either_share T.fd_either_share ["x", "y"] (sp_either_share K) := ok_either_share T
  have G_times : FnOk P w K mg base CX0 3 T.f_times T.fd_times ["one", "other"] (sp_times K) := ok_times T
  refine T.F_oneof_share.ok sc_oneof_share (fun vs H Q E h => ?_) (fun cdv A outer s H vs Q E hr h => ?_)
  · obtain ⟨p, r, a, x, b, y, rfl, SP, SR, hx, hy, sa, sx, sb, sy, q⟩ := h
    rfl
  · obtain ⟨p, r, a, x, b, y, rfl, SP, SR, hx, hy, sa, sx, sb, sy, q⟩ := h
    refine ⟨_, PSs.nox (pss_one (ps_ret (pe_call G_minus (hr.mono (by decide)) (by rfl) T.g_minus T.F_minus.kp T.b_minus .nil pass0 (pa_cons (pe_call G_either_share (hr.mono (by decide)) (by rfl) T.g_either_share T.F_either_share.kp T.b_either_share .nil pass0 (pa_cons (pv 0) (pa_cons (pv 1) pa_nil))) (pa_cons (pe_call G_times (hr.mono (by decide)) (by rfl) T.g_times T.F_times.kp T.b_times .nil pass0 (pa_cons (pv 0) (pa_cons (pv 1) pa_nil))) pa_nil))))), ?_⟩
    have xy : 0 < x * y := Int.mul_pos hx hy
    have sxy := sx.mul sy
    have say := sa.mul sy
    have sbx := sb.mul sx
    have sab := sa.mul sb
    refine ⟨.ref p, rfl, .ref r, rfl, p, r, a, x, b, y, rfl, SP, SR, hx, hy, sa, sx, sb, sy, fun H1 t1 s1 h1 => ?_⟩
    refine ⟨.ref p, rfl, .ref r, rfl, p, r, a, x, b, y, rfl, SP.same s1, SR.same s1, hx, hy, sa.mono (by decide), sx.mono (by decide), sb.mono (by decide), sy.mono (by decide), fun H2 t2 s2 h2 => ?_⟩
    refine ⟨t1, t2, _, _, _, _, rfl, (h1.same s2).sq, h2.sq, xy, xy, ((say.add sbx).sub (sab.mono (by decide))).mono (by decide), sxy.mono (by decide), sab.mono (by decide), sxy.mono (by decide), fun H3 t3 s3 h3 => q H3 t3 ((s1.trans s2).trans s3) (h3.cong (Int.mul_pos xy xy) xy ?_)⟩
    dsimp only
    rw [← Int.sub_mul, show a * y + b * x - a * b - a * b = a * y + b * x - 2 * a * b by rw [Int.mul_assoc 2]; omega, Int.mul_assoc]
def sp_pick_share (K : PySem.W.Frag) : Sp := fun vs H Q _ => ∃ (p r u : Addr) (a x b y c z : Int), vs = [.ref p, .ref r, .ref u] ∧ SqF K H p a x ∧ SqF K H r b y ∧ SqF K H u c z ∧ 0 < x ∧ 0 < y ∧ 0 < z ∧ S 200 a ∧ S 200 x ∧ S 200 b ∧ S 200 y ∧ S 200 c ∧ S 200 z ∧
  ∀ H' t, Same H H' → FrAt H' t (a * b * z + (x - a) * c * y) (x * y * z) → Q (.ref t) H'
theorem S_one : S 900 1 := by
  unfold S
  exact Nat.one_lt_two_pow (by decide)
theorem whole_sq {K : PySem.W.Frag} {H : Hp} {a : Addr} (h : TupK K a [1, 1]) : SqF K H a 1 1 := .inr h
theorem ok_pick_share (T : Defs K mg) : FnOk P w K mg base CX0 4 T.f_pick_share T.fd_pick_share ["x", "y", "z"] (sp_pick_share K) := by
  have G_plus : FnOk P w K mg base CX0 3 T.f_plus T.fd_plus ["one", "other"] (sp_plus K) := ok_plus T
  have G_times : FnOk P w K mg base CX0 3 T.f_times T.fd_times ["one", "other"] (sp_times K) := ok_times T
  have G_minus : FnOk P w K mg base CX0 3 T.f_minus T.fd_minus ["one", "other"] (sp_minus K) := ok_minus T
  refine T.F_pick_share.ok sc_pick_share (fun vs H Q E h => ?_) (fun cdv A outer s H vs Q E hr h => ?_)
  · obtain ⟨p, r, u, a, x, b, y, c, z, rfl, SP, SR, SU, hx, hy, hz, sa, sx, sb, sy, sc, sz, q⟩ := h
    rfl
  · obtain ⟨p, r, u, a, x, b, y, c, z, rfl, SP, SR, SU, hx, hy, hz, sa, sx, sb, sy, sc, sz, q⟩ := h
    refine ⟨_, PSs.nox (pss_one (ps_ret (pe_call G_plus (hr.mono (by decide)) (by rfl) T.g_plus T.F_plus.kp T.b_plus .nil pass0 (pa_cons (pe_call G_times (hr.mono (by decide)) (by rfl) T.g_times T.F_times.kp T.b_times .nil pass0 (pa_cons (pv 0) (pa_cons (pv 1) pa_nil))) (pa_cons (pe_call G_times (hr.mono (by decide)) (by rfl) T.g_times T.F_times.kp T.b_times .nil pass0 (pa_cons (pe_call G_minus (hr.mono (by decide)) (by rfl) T.g_minus T.F_minus.kp T.b_minus .nil pass0 (pa_cons (pe_glob (v := .ref T.C_WHOLE) (by rfl) T.g_WHOLE rfl) (pa_cons (pv 0) pa_nil))) (pa_cons (pv 2) pa_nil))) pa_nil))))), ?_⟩
    have xy : 0 < x * y := Int.mul_pos hx hy
    have xz : 0 < x * z := Int.mul_pos hx hz
    have xyz : 0 < x * y * z := Int.mul_pos xy hz
    have sxy := sx.mul sy
    have sab := sa.mul sb
    have sxz := sx.mul sz
    refine ⟨.ref p, rfl, .ref r, rfl, p, r, a, x, b, y, rfl, SP, SR, hx, hy, sa.mono (by decide), sx.mono (by decide), sb.mono (by decide), sy.mono (by decide), fun H1 t1 s1 h1 => ?_⟩
    refine ⟨.ref p, rfl, T.C_WHOLE, p, 1, 1, a, x, rfl, whole_sq T.q_WHOLE, SP.same s1, by decide, hx, S_one, S_one, sa.mono (by decide), sx.mono (by decide), fun H2 t2 s2 h2 => ?_⟩
    have s12 := s1.trans s2
    have h2' : FrAt H2 t2 (x - a) x := h2.cong (by omega) hx (by dsimp only; rw [Int.one_mul, Int.mul_one])
    have sxa : S 201 (x - a) := sx.sub sa
    refine ⟨.ref u, rfl, t2, u, x - a, x, c, z, rfl, h2'.sq, SU.same s12, hx, hz, sxa.mono (by decide), sx.mono (by decide), sc.mono (by decide), sz.mono (by decide), fun H3 t3 s3 h3 => ?_⟩
    refine ⟨t1, t3, _, _, _, _, rfl, ((h1.same s2).same s3).sq, h3.sq, xy, xz, sab.mono (by decide), sxy.mono (by decide), (sxa.mul sc).mono (by decide), sxz.mono (by decide), fun H4 t4 s4 h4 => q H4 t4 ((s12.trans s3).trans s4) (h4.cong (Int.mul_pos xy xz) xyz ?_)⟩
    dsimp only
    rw [Int.add_mul, Int.add_mul]
    congr 1
    · simp only [Int.mul_comm, Int.mul_left_comm, Int.mul_assoc]
    · simp only [Int.mul_comm, Int.mul_left_comm, Int.mul_assoc]
/-! a thing of a list, or another -/
def sp_thing_at (_ : PySem.W.Frag) : Sp := fun vs H Q _ => ∃ (l : Addr) (xs : List V) (i : Nat) (x o : V), vs = [.ref l, .int (i : Nat), o] ∧ H l = some (.lst xs) ∧ xs[i]? = some x ∧ Q x H
theorem ok_thing_at (T : Defs K mg) : FnOk P w K mg base CX0 1 T.f_thing_at T.fd_thing_at ["things", "i", "other"] (sp_thing_at K) := by
  refine T.F_thing_at.ok sc_thing_at (fun vs H Q E h => ?_) (fun cdv A outer s H vs Q E hr h => ?_)
  · obtain ⟨l, xs, i, x, o, rfl, hl, hx, q⟩ := h
    rfl
  · obtain ⟨l, xs, i, x, o, rfl, hl, hx, q⟩ := h
    refine ⟨_, PSs.nox (pss_one (ps_ret (pe_ifExp (pt_chain op_le op_lt pe_int (pv 1) (pe_callB call_len_seq (by rfl) T.m_len bt_len (pa_cons (pv 0) pa_nil))) (pe_ix ix_list (pv 0) (pv 1) (fun _ _ => rfl)) (pv 2)))), ?_⟩
    have hi := (List.getElem?_eq_some_iff.mp hx).1
    refine ⟨_, rfl, _, _, rfl, rfl, _, rfl, ite2 (fun _ => ?_) (fun z => absurd (decide_eq_true (by omega)) z)⟩
    refine ⟨.ref l, rfl, l, _, rfl, .inl (SqL.mk hl), _, _, rfl, rfl, _, rfl, ite2 (fun _ => ?_) (fun z => absurd (decide_eq_true (by omega)) z)⟩
    exact ⟨.ref l, rfl, _, rfl, l, _, _, _, rfl, rfl, SqL.mk hl, atI_nat hx, q⟩
/-! plain shares -/
def Fm.pl (cs : List (Int × Int)) : Fm → Int × Int
  | .inp i => cs.getD i (0, 1)
  | .less f => ((f.pl cs).2 - (f.pl cs).1, (f.pl cs).2)
  | .both f g => ((f.pl cs).1 * (g.pl cs).1, (f.pl cs).2 * (g.pl cs).2)
  | .either f g => ((f.pl cs).1 * (g.pl cs).2 + (g.pl cs).1 * (f.pl cs).2 - (f.pl cs).1 * (g.pl cs).1, (f.pl cs).2 * (g.pl cs).2)
  | .oneof f g => ((f.pl cs).1 * (g.pl cs).2 + (g.pl cs).1 * (f.pl cs).2 - 2 * (f.pl cs).1 * (g.pl cs).1, (f.pl cs).2 * (g.pl cs).2)
  | .pick f g h => ((f.pl cs).1 * (g.pl cs).1 * (h.pl cs).2 + ((f.pl cs).2 - (f.pl cs).1) * (h.pl cs).1 * (g.pl cs).2, (f.pl cs).2 * (g.pl cs).2 * (h.pl cs).2)
/-- a share, in lowest terms -/
structure ShOk (c : Int × Int) : Prop where
  lo : 0 ≤ c.1
  hi : c.1 ≤ c.2
  po : 0 < c.2
  sm : c.2 < 2 ^ 7
  rt : frT c.1 c.2 = c.1
  rb : frB c.1 c.2 = c.2
structure PlOk (n : Nat) (c : Int × Int) : Prop where
  lo : 0 ≤ c.1
  hi : c.1 ≤ c.2
  po : 0 < c.2
  sm : c.2 < 2 ^ n
theorem PlOk.mono {n m : Nat} {c : Int × Int} (h : PlOk n c) (l : n ≤ m) : PlOk m c := ⟨h.lo, h.hi, h.po, by
  have h1 := h.sm
  have h0 := h.po
  have e : (2 : Nat) ^ n ≤ 2 ^ m := Nat.pow_le_pow_right (by decide) l
  have e2 : (((2 : Nat) ^ n : Nat) : Int) = (2 : Int) ^ n := by simp
  have e3 : (((2 : Nat) ^ m : Nat) : Int) = (2 : Int) ^ m := by simp
  omega⟩
theorem mul_lt2 {n m : Nat} {x y : Int} (hx : 0 < x) (hx2 : x < 2 ^ n) (hy : 0 < y) (hy2 : y < 2 ^ m) : 0 < x * y ∧ x * y < 2 ^ (n + m) := by
  refine ⟨Int.mul_pos hx hy, ?_⟩
  rw [Int.pow_add]
  have h0 : (0 : Int) < 2 ^ n := Int.pow_pos (by decide)
  calc x * y < 2 ^ n * y := Int.mul_lt_mul_of_pos_right hx2 hy
    _ < 2 ^ n * 2 ^ m := Int.mul_lt_mul_of_pos_left hy2 h0
theorem PlOk.less {n : Nat} {a x : Int} (h : PlOk n (a, x)) : PlOk n (x - a, x) := ⟨by have := h.hi; show 0 ≤ x - a; omega, by have := h.lo; show x - a ≤ x; omega, h.po, h.sm⟩
theorem PlOk.both {n m : Nat} {a x b y : Int} (h : PlOk n (a, x)) (k : PlOk m (b, y)) : PlOk (n + m) (a * b, x * y) := by
  obtain ⟨h1, h2⟩ := mul_lt2 h.po h.sm k.po k.sm
  exact ⟨Int.mul_nonneg h.lo k.lo, Int.mul_le_mul h.hi k.hi k.lo (Int.le_of_lt h.po), h1, h2⟩
theorem PlOk.either {n m : Nat} {a x b y : Int} (h : PlOk n (a, x)) (k : PlOk m (b, y)) : PlOk (n + m) (a * y + b * x - a * b, x * y) := by
  obtain ⟨h1, h2⟩ := mul_lt2 h.po h.sm k.po k.sm
  have hl : 0 ≤ a := h.lo
  have hh : a ≤ x := h.hi
  have kl : 0 ≤ b := k.lo
  have kh : b ≤ y := k.hi
  have e1 : 0 ≤ a * (y - b) := Int.mul_nonneg hl (by omega)
  have e2 : 0 ≤ b * x := Int.mul_nonneg kl (by omega)
  have e3 : 0 ≤ (x - a) * (y - b) := Int.mul_nonneg (by omega) (by omega)
  rw [Int.mul_sub] at e1
  rw [Int.sub_mul, Int.mul_sub, Int.mul_sub, Int.mul_comm x b] at e3
  exact ⟨by show 0 ≤ a * y + b * x - a * b; omega, by show a * y + b * x - a * b ≤ x * y; omega, h1, h2⟩
theorem PlOk.oneof {n m : Nat} {a x b y : Int} (h : PlOk n (a, x)) (k : PlOk m (b, y)) : PlOk (n + m) (a * y + b * x - 2 * a * b, x * y) := by
  obtain ⟨h1, h2⟩ := mul_lt2 h.po h.sm k.po k.sm
  have hl : 0 ≤ a := h.lo
  have hh : a ≤ x := h.hi
  have kl : 0 ≤ b := k.lo
  have kh : b ≤ y := k.hi
  have e1 : 0 ≤ a * (y - b) := Int.mul_nonneg hl (by omega)
  have e2 : 0 ≤ (x - a) * b := Int.mul_nonneg (by omega) kl
  have e3 : 0 ≤ (x - a) * (y - b) := Int.mul_nonneg (by omega) (by omega)
  have e4 : 0 ≤ a * b := Int.mul_nonneg hl kl
  rw [Int.mul_sub] at e1
  rw [Int.sub_mul, Int.mul_comm x b] at e2
  rw [Int.sub_mul, Int.mul_sub, Int.mul_sub, Int.mul_comm x b] at e3
  refine ⟨?_, ?_, h1, h2⟩
  · show 0 ≤ a * y + b * x - 2 * a * b
    rw [Int.mul_assoc]
    omega
  · show a * y + b * x - 2 * a * b ≤ x * y
    rw [Int.mul_assoc]
    omega
theorem PlOk.pick {n m l : Nat} {a x b y c z : Int} (h : PlOk n (a, x)) (k : PlOk m (b, y)) (j : PlOk l (c, z)) : PlOk (n + m + l) (a * b * z + (x - a) * c * y, x * y * z) := by
  obtain ⟨h1, h2⟩ := mul_lt2 h.po h.sm k.po k.sm
  obtain ⟨h3, h4⟩ := mul_lt2 h1 h2 j.po j.sm
  have hl : 0 ≤ a := h.lo
  have hh : a ≤ x := h.hi
  have kl : 0 ≤ b := k.lo
  have kh : b ≤ y := k.hi
  have jl : 0 ≤ c := j.lo
  have jh : c ≤ z := j.hi
  have kp : 0 < y := k.po
  have jp : 0 < z := j.po
  have e1 : 0 ≤ a * b * z := Int.mul_nonneg (Int.mul_nonneg hl kl) (by omega)
  have e2 : 0 ≤ (x - a) * c * y := Int.mul_nonneg (Int.mul_nonneg (by omega) jl) (by omega)
  have e3 : 0 ≤ a * (y - b) * z := Int.mul_nonneg (Int.mul_nonneg hl (by omega)) (by omega)
  have e4 : 0 ≤ (x - a) * (z - c) * y := Int.mul_nonneg (Int.mul_nonneg (by omega) (by omega)) (by omega)
  have e5 : a * (y - b) * z = a * y * z - a * b * z := by rw [Int.mul_sub, Int.sub_mul]
  have e6 : (x - a) * (z - c) * y = x * y * z - a * y * z - (x - a) * c * y := by
    rw [Int.mul_sub, Int.sub_mul, Int.sub_mul x a z, Int.sub_mul]
    congr 2
    · rw [Int.mul_assoc, Int.mul_comm z y, Int.mul_assoc]
    · rw [Int.mul_assoc, Int.mul_comm z y, Int.mul_assoc]
  exact ⟨by show 0 ≤ a * b * z + (x - a) * c * y; omega, by show a * b * z + (x - a) * c * y ≤ x * y * z; omega, h3, h4⟩
theorem pl_ok {cs : List (Int × Int)} (hc : ∀ c, c ∈ cs → ShOk c) : ∀ f : Fm, (∀ i, i ∈ f.ins → i < cs.length) → PlOk (7 * f.ins.length) (f.pl cs)
  | .inp i, h => by
    have hi := h i List.mem_cons_self
    have := hc _ (List.getElem_mem hi)
    show PlOk 7 (cs.getD i (0, 1))
    rw [List.getD_eq_getElem?_getD, List.getElem?_eq_getElem hi]
    exact ⟨this.lo, this.hi, this.po, this.sm⟩
  | .less f, h => (pl_ok hc f h).less
  | .both f g, h => by
    have := (pl_ok hc f fun i hi => h i (List.mem_append_left _ hi)).both (pl_ok hc g fun i hi => h i (List.mem_append_right _ hi))
    simp only [Fm.ins, List.length_append, Nat.mul_add]
    exact this
  | .either f g, h => by
    have := (pl_ok hc f fun i hi => h i (List.mem_append_left _ hi)).either (pl_ok hc g fun i hi => h i (List.mem_append_right _ hi))
    simp only [Fm.ins, List.length_append, Nat.mul_add]
    exact this
  | .oneof f g, h => by
    have := (pl_ok hc f fun i hi => h i (List.mem_append_left _ hi)).oneof (pl_ok hc g fun i hi => h i (List.mem_append_right _ hi))
    simp only [Fm.ins, List.length_append, Nat.mul_add]
    exact this
  | .pick f g k, h => by
    have := (pl_ok hc f fun i hi => h i (List.mem_append_left _ hi)).pick (pl_ok hc g fun i hi => h i (List.mem_append_right _ (List.mem_append_left _ hi))) (pl_ok hc k fun i hi => h i (List.mem_append_right _ (List.mem_append_right _ hi)))
    simp only [Fm.ins, List.length_append, Nat.mul_add, ← Nat.add_assoc]
    exact this
theorem PlOk.S {n : Nat} {c : Int × Int} (h : PlOk n c) (l : n ≤ 200) : S 200 c.1 ∧ S 200 c.2 := by
  have h1 := (h.mono l).sm
  have h2 := h.lo
  have h3 := h.hi
  have h4 := h.po
  have e : (((2 : Nat) ^ 200 : Nat) : Int) = (2 : Int) ^ 200 := by simp
  constructor
  · show c.1.natAbs < 2 ^ 200
    omega
  · show c.2.natAbs < 2 ^ 200
    omega
/-- shares in a list -/
def ShAt (H : Hp) (l : Addr) (cs : List (Int × Int)) : Prop := ∃ ts : List Addr, H l = some (.lst (ts.map V.ref)) ∧ ts.length = cs.length ∧ ∀ (i : Nat) (t : Addr) (c : Int × Int), ts[i]? = some t → cs[i]? = some c → H t = some (.tup [.int c.1, .int c.2])
theorem ShAt.same {H H' : Hp} {l : Addr} {cs : List (Int × Int)} (h : ShAt H l cs) (s : Same H H') : ShAt H' l cs := by
  obtain ⟨ts, h1, h2, h3⟩ := h
  exact ⟨ts, s _ _ h1, h2, fun i t c a b => s _ _ (h3 i t c a b)⟩
theorem ShAt.get {H : Hp} {l : Addr} {cs : List (Int × Int)} (h : ShAt H l cs) {i : Nat} (hi : i < cs.length) : ∃ xs t, H l = some (.lst xs) ∧ xs[i]? = some (.ref t) ∧ H t = some (.tup [.int (cs.getD i (0, 1)).1, .int (cs.getD i (0, 1)).2]) := by
  obtain ⟨ts, h1, h2, h3⟩ := h
  have hi2 : i < ts.length := by omega
  refine ⟨_, ts[i], h1, by rw [List.getElem?_map, List.getElem?_eq_getElem hi2]; rfl, ?_⟩
  rw [List.getD_eq_getElem?_getD, List.getElem?_eq_getElem hi]
  exact h3 i _ _ (List.getElem?_eq_getElem hi2) (List.getElem?_eq_getElem hi)
theorem sh_fr {cs : List (Int × Int)} (hc : ∀ c, c ∈ cs → ShOk c) {i : Nat} (hi : i < cs.length) : ShOk (cs.getD i (0, 1)) := by
  rw [List.getD_eq_getElem?_getD, List.getElem?_eq_getElem hi]
  exact hc _ (List.getElem_mem hi)
def spr_plain_share (d : Nat) (_ : PySem.W.Frag) : Sp := fun vs H Q _ => ∃ f v l cs, vs = [v, .ref l] ∧ FmAt H f v ∧ f.dep ≤ d ∧ f.sz ≤ 28 ∧ ShAt H l cs ∧ (∀ i, i ∈ f.ins → i < cs.length) ∧ (∀ c, c ∈ cs → ShOk c) ∧
  ∀ H' t, Same H H' → FrAt H' t (f.pl cs).1 (f.pl cs).2 → Q (.ref t) H'
theorem no_plain_share {K : PySem.W.Frag} {vs : List V} {H : Hp} {Q : VK} {E : XK} (h : spr_plain_share 0 K vs H Q E) : False := by
  obtain ⟨f, v, l, cs, _, _, z, _⟩ := h
  have := f.dep_pos
  omega
theorem pl_small {cs : List (Int × Int)} (hc : ∀ c, c ∈ cs → ShOk c) {f : Fm} (h : ∀ i, i ∈ f.ins → i < cs.length) (sz : f.sz ≤ 28) : 0 < (f.pl cs).2 ∧ S 200 (f.pl cs).1 ∧ S 200 (f.pl cs).2 := by
  have a := pl_ok hc f h
  have b := f.ins_len
  have c := a.S (by omega)
  exact ⟨a.po, c.1, c.2⟩
theorem okr_plain_share (T : Defs K mg) : ∀ d : Nat, FnOk P w K mg base CX0 (5 + d) T.f_plain_share T.fd_plain_share ["formula", "shares"] (spr_plain_share d K)
  | 0 => ⟨fun _ _ _ _ z => (no_plain_share z).elim, fun _ _ _ _ _ _ _ _ _ _ _ _ _ z => (no_plain_share z).elim⟩
  | d + 1 => by
    have G_thing_at : FnOk P w K mg base CX0 1 T.f_thing_at T.fd_thing_at ["things", "i", "other"] (sp_thing_at K) := ok_thing_at T
    have G_minus : FnOk P w K mg base CX0 3 T.f_minus T.fd_minus ["one", "other"] (sp_minus K) := ok_minus T
    have G_times : FnOk P w K mg base CX0 3 T.f_times T.fd_times ["one", "other"] (sp_times K) := ok_times T
    have G_either_share : FnOk P w K mg base CX0 4 T.f_either_share T.fd_either_share ["x", "y"] (sp_either_share K) := ok_either_share T
    have G_oneof_share : FnOk P w K mg base CX0 5 T.f_oneof_share T.fd_oneof_share ["x", "y"] (sp_oneof_share K) := ok_oneof_share T
    have G_pick_share : FnOk P w K mg base CX0 4 T.f_pick_share T.fd_pick_share ["x", "y", "z"] (sp_pick_share K) := ok_pick_share T
    have G_plain_share : FnOk P w K mg base CX0 (5 + d) T.f_plain_share T.fd_plain_share ["formula", "shares"] (spr_plain_share d K) := okr_plain_share T d
    show FnOk P w K mg base CX0 ((5 + d) + 1) T.f_plain_share T.fd_plain_share ["formula", "shares"] (spr_plain_share (d + 1) K)
    refine T.F_plain_share.ok sc_plain_share (fun vs H Q E h => ?_) (fun cdv A outer s H vs Q E hr h => ?_)
    · obtain ⟨f, v, l, cs, rfl, hf, dp, sz, hl, hi, hc, q⟩ := h
      rfl
    · obtain ⟨f, v, l, cs, rfl, hf, dp, sz, hl, hi, hc, q⟩ := h
      refine ⟨_, PSs.nox (pss_one (ps_match (pv 0) (pcs_seq rfl sc_plain_share.nd pe_str (pcap_cons (i := 2) rfl (.inl rfl) pcap_nil) (pss_one (ps_ret (pe_call G_thing_at (hr.mono (by omega)) (by rfl) T.g_thing_at T.F_thing_at.kp T.b_thing_at .nil pass0 (pa_cons (pv 1) (pa_cons (pv 2) (pa_cons (pe_glob (v := .ref T.C_NOUGHT) (by rfl) T.g_NOUGHT rfl) pa_nil))))))
    (pcs_seq rfl sc_plain_share.nd pe_str (pcap_cons (i := 3) rfl (.inl rfl) pcap_nil) (pss_one (ps_ret (pe_call G_minus (hr.mono (by omega)) (by rfl) T.g_minus T.F_minus.kp T.b_minus .nil pass0 (pa_cons (pe_glob (v := .ref T.C_WHOLE) (by rfl) T.g_WHOLE rfl) (pa_cons (pe_call G_plain_share (hr.mono (by omega)) (by rfl) T.g_plain_share T.F_plain_share.kp T.b_plain_share .nil pass0 (pa_cons (pv 3) (pa_cons (pv 1) pa_nil))) pa_nil)))))
    (pcs_seq rfl sc_plain_share.nd pe_str (pcap_cons (i := 3) rfl (.inl rfl) (pcap_cons (i := 4) rfl (.inl rfl) pcap_nil)) (pss_one (ps_ret (pe_call G_times (hr.mono (by omega)) (by rfl) T.g_times T.F_times.kp T.b_times .nil pass0 (pa_cons (pe_call G_plain_share (hr.mono (by omega)) (by rfl) T.g_plain_share T.F_plain_share.kp T.b_plain_share .nil pass0 (pa_cons (pv 3) (pa_cons (pv 1) pa_nil))) (pa_cons (pe_call G_plain_share (hr.mono (by omega)) (by rfl) T.g_plain_share T.F_plain_share.kp T.b_plain_share .nil pass0 (pa_cons (pv 4) (pa_cons (pv 1) pa_nil))) pa_nil)))))
    (pcs_seq rfl sc_plain_share.nd pe_str (pcap_cons (i := 3) rfl (.inl rfl) (pcap_cons (i := 4) rfl (.inl rfl) pcap_nil)) (pss_one (ps_ret (pe_call G_either_share (hr.mono (by omega)) (by rfl) T.g_either_share T.F_either_share.kp T.b_either_share .nil pass0 (pa_cons (pe_call G_plain_share (hr.mono (by omega)) (by rfl) T.g_plain_share T.F_plain_share.kp T.b_plain_share .nil pass0 (pa_cons (pv 3) (pa_cons (pv 1) pa_nil))) (pa_cons (pe_call G_plain_share (hr.mono (by omega)) (by rfl) T.g_plain_share T.F_plain_share.kp T.b_plain_share .nil pass0 (pa_cons (pv 4) (pa_cons (pv 1) pa_nil))) pa_nil)))))
    (pcs_seq rfl sc_plain_share.nd pe_str (pcap_cons (i := 3) rfl (.inl rfl) (pcap_cons (i := 4) rfl (.inl rfl) pcap_nil)) (pss_one (ps_ret (pe_call G_oneof_share (hr.mono (by omega)) (by rfl) T.g_oneof_share T.F_oneof_share.kp T.b_oneof_share .nil pass0 (pa_cons (pe_call G_plain_share (hr.mono (by omega)) (by rfl) T.g_plain_share T.F_plain_share.kp T.b_plain_share .nil pass0 (pa_cons (pv 3) (pa_cons (pv 1) pa_nil))) (pa_cons (pe_call G_plain_share (hr.mono (by omega)) (by rfl) T.g_plain_share T.F_plain_share.kp T.b_plain_share .nil pass0 (pa_cons (pv 4) (pa_cons (pv 1) pa_nil))) pa_nil)))))
    (pcs_seq rfl sc_plain_share.nd pe_str (pcap_cons (i := 3) rfl (.inl rfl) (pcap_cons (i := 4) rfl (.inl rfl) (pcap_cons (i := 5) rfl (.inl rfl) pcap_nil))) (pss_one (ps_ret (pe_call G_pick_share (hr.mono (by omega)) (by rfl) T.g_pick_share T.F_pick_share.kp T.b_pick_share .nil pass0 (pa_cons (pe_call G_plain_share (hr.mono (by omega)) (by rfl) T.g_plain_share T.F_plain_share.kp T.b_plain_share .nil pass0 (pa_cons (pv 3) (pa_cons (pv 1) pa_nil))) (pa_cons (pe_call G_plain_share (hr.mono (by omega)) (by rfl) T.g_plain_share T.F_plain_share.kp T.b_plain_share .nil pass0 (pa_cons (pv 4) (pa_cons (pv 1) pa_nil))) (pa_cons (pe_call G_plain_share (hr.mono (by omega)) (by rfl) T.g_plain_share T.F_plain_share.kp T.b_plain_share .nil pass0 (pa_cons (pv 5) (pa_cons (pv 1) pa_nil))) pa_nil))))))
    pcs_nil)))))))), ?_⟩
      cases f with
      | inp i =>
        obtain ⟨a, rfl, ha⟩ := hf
        have h1 := hi i List.mem_cons_self
        obtain ⟨xs, t, hxs, hx, ht⟩ := hl.get h1
        have ok := sh_fr hc h1
        refine ⟨.ref a, rfl, a, _, rfl, SqT.mk ha, .inr ⟨_, _, rfl, rfl, .inl ⟨rfl, ?_⟩⟩⟩
        refine ⟨.ref l, rfl, _, rfl, l, xs, i, _, _, rfl, hxs, hx, q H t (Same.refl H) ?_⟩
        show H t = some (.tup [.int (frT (cs.getD i (0, 1)).1 (cs.getD i (0, 1)).2), .int (frB (cs.getD i (0, 1)).1 (cs.getD i (0, 1)).2)])
        rw [ok.rt, ok.rb]
        exact ht
      | less f =>
        obtain ⟨a, u, rfl, ha, hu⟩ := hf
        have dp : f.dep + 1 ≤ d + 1 := dp
        have sz : f.sz + 1 ≤ 28 := sz
        have hi : ∀ i, i ∈ f.ins → i < cs.length := hi
        obtain ⟨p0, p1, p2⟩ := pl_small hc hi (by omega)
        refine ⟨.ref a, rfl, a, _, rfl, SqT.mk ha, .inr ⟨_, _, rfl, rfl, .inr ⟨by decide +kernel, .inr ⟨_, _, rfl, rfl, .inl ⟨rfl, ?_⟩⟩⟩⟩⟩
        refine ⟨u, rfl, .ref l, rfl, f, u, l, cs, rfl, hu, by omega, by omega, hl, hi, hc, fun H1 t1 s1 h1 => ?_⟩
        refine ⟨T.C_WHOLE, t1, 1, 1, _, _, rfl, whole_sq T.q_WHOLE, h1.sq, by decide, p0, S_one, S_one, p1.mono (by decide), p2.mono (by decide), fun H2 t2 s2 h2 => q H2 t2 (s1.trans s2) (h2.cong (by omega) p0 ?_)⟩
        show (1 * (f.pl cs).2 - (f.pl cs).1 * 1) * (f.pl cs).2 = ((f.pl cs).2 - (f.pl cs).1) * (1 * (f.pl cs).2)
        rw [Int.one_mul, Int.mul_one]
      | both f g =>
        obtain ⟨a, u, x, rfl, ha, hu, hx⟩ := hf
        have dp : max f.dep g.dep + 1 ≤ d + 1 := dp
        have sz : f.sz + g.sz + 1 ≤ 28 := sz
        have hi1 : ∀ i, i ∈ f.ins → i < cs.length := fun i h => hi i (List.mem_append_left _ h)
        have hi2 : ∀ i, i ∈ g.ins → i < cs.length := fun i h => hi i (List.mem_append_right _ h)
        obtain ⟨p0, p1, p2⟩ := pl_small hc hi1 (by omega)
        obtain ⟨q0, q1, q2⟩ := pl_small hc hi2 (by omega)
        refine ⟨.ref a, rfl, a, _, rfl, SqT.mk ha, .inl ⟨by simp, .inl ⟨by simp, .inr ⟨_, _, rfl, rfl, .inl ⟨rfl, ?_⟩⟩⟩⟩⟩
        refine ⟨u, rfl, .ref l, rfl, f, u, l, cs, rfl, hu, by omega, by omega, hl, hi1, hc, fun H1 t1 s1 h1 => ?_⟩
        refine ⟨x, rfl, .ref l, rfl, g, x, l, cs, rfl, hx.same s1, by omega, by omega, hl.same s1, hi2, hc, fun H2 t2 s2 h2 => ?_⟩
        exact ⟨t1, t2, _, _, _, _, rfl, (h1.same s2).sq, h2.sq, p0, q0, p1.mono (by decide), p2.mono (by decide), q1.mono (by decide), q2.mono (by decide), fun H3 t3 s3 h3 => q H3 t3 ((s1.trans s2).trans s3) h3⟩
      | either f g =>
        obtain ⟨a, u, x, rfl, ha, hu, hx⟩ := hf
        have dp : max f.dep g.dep + 1 ≤ d + 1 := dp
        have sz : f.sz + g.sz + 1 ≤ 28 := sz
        have hi1 : ∀ i, i ∈ f.ins → i < cs.length := fun i h => hi i (List.mem_append_left _ h)
        have hi2 : ∀ i, i ∈ g.ins → i < cs.length := fun i h => hi i (List.mem_append_right _ h)
        obtain ⟨p0, p1, p2⟩ := pl_small hc hi1 (by omega)
        obtain ⟨q0, q1, q2⟩ := pl_small hc hi2 (by omega)
        refine ⟨.ref a, rfl, a, _, rfl, SqT.mk ha, .inl ⟨by simp, .inl ⟨by simp, .inr ⟨_, _, rfl, rfl, .inr ⟨by decide +kernel, .inr ⟨_, _, rfl, rfl, .inl ⟨rfl, ?_⟩⟩⟩⟩⟩⟩⟩
        refine ⟨u, rfl, .ref l, rfl, f, u, l, cs, rfl, hu, by omega, by omega, hl, hi1, hc, fun H1 t1 s1 h1 => ?_⟩
        refine ⟨x, rfl, .ref l, rfl, g, x, l, cs, rfl, hx.same s1, by omega, by omega, hl.same s1, hi2, hc, fun H2 t2 s2 h2 => ?_⟩
        exact ⟨t1, t2, _, _, _, _, rfl, (h1.same s2).sq, h2.sq, p0, q0, p1, p2, q1, q2, fun H3 t3 s3 h3 => q H3 t3 ((s1.trans s2).trans s3) h3⟩
      | oneof f g =>
        obtain ⟨a, u, x, rfl, ha, hu, hx⟩ := hf
        have dp : max f.dep g.dep + 1 ≤ d + 1 := dp
        have sz : f.sz + g.sz + 1 ≤ 28 := sz
        have hi1 : ∀ i, i ∈ f.ins → i < cs.length := fun i h => hi i (List.mem_append_left _ h)
        have hi2 : ∀ i, i ∈ g.ins → i < cs.length := fun i h => hi i (List.mem_append_right _ h)
        obtain ⟨p0, p1, p2⟩ := pl_small hc hi1 (by omega)
        obtain ⟨q0, q1, q2⟩ := pl_small hc hi2 (by omega)
        refine ⟨.ref a, rfl, a, _, rfl, SqT.mk ha, .inl ⟨by simp, .inl ⟨by simp, .inr ⟨_, _, rfl, rfl, .inr ⟨by decide +kernel, .inr ⟨_, _, rfl, rfl, .inr ⟨by decide +kernel, .inr ⟨_, _, rfl, rfl, .inl ⟨rfl, ?_⟩⟩⟩⟩⟩⟩⟩⟩⟩
        refine ⟨u, rfl, .ref l, rfl, f, u, l, cs, rfl, hu, by omega, by omega, hl, hi1, hc, fun H1 t1 s1 h1 => ?_⟩
        refine ⟨x, rfl, .ref l, rfl, g, x, l, cs, rfl, hx.same s1, by omega, by omega, hl.same s1, hi2, hc, fun H2 t2 s2 h2 => ?_⟩
        exact ⟨t1, t2, _, _, _, _, rfl, (h1.same s2).sq, h2.sq, p0, q0, p1, p2, q1, q2, fun H3 t3 s3 h3 => q H3 t3 ((s1.trans s2).trans s3) h3⟩
      | pick f g h =>
        obtain ⟨a, u, x, y, rfl, ha, hu, hx, hy⟩ := hf
        have dp : max f.dep (max g.dep h.dep) + 1 ≤ d + 1 := dp
        have sz : f.sz + g.sz + h.sz + 1 ≤ 28 := sz
        have hi1 : ∀ i, i ∈ f.ins → i < cs.length := fun i h => hi i (List.mem_append_left _ h)
        have hi2 : ∀ i, i ∈ g.ins → i < cs.length := fun i h => hi i (List.mem_append_right _ (List.mem_append_left _ h))
        have hi3 : ∀ i, i ∈ h.ins → i < cs.length := fun i h => hi i (List.mem_append_right _ (List.mem_append_right _ h))
        obtain ⟨p0, p1, p2⟩ := pl_small hc hi1 (by omega)
        obtain ⟨q0, q1, q2⟩ := pl_small hc hi2 (by omega)
        obtain ⟨r0, r1, r2⟩ := pl_small hc hi3 (by omega)
        refine ⟨.ref a, rfl, a, _, rfl, SqT.mk ha, .inl ⟨by simp, .inl ⟨by simp, .inl ⟨by simp, .inl ⟨by simp, .inl ⟨by simp, .inr ⟨_, _, rfl, rfl, .inl ⟨rfl, ?_⟩⟩⟩⟩⟩⟩⟩⟩
        refine ⟨u, rfl, .ref l, rfl, f, u, l, cs, rfl, hu, by omega, by omega, hl, hi1, hc, fun H1 t1 s1 h1 => ?_⟩
        refine ⟨x, rfl, .ref l, rfl, g, x, l, cs, rfl, hx.same s1, by omega, by omega, hl.same s1, hi2, hc, fun H2 t2 s2 h2 => ?_⟩
        have s12 := s1.trans s2
        refine ⟨y, rfl, .ref l, rfl, h, y, l, cs, rfl, hy.same s12, by omega, by omega, hl.same s12, hi3, hc, fun H3 t3 s3 h3 => ?_⟩
        exact ⟨t1, t2, t3, _, _, _, _, _, _, rfl, ((h1.same s2).same s3).sq, (h2.same s3).sq, h3.sq, p0, q0, r0, p1, p2, q1, q2, r1, r2, fun H4 t4 s4 h4 => q H4 t4 ((s12.trans s3).trans s4) h4⟩
def sp_plain_share (K : PySem.W.Frag) : Sp := spr_plain_share 9 K
theorem ok_plain_share (T : Defs K mg) : FnOk P w K mg base CX0 14 T.f_plain_share T.fd_plain_share ["formula", "shares"] (sp_plain_share K) := okr_plain_share T 9
def sp__law_gcd (_ : PySem.W.Frag) : Sp := fun vs H Q _ => ∃ a b : Nat, vs = [.int (a : Nat), .int (b : Nat)] ∧ Q (.int ((Nat.gcd a b : Nat) : Int)) H
theorem ok__law_gcd (T : Defs K mg) : FnOk P w K mg base CX0 1 T.f__law_gcd T.fd__law_gcd ["_law_one", "_law_other"] (sp__law_gcd K) := by
  refine T.F__law_gcd.ok sc__law_gcd (fun vs H Q E h => ?_) (fun cdv A outer s H vs Q E hr h => ?_)
  · obtain ⟨a, b, rfl, q⟩ := h
    rfl
  · obtain ⟨a, b, rfl, q⟩ := h
    refine ⟨_, PSs.nox (pss_cons (ps_while PassesOwn.never (pt_cmpR op_gt (pv 1) pe_int (nomark _)) (pss_one (ps_par (i := 0) (j := 1) (by rfl) sc__law_gcd.nd rfl rfl (by decide) rfl rfl (pa_cons (pv 1) (pa_cons (pe_op op_mod (pv 0) (pv 1)) pa_nil)) (by rfl))))
    (pss_one (ps_ret (pv 0)))), ?_⟩
    refine while_by (fun σ H1 => H1 = H ∧ ∃ x y : Nat, σ = [some (.int (x : Nat)), some (.int (y : Nat))] ∧ Nat.gcd x y = Nat.gcd a b) (fun σ _ => match σ with | [_, some (.int y)] => y.toNat | _ => 0) ⟨rfl, a, b, rfl, rfl⟩ ?_ ?_
    · rintro σ H1 ⟨rfl, x, y, rfl, hg⟩
      refine ⟨.int (y : Nat), rfl, _, _, rfl, rfl, _, rfl, ite2 (fun e => ?_) (fun e => ?_)⟩
      · have hy : (0 : Int) < (y : Int) := of_decide_eq_true e
        refine ⟨.int (y : Nat), rfl, .int (x : Nat), rfl, .int (y : Nat), rfl, _, _, rfl, rfl, hy, _, _, rfl, ⟨rfl, y, x % y, ?_, ?_⟩, ?_⟩
        · rfl
        · rw [gcd_step, hg]
        · show ((x : Int) % (y : Int)).toNat < ((y : Int)).toNat
          have := Int.emod_lt_of_pos (x : Int) hy
          have := Int.emod_nonneg (x : Int) (show (y : Int) ≠ 0 by omega)
          omega
      · have hy : ¬ (0 : Int) < (y : Int) := fun z => e (decide_eq_true z)
        have y0 : y = 0 := by omega
        subst y0
        rw [Nat.gcd_zero_right] at hg
        refine ⟨.int (x : Nat), rfl, ?_⟩
        rw [hg]
        exact q
    · rintro σ H1 Q1 Q2 hQ ⟨v, hv, i, j, e1, e2, k, e3, h3⟩
      exact ⟨v, hv, i, j, e1, e2, k, e3, hQ _ _ h3⟩
def sp__law_part (_ : PySem.W.Frag) : Sp := fun vs H Q _ => ∃ t b : Int, vs = [.int t, .int b] ∧ 0 ≤ t ∧ 0 < b ∧ S 4000 b ∧ ∀ H' p, Same H H' → FrAt H' p t b → Q (.ref p) H'
theorem ok__law_part (T : Defs K mg) : FnOk P w K mg base CX0 2 T.f__law_part T.fd__law_part ["_law_top", "_law_bottom"] (sp__law_part K) := by
  have G__law_gcd : FnOk P w K mg base CX0 1 T.f__law_gcd T.fd__law_gcd ["_law_one", "_law_other"] (sp__law_gcd K) := ok__law_gcd T
  refine T.F__law_part.ok sc__law_part (fun vs H Q E h => ?_) (fun cdv A outer s H vs Q E hr h => ?_)
  · obtain ⟨t, b, rfl, ht, hb, hs, q⟩ := h
    rfl
  · obtain ⟨t, b, rfl, ht, hb, hs, q⟩ := h
    refine ⟨_, PSs.nox (pss_cons (ps_set (i := 2) sc__law_part.nd rfl (.inl rfl) (pe_call G__law_gcd (hr.mono (by decide)) (by rfl) T.g__law_gcd T.F__law_gcd.kp T.b__law_gcd .nil pass0 (pa_cons (pe_callB call_abs (by rfl) T.m_abs bt_abs (pa_cons (pv 0) pa_nil)) (pa_cons (pv 1) pa_nil))))
    (pss_one (ps_ret (pe_tup (pa_cons (pe_op op_fdivNW (pv 0) (pv 2)) (pa_cons (pe_op op_fdivNW (pv 1) (pv 2)) pa_nil)))))), ?_⟩
    have hg : 0 < Int.gcd t b := Int.gcd_pos_of_ne_zero_right t (by omega)
    have hd := gcd_small (t := t) (show b ≠ 0 by omega) hs
    have f := fr_ge t hb
    have eg : Int.gcd t b = Nat.gcd t.natAbs b.natAbs := rfl
    refine ⟨_, rfl, _, rfl, _, rfl, t.natAbs, b.natAbs, ?_, ?_⟩
    · rw [abs_eq, Int.natAbs_of_nonneg (show 0 ≤ b by omega)]
      rfl
    rw [← eg]
    refine ⟨_, rfl, _, rfl, _, _, rfl, rfl, ⟨by omega, hd⟩, _, rfl, _, rfl, _, _, rfl, rfl, ⟨by omega, hd⟩, (show 2 ≤ sizeLine by decide), fun p np => ?_⟩
    refine q _ p (same_upd np) ?_
    unfold FrAt
    rw [upd_same]
    dsimp only
    rw [f.1, f.2]
theorem fr_idem {t b : Int} (hb : 0 < b) : frT (frT t b) (frB t b) = frT t b ∧ frB (frT t b) (frB t b) = frB t b := fr_cross (fr_pos t (by omega)) hb (fr_eq t (by omega))
theorem fr_shr {t b : Int} (hb : 0 < b) (h0 : 0 ≤ t) (h1 : t ≤ b) : 0 ≤ frT t b ∧ frT t b ≤ frB t b := by
  have p := fr_pos t (show b ≠ 0 by omega)
  have e := fr_eq t (show b ≠ 0 by omega)
  constructor
  · have z : 0 ≤ frT t b * b := by
      rw [e]
      exact Int.mul_nonneg h0 (Int.le_of_lt p)
    exact Int.nonneg_of_mul_nonneg_left z hb
  · have z : frT t b * b ≤ frB t b * b := by
      rw [e, Int.mul_comm]
      exact Int.mul_le_mul_of_nonneg_left h1 (Int.le_of_lt p)
    exact Int.le_of_mul_le_mul_right z hb
def sp__law_share (_ : PySem.W.Frag) : Sp := fun vs H Q _ => ∃ (p : Addr) (n : Nat), vs = [.ref p] ∧ Bx H p n ∧ n < 1000000 ∧
  ∀ H' t c, But p H H' → Bx H' p (n + 3) → H' t = some (.tup [.int c.1, .int c.2]) → ShOk c → Q (.ref t) H'
theorem ok__law_share (T : Defs K mg) : FnOk P w K mg base CX0 3 T.f__law_share T.fd__law_share ["_law_box_here"] (sp__law_share K) := by
  have G__law_part : FnOk P w K mg base CX0 2 T.f__law_part T.fd__law_part ["_law_top", "_law_bottom"] (sp__law_part K) := ok__law_part T
  have G__law_take : FnOk P w K mg base CX0 1 T.f__law_take T.fd__law_take ["_law_box_here", "_law_many"] (sp__law_take K) := ok__law_take T
  refine T.F__law_share.ok sc__law_share (fun vs H Q E h => ?_) (fun cdv A outer s H vs Q E hr h => ?_)
  · obtain ⟨p, n, rfl, hB, hn, q⟩ := h
    rfl
  · obtain ⟨p, n, rfl, hB, hn, q⟩ := h
    refine ⟨_, PSs.nox (pss_cons (ps_set (i := 1) sc__law_share.nd rfl (.inl rfl) (pe_op op_add pe_int (pe_call G__law_take (hr.mono (by decide)) (by rfl) T.g__law_take T.F__law_take.kp T.b__law_take .nil pass0 (pa_cons (pv 0) (pa_cons (pe_ix ix_list (pe_lst (pa_cons pe_int (pa_cons pe_int (pa_cons pe_int pa_nil)))) (pe_call G__law_take (hr.mono (by decide)) (by rfl) T.g__law_take T.F__law_take.kp T.b__law_take .nil pass0 (pa_cons (pv 0) (pa_cons pe_int pa_nil))) (fun _ _ => rfl)) pa_nil)))))
    (pss_one (ps_ret (pe_call G__law_part (hr.mono (by decide)) (by rfl) T.g__law_part T.F__law_part.kp T.b__law_part .nil pass0 (pa_cons (pe_call G__law_take (hr.mono (by decide)) (by rfl) T.g__law_take T.F__law_take.kp T.b__law_take .nil pass0 (pa_cons (pv 0) (pa_cons (pe_op op_add (pv 1) pe_int) pa_nil))) (pa_cons (pv 1) pa_nil)))))), ?_⟩
    refine ⟨.ref p, rfl, (show 3 ≤ sizeLine by decide), fun l nl => ?_⟩
    have s1 := same_upd nl (o := .lst [.int 4, .int 12, .int 64])
    have hl := upd_same (H := H) (a := l) (o := .lst [.int 4, .int 12, .int 64])
    have nlp := ne_new hB nl
    generalize upd H l (.lst [.int 4, .int 12, .int 64]) = H1 at s1 hl ⊢
    have B1 := hB.same s1
    refine ⟨.ref p, rfl, p, 3, n, rfl, B1, by decide, by decide, by omega, fun H2 r c2 B2 l2 u2 => ?_⟩
    obtain ⟨w1, e1, hw⟩ := at_menu (Pr := fun x => 1 ≤ x ∧ x ≤ 64) (xs := [4, 12, 64]) (r := r) l2 u2 (fun x hx => by
      simp only [List.mem_cons, List.not_mem_nil, or_false] at hx
      omega)
    refine ⟨l, _, _, _, rfl, rfl, SqL.mk (c2 _ _ nlp hl), e1, p, w1, _, rfl, B2, by omega, by omega, by omega, fun H3 r3 c3 B3 l3 u3 => ⟨_, _, rfl, rfl, ?_⟩⟩
    refine ⟨.ref p, rfl, _, rfl, _, _, rfl, rfl, p, 1 + r3 + 1, _, rfl, B3, by omega, by omega, by omega, fun H4 r4 c4 B4 l4 u4 => ?_⟩
    have b0 : 0 < 1 + r3 := by omega
    have hS : S 4000 (1 + r3) := S.mono (n := 20) (show (1 + r3).natAbs < 2 ^ 20 by omega) (by decide)
    refine ⟨_, rfl, r4, 1 + r3, rfl, l4, b0, hS, fun H5 t s5 ht => ?_⟩
    obtain ⟨i1, i2⟩ := fr_idem (t := r4) b0
    obtain ⟨j1, j2⟩ := fr_shr b0 l4 (show r4 ≤ 1 + r3 by omega)
    have p1 := fr_pos r4 (show 1 + r3 ≠ 0 by omega)
    have p2 := fr_absB r4 (show 1 + r3 ≠ 0 by omega)
    exact q H5 t (frT r4 (1 + r3), frB r4 (1 + r3)) ((same_but s1).trans (c2.trans (c3.trans (c4.trans (same_but s5))))) (B4.same s5) ht ⟨j1, j2, p1, by show frB r4 (1 + r3) < 2 ^ 7; omega, i1, i2⟩
/-! the law's own plain shares -/
abbrev kS (z : Str) : Key := .inr z
abbrev dB (x y z : V) : List (Key × V) := mergeK [] [(kS "both", x), (kS "either", y), (kS "oneof", z)]
theorem dB_both (x y z : V) : valV (dB x y z) (kS "both") = some x := by
  show valV (putK (putK (putK [] (kS "both") x) (kS "either") y) (kS "oneof") z) (kS "both") = _
  rw [valV_put, if_neg (by decide +kernel), valV_put, if_neg (by decide +kernel), valV_put, if_pos rfl]
theorem dB_either (x y z : V) : valV (dB x y z) (kS "either") = some y := by
  show valV (putK (putK (putK [] (kS "both") x) (kS "either") y) (kS "oneof") z) (kS "either") = _
  rw [valV_put, if_neg (by decide +kernel), valV_put, if_pos rfl]
theorem dB_oneof (x y z : V) : valV (dB x y z) (kS "oneof") = some z := by
  show valV (putK (putK (putK [] (kS "both") x) (kS "either") y) (kS "oneof") z) (kS "oneof") = _
  rw [valV_put, if_pos rfl]
def spr__law_plain (d : Nat) (_ : PySem.W.Frag) : Sp := fun vs H Q _ => ∃ f v l cs, vs = [v, .ref l] ∧ FmAt H f v ∧ f.dep ≤ d ∧ f.sz ≤ 28 ∧ ShAt H l cs ∧ (∀ i, i ∈ f.ins → i < cs.length) ∧ (∀ c, c ∈ cs → ShOk c) ∧
  ∀ H' t, Same H H' → H' t = some (.tup [.int (f.pl cs).1, .int (f.pl cs).2]) → Q (.ref t) H'
theorem no__law_plain {K : PySem.W.Frag} {vs : List V} {H : Hp} {Q : VK} {E : XK} (h : spr__law_plain 0 K vs H Q E) : False := by
  obtain ⟨f, v, l, cs, _, _, z, _⟩ := h
  have := f.dep_pos
  omega
theorem okr__law_plain (T : Defs K mg) : ∀ d : Nat, FnOk P w K mg base CX0 (1 + d) T.f__law_plain T.fd__law_plain ["_law_formula_here", "_law_shares"] (spr__law_plain d K)
  | 0 => ⟨fun _ _ _ _ z => (no__law_plain z).elim, fun _ _ _ _ _ _ _ _ _ _ _ _ _ z => (no__law_plain z).elim⟩
  | d + 1 => by
    have G__law_plain : FnOk P w K mg base CX0 (1 + d) T.f__law_plain T.fd__law_plain ["_law_formula_here", "_law_shares"] (spr__law_plain d K) := okr__law_plain T d
    show FnOk P w K mg base CX0 ((1 + d) + 1) T.f__law_plain T.fd__law_plain ["_law_formula_here", "_law_shares"] (spr__law_plain (d + 1) K)
    refine T.F__law_plain.ok sc__law_plain (fun vs H Q E h => ?_) (fun cdv A outer s H vs Q E hr h => ?_)
    · obtain ⟨f, v, l, cs, rfl, hf, dp, sz, hl, hi, hc, q⟩ := h
      rfl
    · obtain ⟨f, v, l, cs, rfl, hf, dp, sz, hl, hi, hc, q⟩ := h
      refine ⟨_, PSs.nox (pss_cons (ps_if (pt_cmpR op_eq (pe_ix ix_tup (pv 0) pe_int (fun _ _ => rfl)) pe_str (nomark _)) (pss_one (ps_ret (pe_ix ix_list (pv 1) (pe_ix ix_tup (pv 0) pe_int (fun _ _ => rfl)) (fun _ _ => rfl)))) pss_nil)
    (pss_cons (ps_setLc (i := 2) (own := [("_law_part_here", 9)]) (g := gName 9) (tt := tYes) rfl sc__law_plain.nd rfl rfl (sw_true rfl rfl rfl (by decide +kernel)) (pi_tup (pe_slice sl_tup (pv 0) (po_some pe_int) po_none)) (blkOk_by (N := N__law_plain) (sc := defScope s__law_plain) (by decide +kernel)) (fun _ _ _ _ _ => (pg_name (i := 9) sc__law_plain.nd rfl (.inl rfl))) (fun _ _ _ _ _ => pts_nil) (fun _ _ _ _ _ => (pe_call G__law_plain (hr.mono (by omega)) (by rfl) T.g__law_plain T.F__law_plain.kp T.b__law_plain .nil pass0 (pa_cons (pv 9) (pa_cons (pv 1) pa_nil)))))
    (pss_cons (ps_asg (pe_tup (pa_cons (pe_ix ix_list (pv 2) pe_int (fun _ _ => rfl)) (pa_cons (pe_ix ix_list (pe_op op_cat (pv 2) (pv 2)) pe_int (fun _ _ => rfl)) pa_nil))) (pg_tup rfl (pgs_cons (pg_tup rfl (pgs_cons (pg_name (i := 3) sc__law_plain.nd rfl (.inl rfl)) (pgs_cons (pg_name (i := 4) sc__law_plain.nd rfl (.inl rfl)) pgs_nil))) (pgs_cons (pg_tup rfl (pgs_cons (pg_name (i := 5) sc__law_plain.nd rfl (.inl rfl)) (pgs_cons (pg_name (i := 6) sc__law_plain.nd rfl (.inl rfl)) pgs_nil))) pgs_nil))))
    (pss_cons (ps_if (pt_cmpR op_eq (pe_ix ix_tup (pv 0) pe_int (fun _ _ => rfl)) pe_str (nomark _)) (pss_one (ps_ret (pe_tup (pa_cons (pe_op op_sub (pv 4) (pv 3)) (pa_cons (pv 4) pa_nil))))) pss_nil)
    (pss_cons (ps_if (pt_cmpR op_eq (pe_ix ix_tup (pv 0) pe_int (fun _ _ => rfl)) pe_str (nomark _)) (pss_cons (ps_asg (pe_ix ix_list (pv 2) pe_int (fun _ _ => rfl)) (pg_tup rfl (pgs_cons (pg_name (i := 7) sc__law_plain.nd rfl (.inl rfl)) (pgs_cons (pg_name (i := 8) sc__law_plain.nd rfl (.inl rfl)) pgs_nil))))
    (pss_one (ps_ret (pe_tup (pa_cons (pe_op op_add (pe_op op_mulW (pe_op op_mulW (pv 3) (pv 5)) (pv 8)) (pe_op op_mulW (pe_op op_mulW (pe_op op_sub (pv 4) (pv 3)) (pv 7)) (pv 6))) (pa_cons (pe_op op_mulW (pe_op op_mulW (pv 4) (pv 6)) (pv 8)) pa_nil)))))) pss_nil)
    (pss_one (ps_ret (pe_dget (u1 hr) (pe_disp (pps_cons pe_str (pe_tup (pa_cons (pe_op op_mulW (pv 3) (pv 5)) (pa_cons (pe_op op_mulW (pv 4) (pv 6)) pa_nil))) (pps_cons pe_str (pe_tup (pa_cons (pe_op op_sub (pe_op op_add (pe_op op_mulW (pv 3) (pv 6)) (pe_op op_mulW (pv 5) (pv 4))) (pe_op op_mulW (pv 3) (pv 5))) (pa_cons (pe_op op_mulW (pv 4) (pv 6)) pa_nil))) (pps_cons pe_str (pe_tup (pa_cons (pe_op op_sub (pe_op op_add (pe_op op_mulW (pv 3) (pv 6)) (pe_op op_mulW (pv 5) (pv 4))) (pe_op op_mulW (pe_op op_mul pe_int (pv 3)) (pv 5))) (pa_cons (pe_op op_mulW (pv 4) (pv 6)) pa_nil))) pps_nil))) rfl rfl (by simp) (by decide)) (pe_ix ix_tup (pv 0) pe_int (fun _ _ => rfl)) (fun _ _ => rfl))))))))), ?_⟩
      have hsl : sizeLine = 16777216 := by decide
      rcases hf.shape with ⟨i, a, rfl, rfl, ha⟩ | ⟨a, us, rfl, ha, hw, hs⟩
      · have h1 := hi i List.mem_cons_self
        obtain ⟨xs, t, hxs, hx, ht⟩ := hl.get h1
        refine ⟨.ref a, rfl, a, _, 0, _, rfl, rfl, SqT.mk ha, atI_nat (j := 0) rfl, rfl, _, rfl, ?_⟩
        rw [decide_eq_true rfl]
        refine iteT ⟨.ref l, rfl, .ref a, rfl, a, _, 1, _, rfl, rfl, SqT.mk ha, atI_nat (j := 1) rfl, l, _, _, _, rfl, rfl, SqL.mk hxs, atI_nat hx, q H t (Same.refl H) ht⟩
      refine ⟨.ref a, rfl, a, _, 0, _, rfl, rfl, SqT.mk ha, atI_nat (j := 0) rfl, rfl, _, rfl, ?_⟩
      rw [wd_in hw]
      refine iteF ⟨.ref a, rfl, 1, rfl, a, _, rfl, SqT.mk ha, not_whole, fun tc ntc => ?_⟩
      rw [cut_tail]
      have s1 := same_upd ntc (o := .tup us)
      have htc := upd_same (H := H) (a := tc) (o := .tup us)
      generalize upd H tc (.tup us) = H1 at s1 htc ⊢
      have ul : us.length = f.sds.length := hs.1
      have ul3 : us.length ≤ 3 := by
        rw [ul]
        cases f <;> simp [Fm.sds]
      refine ⟨tc, rfl, ⟨_, SqT.mk htc⟩, fun D nD => ?_⟩
      refine lc_tup (xs := us) (fun i G => Same H1 G ∧ ∃ ts : List Addr, ts.length = i ∧ G D = some (.lst (ts.map V.ref)) ∧ ∀ (j : Nat) (t : Addr) (g : Fm), ts[j]? = some t → f.sds[j]? = some g → G t = some (.tup [.int (g.pl cs).1, .int (g.pl cs).2])) ⟨same_upd nD, [], rfl, upd_same, fun j t g e _ => (by cases e)⟩ (fun i G _ h => SqT.mk (h.1 _ _ htc)) (fun i u G hu h => ?_) (fun G h => ?_)
      · obtain ⟨sG, ts, lt, hD, hts⟩ := h
        obtain ⟨g, hg1, hg2, hg⟩ := (hs.same (s1.trans sG)).get hu
        have gd := Fm.sds_dep hg2
        have hiu := (List.getElem?_eq_some_iff.mp hu).1
        refine ⟨rfl, yes_ite ?_⟩
        refine ⟨u, rfl, .ref l, rfl, g, u, l, cs, rfl, hg, by omega, by omega, hl.same (s1.trans sG), fun j hj => hi j (Fm.sds_mem hg2 hj), hc, fun G2 t2 s2 h2 => ?_⟩
        refine ⟨_, s2 _ _ hD, by rw [List.length_map]; omega, same_newer (sG.trans s2) nD, ts ++ [t2], by rw [List.length_append, lt]; rfl, by rw [upd_same, List.map_append]; rfl, fun j t g' e1 e2 => ?_⟩
        have keep : ∀ t xs, G2 t = some (.tup xs) → (upd G2 D (.lst (ts.map V.ref ++ [.ref t2]))) t = some (.tup xs) := fun t xs e => by
          rw [upd_ne (ne_of e (s2 _ _ hD) (fun z => by cases z))]
          exact e
        by_cases hj : j < ts.length
        · rw [List.getElem?_append_left hj] at e1
          exact keep _ _ (s2 _ _ (hts j t g' e1 e2))
        · rw [List.getElem?_append_right (by omega)] at e1
          have j0 : j - ts.length = 0 := by
            refine Decidable.byContradiction fun z => ?_
            rw [List.getElem?_eq_none (by show 1 ≤ _; omega)] at e1
            cases e1
          rw [j0] at e1
          obtain rfl := Option.some.inj e1
          have ji : j = i := by omega
          subst ji
          rw [hg1] at e2
          obtain rfl := Option.some.inj e2
          exact keep _ _ h2
      obtain ⟨sG, ts, lt, hD, hts⟩ := h
      have lt : ts.length = f.sds.length := lt.trans ul
      have sHG := s1.trans sG
      have haG := sHG _ _ ha
      have lts : ts.length ≤ 3 := by omega
      have lt1 : 1 ≤ ts.length := by
        rw [lt]
        cases f with
        | inp i => exact absurd rfl hw
        | _ => simp [Fm.sds]
      have g0 : (ts.map V.ref)[0]? = some (.ref ts[0]) := by rw [List.getElem?_map, List.getElem?_eq_getElem lt1]; rfl
      obtain ⟨t1, hx1, ht1⟩ : ∃ t1, (ts ++ ts)[1]? = some t1 ∧ ((ts.length = 1 ∧ t1 = ts[0]) ∨ ts[1]? = some t1) := by
        by_cases z : ts.length = 1
        · exact ⟨ts[0], by rw [List.getElem?_append_right (by omega), z]; exact List.getElem?_eq_getElem lt1, .inl ⟨z, rfl⟩⟩
        · exact ⟨ts[1], by rw [List.getElem?_append_left (by omega), List.getElem?_eq_getElem (by omega)], .inr (List.getElem?_eq_getElem (by omega))⟩
      clear s1 htc nD ntc sG
      refine ⟨.ref D, rfl, D, _, 0, _, rfl, rfl, SqL.mk hD, atI_nat (j := 0) g0, .ref D, rfl, .ref D, rfl, D, D, _, _, rfl, rfl, hD, hD, by rw [List.length_map]; omega, fun D2 nD2 => ?_⟩
      have u2 := same_upd nD2 (o := .lst (ts.map V.ref ++ ts.map V.ref))
      refine ⟨D2, _, 1, _, rfl, rfl, SqL.mk upd_same, atI_nat (j := 1) (by rw [← List.map_append, List.getElem?_map, hx1]; rfl), (show 2 ≤ sizeLine by decide), fun tp ntp => ?_⟩
      have u3 := u2.trans (same_upd ntp (o := .tup [.ref ts[0], .ref t1]))
      have htp := upd_same (H := upd G D2 (.lst (ts.map V.ref ++ ts.map V.ref))) (a := tp) (o := .tup [.ref ts[0], .ref t1])
      generalize upd (upd G D2 (.lst (ts.map V.ref ++ ts.map V.ref))) tp (.tup [.ref ts[0], .ref t1]) = Y at u3 htp ⊢
      clear u2 nD2 ntp
      obtain ⟨g, hg, hgm⟩ : ∃ g, f.sds[0]? = some g ∧ g ∈ f.sds := ⟨f.sds[0]'(by omega), List.getElem?_eq_getElem (by omega), List.getElem_mem _⟩
      have h0 : Y ts[0] = some (.tup [.int (g.pl cs).1, .int (g.pl cs).2]) := u3 _ _ (hts 0 _ g (List.getElem?_eq_getElem lt1) hg)
      obtain ⟨k, hk, hkm⟩ : ∃ k, ((f.sds.length = 1 ∧ k = g) ∨ f.sds[1]? = some k) ∧ k ∈ f.sds ∧ G t1 = some (.tup [.int (k.pl cs).1, .int (k.pl cs).2]) := by
        rcases ht1 with ⟨z, rfl⟩ | z
        · exact ⟨g, .inl ⟨by omega, rfl⟩, hgm, hts 0 _ g (List.getElem?_eq_getElem lt1) hg⟩
        · have z1 := (List.getElem?_eq_some_iff.mp z).1
          exact ⟨f.sds[1]'(by omega), .inr (List.getElem?_eq_getElem (by omega)), List.getElem_mem _, hts 1 _ _ z (List.getElem?_eq_getElem (by omega))⟩
      have h1 := u3 _ _ hkm.2
      have small : ∀ g, g ∈ f.sds → 0 < (g.pl cs).2 ∧ S 200 (g.pl cs).1 ∧ S 200 (g.pl cs).2 := fun g hg => pl_small hc (fun j hj => hi j (Fm.sds_mem hg hj)) (by have := Fm.sds_dep hg; omega)
      obtain ⟨x0, sa, sx⟩ := small g hgm
      obtain ⟨y0, sb, sy⟩ := small k hkm.1
      refine ⟨tp, _, rfl, SqT.mk htp, rfl, _, _, rfl, ts[0], _, rfl, SqT.mk h0, rfl, _, _, rfl, _, _, rfl, rfl, _, _, rfl, t1, _, rfl, SqT.mk h1, rfl, _, _, rfl, _, _, rfl, rfl, rfl, ?_⟩
      have haY := u3 _ _ haG
      have sHY := sHG.trans u3
      refine ⟨.ref a, rfl, a, _, 0, _, rfl, rfl, SqT.mk haY, atI_nat (j := 0) rfl, rfl, _, rfl, ?_⟩
      by_cases w1 : f.word = "less"
      · rw [decide_eq_true (show V.str f.word = V.str "less" by rw [w1])]
        refine iteT ⟨_, rfl, _, rfl, _, _, rfl, rfl, _, rfl, (show 2 ≤ sizeLine by decide), fun t nt => q _ t (sHY.trans (same_upd nt)) ?_⟩
        cases f with
        | less f' =>
          cases hg
          exact upd_same
        | _ => exact absurd w1 (by simp only [Fm.word]; decide +kernel)
      rw [decide_eq_false (show ¬ V.str f.word = V.str "less" from fun e => w1 (V.str.inj e))]
      refine iteF ⟨.ref a, rfl, a, _, 0, _, rfl, rfl, SqT.mk haY, atI_nat (j := 0) rfl, rfl, _, rfl, ?_⟩
      have sab := sa.mul sb
      have sxy := sx.mul sy
      have say := sa.mul sy
      have sbx := sb.mul sx
      by_cases w2 : f.word = "pick"
      · rw [decide_eq_true (show V.str f.word = V.str "pick" by rw [w2])]
        cases f with
        | pick f1 f2 f3 =>
          cases hg
          have ek : k = f2 := by
            rcases hk with ⟨z, _⟩ | z
            · cases z
            · exact (Option.some.inj z).symm
          subst ek
          have l3 : ts.length = 3 := lt
          have h2 := u3 _ _ (hts 2 ts[2] f3 (List.getElem?_eq_getElem (by omega)) rfl)
          have hDY := u3 _ _ hD
          obtain ⟨z0, sc, sz'⟩ := small f3 (by simp [Fm.sds])
          have sxa : S 201 ((g.pl cs).2 - (g.pl cs).1) := sx.sub sa
          have sxc : S 401 (((g.pl cs).2 - (g.pl cs).1) * (f3.pl cs).1) := sxa.mul sc
          refine iteT ⟨.ref D, rfl, D, _, 2, _, rfl, rfl, SqL.mk hDY, atI_nat (j := 2) (by rw [List.getElem?_map, List.getElem?_eq_getElem (by omega)]; rfl), ts[2], _, rfl, SqT.mk h2, rfl, _, _, rfl, _, _, rfl, rfl, ?_⟩
          refine ⟨_, rfl, _, rfl, _, _, rfl, rfl, mulW sa sb (by decide), _, rfl, _, _, rfl, rfl, mulW sab sz' (by decide), ?_⟩
          refine ⟨_, rfl, _, rfl, _, _, rfl, rfl, _, rfl, _, _, rfl, rfl, mulW sxa sc (by decide), _, rfl, _, _, rfl, rfl, mulW sxc sy (by decide), _, _, rfl, rfl, ?_⟩
          refine ⟨_, rfl, _, rfl, _, _, rfl, rfl, mulW sx sy (by decide), _, rfl, _, _, rfl, rfl, mulW sxy sz' (by decide), (show 2 ≤ sizeLine by decide), fun t nt => q _ t (sHY.trans (same_upd nt)) upd_same⟩
        | _ => exact absurd w2 (by simp only [Fm.word]; decide +kernel)
      rw [decide_eq_false (show ¬ V.str f.word = V.str "pick" from fun e => w2 (V.str.inj e))]
      refine iteF ?_
      have s2a : S 202 (2 * (g.pl cs).1) := by
        have : S 2 (2 : Int) := by unfold S; decide
        exact (this.mul sa).mono (by decide)
      intro p np
      have v1 := same_upd np (o := .dK [])
      have hp1 := upd_same (H := Y) (a := p) (o := .dK [])
      generalize upd Y p (.dK []) = Z at v1 hp1 ⊢
      refine ⟨_, rfl, _, rfl, _, _, rfl, rfl, mulW sa sb (by decide), _, rfl, _, rfl, _, _, rfl, rfl, mulW sx sy (by decide), (show 2 ≤ sizeLine by decide), fun d1 n1 => ?_⟩
      refine ⟨_, rfl, _, rfl, _, _, rfl, rfl, mulW sa sy (by decide), _, rfl, _, rfl, _, _, rfl, rfl, mulW sb sx (by decide), _, _, rfl, rfl, _, rfl, _, rfl, _, _, rfl, rfl, mulW sa sb (by decide), _, _, rfl, rfl, _, rfl, _, rfl, _, _, rfl, rfl, mulW sx sy (by decide), (show 2 ≤ sizeLine by decide), fun d2 n2 => ?_⟩
      refine ⟨_, rfl, _, rfl, _, _, rfl, rfl, mulW sa sy (by decide), _, rfl, _, rfl, _, _, rfl, rfl, mulW sb sx (by decide), _, _, rfl, rfl, _, rfl, _, _, rfl, rfl, .inl ⟨by decide, by decide⟩, _, rfl, _, _, rfl, rfl, mulW s2a sb (by decide), _, _, rfl, rfl, _, rfl, _, rfl, _, _, rfl, rfl, mulW sx sy (by decide), (show 2 ≤ sizeLine by decide), fun d3 n3 => ?_⟩
      generalize hA : (g.pl cs).1 = A at *
      generalize hX : (g.pl cs).2 = X at *
      generalize hB : (k.pl cs).1 = B at *
      generalize hY : (k.pl cs).2 = W at *
      have o1 := same_upd n1 (o := .tup [.int (A * B), .int (X * W)])
      have o2 := same_upd n2 (o := .tup [.int (A * W + B * X - A * B), .int (X * W)])
      have o3 := same_upd n3 (o := .tup [.int (A * W + B * X - 2 * A * B), .int (X * W)])
      have oA := o1.trans (o2.trans o3)
      have r1 := (o2.trans o3) _ _ (upd_same (H := Z) (a := d1) (o := .tup [.int (A * B), .int (X * W)]))
      have r2 := o3 _ _ (upd_same (a := d2) (o := .tup [.int (A * W + B * X - A * B), .int (X * W)]))
      have r3 := upd_same (H := upd (upd Z d1 (.tup [.int (A * B), .int (X * W)])) d2 (.tup [.int (A * W + B * X - A * B), .int (X * W)])) (a := d3) (o := .tup [.int (A * W + B * X - 2 * A * B), .int (X * W)])
      refine ⟨oA _ _ hp1, [(kS "both", .ref d1), (kS "either", .ref d2), (kS "oneof", .ref d3)], rfl, (show 3 ≤ 15 by decide), ?_⟩
      have sZ : Same Y (upd (upd (upd (upd Z d1 (.tup [.int (A * B), .int (X * W)])) d2 (.tup [.int (A * W + B * X - A * B), .int (X * W)])) d3 (.tup [.int (A * W + B * X - 2 * A * B), .int (X * W)])) p (.dK (dB (.ref d1) (.ref d2) (.ref d3)))) := same_newer (v1.trans oA) np
      have sZ2 := sHY.trans sZ
      have keep : ∀ t xs, (upd (upd (upd Z d1 (.tup [.int (A * B), .int (X * W)])) d2 (.tup [.int (A * W + B * X - A * B), .int (X * W)])) d3 (.tup [.int (A * W + B * X - 2 * A * B), .int (X * W)])) t = some (.tup xs) → (upd (upd (upd (upd Z d1 (.tup [.int (A * B), .int (X * W)])) d2 (.tup [.int (A * W + B * X - A * B), .int (X * W)])) d3 (.tup [.int (A * W + B * X - 2 * A * B), .int (X * W)])) p (.dK (dB (.ref d1) (.ref d2) (.ref d3)))) t = some (.tup xs) := fun t xs e => by
        rw [upd_ne (ne_of e (oA _ _ hp1) (fun z => by cases z))]
        exact e
      refine ⟨.ref a, rfl, a, _, 0, _, rfl, rfl, SqT.mk (sZ _ _ haY), atI_nat (j := 0) rfl, p, ?_⟩
      have two : ∀ f1 f2, f.sds = [f1, f2] → g = f1 ∧ k = f2 := fun f1 f2 e => by
        rw [e] at hg hk
        cases hg
        refine ⟨rfl, ?_⟩
        rcases hk with ⟨z, _⟩ | z
        · cases z
        · exact (Option.some.inj z).symm
      cases f with
      | inp i => exact absurd rfl hw
      | less f1 => exact absurd rfl w1
      | pick f1 f2 f3 => exact absurd rfl w2
      | both f1 f2 =>
        obtain ⟨rfl, rfl⟩ := two f1 f2 rfl
        refine ⟨_, rfl, dB_both _ _ _ ▸ DGet.k (k := kS "both") upd_same, q _ _ sZ2 ?_⟩
        simp only [Fm.pl, hA, hX, hB, hY]
        exact keep _ _ r1
      | either f1 f2 =>
        obtain ⟨rfl, rfl⟩ := two f1 f2 rfl
        refine ⟨_, rfl, dB_either _ _ _ ▸ DGet.k (k := kS "either") upd_same, q _ _ sZ2 ?_⟩
        simp only [Fm.pl, hA, hX, hB, hY]
        exact keep _ _ r2
      | oneof f1 f2 =>
        obtain ⟨rfl, rfl⟩ := two f1 f2 rfl
        refine ⟨_, rfl, dB_oneof _ _ _ ▸ DGet.k (k := kS "oneof") upd_same, q _ _ sZ2 ?_⟩
        simp only [Fm.pl, hA, hX, hB, hY]
        exact keep _ _ r3
def sp__law_plain (K : PySem.W.Frag) : Sp := spr__law_plain 8 K
theorem ok__law_plain (T : Defs K mg) : FnOk P w K mg base CX0 9 T.f__law_plain T.fd__law_plain ["_law_formula_here", "_law_shares"] (sp__law_plain K) := okr__law_plain T 8
/-! things whose text is short -/
mutual
def lvs (k : Nat) : PyData → Bool
  | .none | .bool _ => true
  | .int i => decide (i.natAbs < 10 ^ k)
  | .str x => x.cps.toList.all fun c => decide (c < 16 ^ 8)
  | .list xs | .tuple xs => lvsA k xs
  | .dict _ => false
def lvsA (k : Nat) : List PyData → Bool
  | [] => true
  | x :: xs => lvs k x && lvsA k xs
end
theorem log_sm {n k : Nat} (hk : k ≤ 400) (h : n < 10 ^ k) : n.log2 < 1920 := by
  by_cases z : n = 0
  · rw [z]
    decide
  · rw [Nat.log2_lt z]
    refine Nat.lt_of_lt_of_le h (Nat.le_trans (Nat.pow_le_pow_left (show 10 ≤ 2 ^ 4 by decide) k) ?_)
    rw [← Nat.pow_mul]
    exact Nat.pow_le_pow_right (by decide) (by omega)
theorem shown_k {i : Int} {k : Nat} (k0 : 0 < k) (h : i.natAbs < 10 ^ k) : (PyData.shown (.int i)).length ≤ k + 1 := by
  have e := int_text_length_le10 (k := k) k0 h
  show (Str.ofString (toString i)).length ≤ k + 1
  rw [PySem.ofString_length]
  exact e
mutual
theorem lvs_show {k : Nat} (k0 : 0 < k) (hk : k ≤ 400) : ∀ d : PyData, lvs k d = true → d.showable = true ∧ d.hasDict = false ∧ d.leavesShort (k + 1) = true
  | .none, _ => ⟨rfl, rfl, rfl⟩
  | .bool _, _ => ⟨rfl, rfl, rfl⟩
  | .int i, h => by
    have h1 : i.natAbs < 10 ^ k := by simpa only [lvs, decide_eq_true_eq] using h
    refine ⟨?_, rfl, ?_⟩
    · simp only [PyData.showable]
      exact decide_eq_true (log_sm hk h1)
    · simp only [PyData.leavesShort]
      exact decide_eq_true (shown_k k0 h1)
  | .str x, h => ⟨rfl, rfl, by simpa only [PyData.leavesShort, lvs] using h⟩
  | .list xs, h => by
    have := lvsA_show k0 hk xs (by simpa only [lvs] using h)
    simpa only [PyData.showable, PyData.hasDict, PyData.leavesShort] using this
  | .tuple xs, h => by
    have := lvsA_show k0 hk xs (by simpa only [lvs] using h)
    simpa only [PyData.showable, PyData.hasDict, PyData.leavesShort] using this
  | .dict _, h => by simp only [lvs] at h; exact nomatch h
theorem lvsA_show {k : Nat} (k0 : 0 < k) (hk : k ≤ 400) : ∀ xs : List PyData, lvsA k xs = true → PyData.showableAll xs = true ∧ PyData.hasDictAll xs = false ∧ PyData.leavesShortAll (k + 1) xs = true
  | [], _ => ⟨rfl, rfl, rfl⟩
  | x :: xs, h => by
    have h' : lvs k x = true ∧ lvsA k xs = true := by simpa only [lvsA, Bool.and_eq_true] using h
    obtain ⟨a1, a2, a3⟩ := lvs_show k0 hk x h'.1
    obtain ⟨b1, b2, b3⟩ := lvsA_show k0 hk xs h'.2
    simp only [PyData.showableAll, PyData.hasDictAll, PyData.leavesShortAll, a1, a2, a3, b1, b2, b3]
    exact ⟨rfl, rfl, rfl⟩
end
structure Sho (d : PyData) : Prop where
  s : d.showable = true
  n : d.hasDict = false
  dp : d.depth ≤ 60
  len : d.shown.length ≤ sizeLine
theorem sho_of {k : Nat} {d : PyData} (k0 : 7 ≤ k) (hk : k ≤ 400) (h : lvs k d = true) (dp : d.depth ≤ 60) (w : (k + 3) * d.weight ≤ 16000000) : Sho d := by
  obtain ⟨a, b, c⟩ := lvs_show (by omega) hk d h
  refine ⟨a, b, dp, ?_⟩
  have e : d.shown.length ≤ (k + 3) * d.weight + (k + 1) := PyData.shown_le (k + 1) (by omega) d c
  rw [sizeLine_eq]
  omega
theorem lvsA_of {k : Nat} : ∀ ds : List PyData, (∀ d, d ∈ ds → lvs k d = true) → lvsA k ds = true
  | [], _ => rfl
  | d :: ds, h => by
    simp only [lvsA, Bool.and_eq_true]
    exact ⟨h d List.mem_cons_self, lvsA_of ds fun x hx => h x (List.mem_cons_of_mem _ hx)⟩
theorem depA_of {n : Nat} : ∀ ds : List PyData, (∀ d, d ∈ ds → d.depth ≤ n) → PyData.depthAll ds ≤ n
  | [], _ => Nat.zero_le _
  | d :: ds, h => by
    have := h d List.mem_cons_self
    have := depA_of ds fun x hx => h x (List.mem_cons_of_mem _ hx)
    simp only [PyData.depthAll]
    omega
theorem weiA_of {n : Nat} : ∀ ds : List PyData, (∀ d, d ∈ ds → d.weight ≤ n) → PyData.weightAll ds ≤ ds.length * (n + 1)
  | [], _ => Nat.zero_le _
  | d :: ds, h => by
    have := h d List.mem_cons_self
    have := weiA_of ds fun x hx => h x (List.mem_cons_of_mem _ hx)
    simp only [PyData.weightAll, List.length_cons, Nat.add_mul, Nat.one_mul]
    omega
/-- short things: their leaves, depth and weight -/
structure Shs (k n w : Nat) (d : PyData) : Prop where
  l : lvs k d = true
  dp : d.depth ≤ n
  wt : d.weight ≤ w
theorem shs_all {k n w : Nat} {ds : List PyData} (h : ∀ d, d ∈ ds → Shs k n w d) : Shs k (n + 1) (ds.length * (w + 1)) (.list ds) ∧ Shs k (n + 1) (ds.length * (w + 1)) (.tuple ds) := by
  have a := lvsA_of ds fun d hd => (h d hd).l
  have b := depA_of ds fun d hd => (h d hd).dp
  have c := weiA_of ds fun d hd => (h d hd).wt
  refine ⟨⟨by simpa only [lvs] using a, ?_, by simpa only [PyData.weight] using c⟩, ⟨by simpa only [lvs] using a, ?_, by simpa only [PyData.weight] using c⟩⟩
  · simp only [PyData.depth]
    omega
  · simp only [PyData.depth]
    omega
theorem Shs.mono {k n m w v : Nat} {d : PyData} (h : Shs k n w d) (a : n ≤ m) (b : w ≤ v) : Shs k m v d := ⟨h.l, Nat.le_trans h.dp a, Nat.le_trans h.wt b⟩
theorem Shs.sho {k n w : Nat} {d : PyData} (h : Shs k n w d) (k0 : 7 ≤ k) (hk : k ≤ 400) (hn : n ≤ 60) (hw : (k + 3) * w ≤ 16000000) : Sho d := sho_of k0 hk h.l (Nat.le_trans h.dp hn) (Nat.le_trans (Nat.mul_le_mul_left _ h.wt) hw)
theorem shs_int {k : Nat} {i : Int} (h : i.natAbs < 10 ^ k) : Shs k 0 (4 * k + 1) (.int i) := by
  refine ⟨?_, ?_, ?_⟩
  · simp only [lvs]
    exact decide_eq_true h
  · simp only [PyData.depth]
    decide
  · simp only [PyData.weight]
    split
    · exact Nat.zero_le _
    · rename_i z
      have z1 : i.natAbs ≠ 0 := fun e => z (by rw [Int.natAbs_eq_zero.mp e]; rfl)
      have := (Nat.log2_lt (k := 4 * k) z1).mpr (Nat.lt_of_lt_of_le h (by
        rw [Nat.pow_mul]
        exact Nat.pow_le_pow_left (by decide) k))
      omega
theorem sho_ints {ns : List Int} (h : ∀ n, n ∈ ns → n.natAbs < 10 ^ 12) (l : ns.length ≤ 20000) : Sho (.list (ns.map .int)) ∧ Sho (.tuple (ns.map .int)) := by
  obtain ⟨a, b⟩ := shs_all (k := 12) (n := 0) (w := 49) (ds := ns.map .int) (fun d hd => by
    obtain ⟨n, hn, rfl⟩ := List.mem_map.mp hd
    exact shs_int (h n hn))
  rw [List.length_map] at a b
  exact ⟨a.sho (by decide) (by decide) (by decide) (by omega), b.sho (by decide) (by decide) (by decide) (by omega)⟩
theorem shs_str {k : Nat} {x : Str} (h : (x.cps.toList.all fun c => decide (c < 16 ^ 8)) = true) (w : x.cps.size ≤ 12) : Shs k 0 12 (.str x) := ⟨by simpa only [lvs] using h, by simp only [PyData.depth]; decide, by simpa only [PyData.weight] using w⟩
theorem shs_non {k : Nat} : Shs k 0 0 .none := ⟨rfl, by simp only [PyData.depth]; decide, by simp only [PyData.weight]; decide⟩
/-! a promise where no text of a thing is being made -/
structure GOk (P : Program) (w : World) (K : PySem.W.Frag) (mg : Str → Option Value) (base : Heap) (CX : CXT) (k : Nat) (f : Addr) (fd : FuncData) (ps : List Str) (sp : Sp) : Prop where
  len : ∀ vs H Q E, sp vs H Q E → vs.length = ps.length
  run : ∀ (A : Around) (outer : List Env) (s : Shared) (H : Hp) (args : Args) (us : List Value) (vs : List V) (Q : VK) (E : XK), A.guards = some [] → Room k A → Env0 P w K mg base A outer s H → BindsTo s fd args (ps.zip us) → Vals vs us → sp vs H Q E →
    codeAny (model P w) A (.call (.ref f) args) (CR CX outer P w H s Q E) s
theorem gok_of {CX : CXT} {P : Program} {w : World} {K : PySem.W.Frag} {mg : Str → Option Value} {base : Heap} {k : Nat} {x : Str} {st : Stmt} {f : Addr} {fd : FuncData} {N ps : List Str} {sp : Sp} (F : FnP K x st f fd) (S : FnScope N ps (defScope st)) (len : ∀ vs H Q E, sp vs H Q E → vs.length = ps.length)
    (hb : ∀ (cdv : Value) (A : Around) (outer : List Env) (s : Shared) (H : Hp) (vs : List V) (Q : VK) (E : XK), A.guards = some [] → Room k (A.deeper (envOfC x (defScope st) s.heap.objs.size f cdv)) → sp vs H Q E →
      ∃ t, PSs (cxOf CX P w K mg base N x (defScope st) f cdv A outer s H E) (defBody st) t ∧ t { nx := fun _ H' => Q .non H', rt := Q } (L2.start N vs) H) : GOk P w K mg base CX (k + 1) f fd ps sp := by
  obtain ⟨oc, od, dV, kV, doc, pm, an, cdv, ct, osl, rfl, lk, hcd, _, _⟩ := F.ex
  refine ⟨len, fun A outer s H args us vs Q E hg hr e0 bd rv hsp => ?_⟩
  have kept : ∀ b o, base.get? b = some o → s.heap.get? b = some o := fun b o e => (e0.bs b o e).1
  have KX : K.In s.heap := e0.mod.kin.keeps kept
  have kinds : ∀ y ∈ ps.zip us, (defScope st).names.lookup y.1 = some .local ∨ ((defScope st).names.lookup y.1 = some .cell ∧ ((cellsFrom (s.heap.objs.size + 1) (defScope st).names []).lookup y.1).isSome = true) := fun y hy =>
    (S.par y.1 (List.of_mem_zip (show (y.1, y.2) ∈ ps.zip us from hy)).1).imp id fun q => ⟨q, PySem.W.cellsFrom_some _ _ _ (.inl q)⟩
  refine codeAny_call_function hr.depth (KX _ _ lk) rfl S.co S.gen rfl (PySem.W.codeRec_of KX hcd) (bd _ _ _ _ (wpAny_newFunctionEnv_cells S.kind kinds fun env he s1 x1 => ?_))
  subst he
  refine ⟨(e0.mod.nolimit.keeps kept).keeps x1.toInCall.keep, codeAny_func ?_⟩
  obtain ⟨t, ht, hq⟩ := hb cdv A outer s H vs Q E hg (hr.deeper _) hsp
  have I := inv_start (CX := CX) (E := E) S hr.hd e0 (len _ _ _ _ hsp) rv x1
  refine wpAny_mono (ht.run [] s1 (L2.start N vs) H _ I hq) (fun fl s' hs => ?_) fun e s' hs => hs
  cases fl with
  | ret u =>
    obtain ⟨v, σ', H', J, r', q⟩ := hs
    exact ⟨v, H', J.os, J.bare, J.base, J.hok, r', q⟩
  | next =>
    obtain ⟨σ', H', J, q⟩ := hs
    exact ⟨V.non, H', J.os, J.bare, J.base, J.hok, rfl, q⟩
  | brk =>
    obtain ⟨_, _, _, q⟩ := hs
    exact q.elim
  | cont =>
    obtain ⟨_, _, _, q⟩ := hs
    exact q.elim
/-- the state ahead of the law's call: the script is tracked, or one of the module's own things -/
theorem env_ahead {P : Program} {w : World} {K : PySem.W.Frag} {mg mb : Str → Option Value} {a : Addr} {s : Shared} {vs : List Value} {ns : List Int} (KX : K.In s.heap) (hns : s.heap.Ns mainGlobals mg) (hb : s.heap.Ns builtinsNs mb)
    (hbb : ∀ x : Str, x ≠ "__name__" → mb x = bootBuiltins x) (hlim : s.heap.NoLimit) (hg : s.gens = #[]) (ha : s.heap.get? a = some { cls := .type "list", data := .seq vs.toArray }) (hi : IntsAre vs ns) (hl : ns.length ≤ sizeLine) :
    ∃ H : Hp, Only H ∧ SqL K H a (ns.map V.int) ∧ HOk P w H s.heap ∧ K.In (hidT s.heap H) ∧ (hidT s.heap H).Ns mainGlobals mg ∧ Env0 P w K mg (hidT s.heap H) callerA [] s H := by
  have rv := vals_ints hi
  have go : ∀ H : Hp, Only H → SqL K H a (ns.map V.int) → HOk P w H s.heap → (∀ b, H b ≠ none → b = a ∧ K.lookup a = none) → ∃ H : Hp, Only H ∧ SqL K H a (ns.map V.int) ∧ HOk P w H s.heap ∧ K.In (hidT s.heap H) ∧ (hidT s.heap H).Ns mainGlobals mg ∧ Env0 P w K mg (hidT s.heap H) callerA [] s H := fun H hO hS hok hA => by
    have free : ∀ {b : Addr}, (b = a → False) → H b = none := fun {b} nb => Classical.byContradiction fun z => nb (hA b z).1
    have Kb : K.In (hidT s.heap H) := fun b o e => hidT_get (KX b o e) (Classical.byContradiction fun z => by
      obtain ⟨rfl, n⟩ := hA b z
      rw [n] at e
      cases e)
    have nsb : ∀ {b : Addr} {m : Str → Option Value}, s.heap.Ns b m → (hidT s.heap H).Ns b m := fun {b m} h => by
      obtain ⟨o, es, ep, e, d, r⟩ := h
      refine ⟨o, es, ep, hidT_get e (free fun z => ?_), d, r⟩
      rw [z, ha] at e
      cases e
      cases d
    refine ⟨H, hO, hS, hok, Kb, nsb hns, rfl, ⟨Kb, nsb hns, ⟨mb, nsb hb, hbb⟩, ?_⟩, fun b o e => of_hidT e, Nat.le_of_eq (hidT_size _ _), trivial, fun b z => (by cases z), hok, .of_eq hg⟩
    obtain ⟨mc, h1, h2⟩ := hlim
    exact ⟨mc, nsb h1, h2⟩
  cases hk : K.lookup a with
  | some o =>
    have e := KX a o hk
    rw [ha] at e
    cases e
    exact go (fun _ => none) (fun _ => .inl rfl) (.inr ⟨_, vs.toArray, _, hk, rfl, rfl, rfl, by rw [List.size_toArray, hi.length]; exact hl, by simpa using rv⟩) (fun b u z => by cases z) (fun b z => absurd rfl z)
  | none =>
    refine go (fun b => if b = a then some (.frz { cls := .type "list", data := .seq vs.toArray } (.lst (ns.map V.int))) else none) (fun b => ?_) (.inl (.inr ⟨_, if_pos rfl⟩)) (fun b u z => ?_) (fun b z => ?_)
    · by_cases e : b = a
      · exact .inr ⟨_, _, if_pos e⟩
      · exact .inl (if_neg e)
    · by_cases e : b = a
      · cases (if_pos e).symm.trans z
        subst e
        exact ⟨ha, by rw [List.length_map]; exact hl, vs, _, rv, ha⟩
      · cases (if_neg e).symm.trans z
    · by_cases e : b = a
      · exact ⟨e, hk⟩
      · exact absurd (if_neg e) z
theorem walk_ofG {l : PySem.W.OpenLaw} {n k : Nat} {q : Program} {loose : List Str} {XP : (Str → Option Value) → Heap → Prop} {YP : World → Heap → Prop} {d : DefRec} {x : Str}
    (hn : l.most = some n) (hn2 : n ≤ sizeLine) (hdf : d.params.defaults = []) (hr : Room k callerA)
    (F : ∀ (w : World) (mg : Str → Option Value) (fa : Addr) (h : Heap), YP w h → h.Ns mainGlobals mg → mg d.name = some (.ref fa) →
      ∃ (K : PySem.W.Frag) (fd : FuncData) (sp : Sp), K.In h ∧ (∀ (s : Shared) (u : Value), BindsTo s fd ⟨[u], []⟩ [(x, u)]) ∧
        (∀ (H : Hp) (a : Addr) (ns : List Int), ns.length ≤ n → Only H → SqL K H a (ns.map V.int) → sp [.ref a] H (fun v _ => v = .bl true) fun _ _ _ => False) ∧
        ∀ base : Heap, K.In base → base.Ns mainGlobals mg → GOk l.prog w K mg base CX0 k fa fd [x] sp) :
    PySem.W.WalkO q loose XP YP l.row.toRowW d [] (fun f vs => PySem.call f vs) := by
  refine Att.attach_call hn hdf fun w s₀ s₁ mg mb fa o pm cd doc a vs ns G Y ho hd hcd hmg hobj hints hlen hg => ?_
  obtain ⟨K, fd, sp, KX, hbd, hsp, hF⟩ := F w mg fa _ Y G.T.g hmg
  obtain ⟨H, hO, hS, hok, Kb, nb, e0⟩ := env_ahead (P := l.prog) (w := w) KX G.T.g G.T.b G.T.builtins G.T.nolimit hg hobj hints (Nat.le_trans hlen hn2)
  refine codeAny_mono ((hF _ Kb nb).run callerA [] s₁ H ⟨[.ref a], []⟩ [.ref a] [.ref a] _ _ rfl hr e0 (hbd s₁ (.ref a)) (.cons rfl .nil) (hsp H a ns hlen hO hS)) fun r s' h => ?_
  match r, h with
  | .ok (.ret u), h =>
    obtain ⟨v, H', os, bare, un, hok', r', q⟩ := h
    have q : v = .bl true := q
    subst q
    obtain rfl : u = Value.bool true := r'
    refine ⟨rfl, OldK.of_keep fun b o e => ?_, os, bare⟩
    rcases hO b with z | ⟨ob, xs, z⟩
    · exact un.keep b o e z (by intro y; cases y) (by simp)
    · obtain ⟨e1, _⟩ := hok b _ z
      obtain ⟨e2, _⟩ := hok' b _ (un.frzs b ob _ z)
      rw [e] at e1
      cases e1
      exact e2
  | .ok .next, h => exact False.elim h
  | .ok .brk, h => exact False.elim h
  | .ok .cont, h => exact False.elim h
  | .error e, h => exact False.elim h
/-- repr(x) of a list or tuple -/
def rRepr (K : PySem.W.Frag) : List V → Hp → VK → Prop := fun xs H Q => ∃ a d, xs = [.ref a] ∧ Dp K H (.ref a) d ∧ Sho d ∧ Q (.str d.shown) H
theorem cr_repr {X : Cx} (hg : X.A.guards = some []) (hu : X.A.units + 65 < cLine) : CallR X (.builtin "repr") (rRepr X.K) := by
  intro pins s σ H vs us Q I r h
  obtain ⟨a, d, rfl, hd, ⟨sh, nd, dd, sz⟩, q⟩ := h
  rw [Vals.ref1 r]
  obtain ⟨as, rd⟩ := Dp.reads I d (.ref a) (.ref a) hd rfl
  refine repr_of_reads' rd sh (fun z => by rw [nd] at z; cases z) hg (by omega) (fun _ _ e => e) (fun h' u tk hk => ?_) sz
  exact ⟨.str d.shown, H, I.kept (t' := tk) hk, ⟨_, rfl⟩, q⟩
theorem u65g {k : Nat} {A : Around} (r : Room k A) : A.units + 65 < cLine := by
  have := r.un
  omega
/-! lists of shares alike -/
abbrev prD (c : Int × Int) : PyData := .tuple [.int c.1, .int c.2]
theorem eqv_prs : ∀ cs : List (Int × Int), PyData.eqvAll (cs.map prD) (cs.map prD) = true
  | [] => rfl
  | c :: r => by
    have h : PyData.eqv (prD c) (prD c) = true := by
      show (PyData.eqvAll [.int c.1, .int c.2] [.int c.1, .int c.2]) = true
      show ((c.1 == c.1) && ((c.2 == c.2) && true)) = true
      simp
    show (PyData.eqv (prD c) (prD c) && PyData.eqvAll (r.map prD) (r.map prD)) = true
    rw [h, eqv_prs r]
    rfl
theorem sh_prs (cs : List (Int × Int)) : SeqAt.shaped (.list (cs.map prD)) = true := by
  have h1 : PyData.canLayAll0 (cs.map prD) = true := by
    induction cs with
    | nil => rfl
    | cons x r ih =>
      show (PyData.canLay0 (prD x) && PyData.canLayAll0 (r.map prD)) = true
      rw [ih]
      rfl
  have h2 : PyData.depthAll (cs.map prD) ≤ 1 := depA_of _ fun d hd => by
    obtain ⟨c, _, rfl⟩ := List.mem_map.mp hd
    show PyData.depth (prD c) ≤ 1
    simp [PyData.depth, PyData.depthAll]
  show (PyData.canLayAll0 (cs.map prD) && decide (PyData.depthAll (cs.map prD) + 1 ≤ 64)) = true
  rw [h1, Bool.true_and]
  exact decide_eq_true (by omega)
theorem dp_prs {K : PySem.W.Frag} {H : Hp} : ∀ (ts : List Addr) (cs : List (Int × Int)), ts.length = cs.length → (∀ (i : Nat) (t : Addr) (c : Int × Int), ts[i]? = some t → cs[i]? = some c → H t = some (.tup [.int c.1, .int c.2])) → DpAll K H (ts.map V.ref) (cs.map prD)
  | [], [], _, _ => .nil
  | t :: ts, c :: cs, l, h => .cons (.tup (SqT.mk (h 0 t c rfl rfl)) (.cons (.int _) (.cons (.int _) .nil))) (dp_prs ts cs (by simpa using l) fun i t' c' a b => h (i + 1) t' c' a b)
  | [], _ :: _, l, _ => by cases l
  | _ :: _, [], l, _ => by cases l
/-- shares drawn so far -/
def Sh7 (p D : Addr) (X : Hp) (n : Nat) (i : Nat) (G : Hp) : Prop := ∃ cs : List (Int × Int), cs.length = i ∧ ShAt G D cs ∧ (∀ c, c ∈ cs → ShOk c) ∧ But p X G ∧ Bx G p (n + 3 * i)
theorem sh7_step {p D : Addr} {X G G2 : Hp} {n i : Nat} {t : Addr} {c : Int × Int} {acc : List V} (nD : X D = none) (nDp : D ≠ p) (h : Sh7 p D X n i G) (c2 : But p G G2) (B2 : Bx G2 p (n + 3 * i + 3)) (ht : G2 t = some (.tup [.int c.1, .int c.2])) (ok : ShOk c) (hD : G2 D = some (.lst acc)) : Sh7 p D X n (i + 1) (upd G2 D (.lst (acc ++ [.ref t]))) := by
  obtain ⟨cs, lc, ⟨ts, hts, lt, h3⟩, hok, cG, BG⟩ := h
  have e := c2 _ _ nDp hts
  rw [hD] at e
  have e := HO.lst.inj (Option.some.inj e)
  subst e
  have keep : ∀ t' xs, G2 t' = some (.tup xs) → (upd G2 D (.lst (ts.map V.ref ++ [.ref t]))) t' = some (.tup xs) := fun t' xs e => by
    rw [upd_ne (ne_of e hD (fun z => by cases z))]
    exact e
  refine ⟨cs ++ [c], by rw [List.length_append, lc]; rfl, ⟨ts ++ [t], by rw [upd_same, List.map_append]; rfl, by rw [List.length_append, List.length_append, lt]; rfl, fun j t' c' e1 e2 => ?_⟩, fun c' hc' => ?_, but_newer (cG.trans c2) nD, ?_⟩
  · by_cases hj : j < ts.length
    · rw [List.getElem?_append_left hj] at e1
      rw [List.getElem?_append_left (by omega)] at e2
      have z := h3 j t' c' e1 e2
      exact keep _ _ (c2 _ _ (BG.ne_tup z) z)
    · rw [List.getElem?_append_right (by omega)] at e1
      rw [List.getElem?_append_right (by omega)] at e2
      have j0 : j - ts.length = 0 := by
        refine Decidable.byContradiction fun z => ?_
        rw [List.getElem?_eq_none (by show 1 ≤ _; omega)] at e1
        cases e1
      have j1 : j - cs.length = 0 := by omega
      rw [j0] at e1
      rw [j1] at e2
      obtain rfl := Option.some.inj e1
      obtain rfl := Option.some.inj e2
      exact keep _ _ ht
  · rcases List.mem_append.mp hc' with z | z
    · exact hok c' z
    · rw [List.mem_singleton.mp z]
      exact ok
  · rw [show n + 3 * (i + 1) = n + 3 * i + 3 by omega]
    exact B2.other nDp
def sp_law {K : PySem.W.Frag} {mg : Str → Option Value} (_ : Defs K mg) : Sp := fun vs H Q _ => ∃ (a : Addr) (ns : List Int), vs = [.ref a] ∧ SqL K H a (ns.map V.int) ∧ ns.length ≤ 63 ∧ True ∧ ∀ H', Q (.bl true) H'
theorem ok_law (T : Defs K mg) : GOk P w K mg base CX0 15 T.f_law T.fd_law ["_law_script"] (sp_law T) := by
  have G__law_folded : FnOk P w K mg base CX0 1 T.f__law_folded T.fd__law_folded ["_law_script", "_law_many"] (sp__law_folded K) := ok__law_folded T
  have G__law_box : FnOk P w K mg base CX0 1 T.f__law_box T.fd__law_box ["_law_script", "_law_k"] (sp__law_box K) := ok__law_box T
  have G__law_any : FnOk P w K mg base CX0 12 T.f__law_any T.fd__law_any ["_law_box_here"] (sp__law_any K) := ok__law_any T
  have G__law_plain : FnOk P w K mg base CX0 9 T.f__law_plain T.fd__law_plain ["_law_formula_here", "_law_shares"] (sp__law_plain K) := ok__law_plain T
  have G__law_share : FnOk P w K mg base CX0 3 T.f__law_share T.fd__law_share ["_law_box_here"] (sp__law_share K) := ok__law_share T
  have G__law_take : FnOk P w K mg base CX0 1 T.f__law_take T.fd__law_take ["_law_box_here", "_law_many"] (sp__law_take K) := ok__law_take T
  have G_plain_share : FnOk P w K mg base CX0 14 T.f_plain_share T.fd_plain_share ["formula", "shares"] (sp_plain_share K) := ok_plain_share T
  have G__law_part : FnOk P w K mg base CX0 2 T.f__law_part T.fd__law_part ["_law_top", "_law_bottom"] (sp__law_part K) := ok__law_part T
  have G__law_inputs : FnOk P w K mg base CX0 9 T.f__law_inputs T.fd__law_inputs ["_law_formula_here"] (sp__law_inputs K) := ok__law_inputs T
  refine gok_of T.F_law sc_law (fun vs H Q E h => ?_) (fun cdv A outer s H vs Q E hg hr h => ?_)
  · obtain ⟨a, ns, rfl, hS, hlen, _, q⟩ := h
    rfl
  · obtain ⟨a, ns, rfl, hS, hlen, _, q⟩ := h
    refine ⟨_, PSs.nox (pss_cons (ps_set (i := 1) sc_law.nd rfl (.inl rfl) (pe_call G__law_folded (hr.mono (by decide)) (by rfl) T.g__law_folded T.F__law_folded.kp T.b__law_folded .nil pass0 (pa_cons (pv 0) (pa_cons pe_int pa_nil))))
    (pss_cons (ps_for PassesOwn.never rfl (pi_range1 (by rfl) T.m_range (pa_cons (pe_callB call_len_seq (by rfl) T.m_len bt_len (pa_cons (pv 1) pa_nil)) pa_nil)) (pg_name (i := 2) sc_law.nd rfl (.inl rfl)) (pss_cons (ps_set (i := 3) sc_law.nd rfl (.inr rfl) (pe_call G__law_box (hr.mono (by decide)) (by rfl) T.g__law_box T.F__law_box.kp T.b__law_box .nil pass0 (pa_cons (pv 1) (pa_cons (pv 2) pa_nil))))
    (pss_cons (ps_set (i := 4) sc_law.nd rfl (.inl rfl) (pe_call G__law_any (hr.mono (by decide)) (by rfl) T.g__law_any T.F__law_any.kp T.b__law_any .nil pass0 (pa_cons (pv 3) pa_nil)))
    (pss_cons (ps_setLc (i := 5) (own := [("_law_place", 10)]) (g := gName 10) (tt := tYes) rfl sc_law.nd rfl rfl (sw_true rfl rfl rfl (by decide +kernel)) (pi_range1 (by rfl) T.m_range (pa_cons (pe_op op_add (pe_op op_add pe_int (pe_callB (cr_max rfl) (by rfl) T.m_max bt_max (pa_cons (pe_call G__law_inputs (hr.mono (by decide)) (by rfl) T.g__law_inputs T.F__law_inputs.kp T.b__law_inputs .nil pass0 (pa_cons (pv 4) pa_nil)) pa_nil))) (pe_call G__law_take (hr.mono (by decide)) (by rfl) T.g__law_take T.F__law_take.kp T.b__law_take .nil pass0 (pa_cons (pv 3) (pa_cons pe_int pa_nil)))) pa_nil)) (blkOk_by (N := N_law) (sc := defScope s_law) (by decide +kernel)) (fun _ _ _ _ _ => (pg_name (i := 10) sc_law.nd rfl (.inl rfl))) (fun _ _ _ _ _ => pts_nil) (fun _ _ _ _ _ => (pe_call G__law_share (hr.mono (by decide)) (by rfl) T.g__law_share T.F__law_share.kp T.b__law_share .nil pass0 (pa_cons (pv 3) pa_nil))))
    (pss_cons (ps_asg (pe_call G__law_plain (hr.mono (by decide)) (by rfl) T.g__law_plain T.F__law_plain.kp T.b__law_plain .nil pass0 (pa_cons (pv 4) (pa_cons (pv 5) pa_nil))) (pg_tup rfl (pgs_cons (pg_name (i := 6) sc_law.nd rfl (.inl rfl)) (pgs_cons (pg_name (i := 7) sc_law.nd rfl (.inl rfl)) pgs_nil))))
    (pss_cons (ps_set (i := 8) sc_law.nd rfl (.inl rfl) (pe_callTy call_list_of (by rfl) T.m_list bt_list (pa_cons (pv 5) pa_nil)))
    (pss_one (ps_for PassesOwn.never rfl (pi_range1 (by rfl) T.m_range (pa_cons pe_int pa_nil)) (pg_name (i := 9) sc_law.nd rfl (.inl rfl)) (pss_one (ps_if (PW.pt (pw_or (pt_cmpR op_ne (pe_callB (cr_repr hg (u65g hr)) (by rfl) T.m_repr bt_repr (pa_cons (pe_call G_plain_share (hr.mono (by decide)) (by rfl) T.g_plain_share T.F_plain_share.kp T.b_plain_share .nil pass0 (pa_cons (pv 4) (pa_cons (pv 8) pa_nil))) pa_nil)) (pe_callB (cr_repr hg (u65g hr)) (by rfl) T.m_repr bt_repr (pa_cons (pe_call G__law_part (hr.mono (by decide)) (by rfl) T.g__law_part T.F__law_part.kp T.b__law_part .nil pass0 (pa_cons (pv 6) (pa_cons (pv 7) pa_nil))) pa_nil)) (nomark _)) (pw_or1 (pt_cmpR (op_neD hr.units) (pv 8) (pv 5) (nomark _))))) (pss_one (ps_ret pe_bl)) pss_nil))))))))))
    (pss_one (ps_ret pe_bl)))), ?_⟩
    have hsl : sizeLine = 16777216 := by decide
    refine ⟨.ref a, rfl, a, ns, 6, rfl, hS, hlen, by decide, by decide, fun H1 c cs s1 nc hc lc => ?_⟩
    refine ⟨.ref c, rfl, c, _, rfl, .inl (SqL.mk hc), _, rfl, by rw [List.length_map]; omega, by rw [List.length_map]; omega, for_range (fun i σ H2 => ∃ y2 y3 y4 y5 y6 y7 y8 y9, σ = [some (.ref a), some (.ref c), y2, y3, y4, y5, y6, y7, y8, y9, none] ∧ Same H1 H2) ⟨none, none, none, none, none, none, none, none, rfl, Same.refl H1⟩ ?_ ?_⟩
    rotate_left
    · rintro σ H2 ⟨y2, y3, y4, y5, y6, y7, y8, y9, rfl, s2⟩
      exact q _
    rintro i σ H2 hi ⟨y2, y3, y4, y5, y6, y7, y8, y9, rfl, s2⟩
    have hi2 : i < 1000 := by
      rw [List.length_map] at hi
      omega
    refine ⟨.ref c, rfl, .int (0 + (i : Int)), rfl, c, cs, i, by rw [Int.zero_add]; rfl, SqL.mk (s2 _ _ hc), hi2, fun H3 b s3 nb hB => ?_⟩
    have nb1 : H1 b = none := s2.free nb
    have s13 := s2.trans s3
    refine ⟨.ref b, rfl, b, 0, rfl, hB, by decide, fun G1 v f c1 B1 hf dp sz ins => ?_⟩
    refine ⟨v, rfl, f, v, rfl, hf, dp, by omega, fun G2 l g2 hl => ?_⟩
    have il := f.ins_len
    refine ⟨l, _, rfl, SqL.mk hl, by rw [List.length_map]; omega, fun m hm1 hm2 => ⟨_, _, rfl, rfl, ?_⟩⟩
    obtain ⟨m, hmm, rfl⟩ := List.mem_map.mp hm1
    have mi := ins m hmm
    have mx : ∀ j, j ∈ f.ins → j ≤ m := fun j hj => by
      have := hm2 _ (List.mem_map.mpr ⟨j, hj, rfl⟩)
      omega
    have B2 := B1.same g2
    refine ⟨.ref b, rfl, b, 2, _, rfl, B2, by decide, by decide, by decide, fun G3 r3 c3 B3 l3 u3 => ⟨_, _, rfl, rfl, ?_⟩⟩
    obtain ⟨N, hN⟩ : ∃ N : Nat, 1 + (m : Int) + r3 = (N : Int) := ⟨(1 + (m : Int) + r3).toNat, by omega⟩
    try dsimp only
    rw [hN]
    refine ⟨(N : Int), rfl, by omega, by omega, fun D nD => ?_⟩
    have nDb : D ≠ b := ne_new B3 nD
    refine lc_range (Sh7 b D G3 201) ⟨[], rfl, ⟨[], upd_same, rfl, fun j t c' e _ => (by cases e)⟩, fun _ z => (by cases z), (But.refl b G3).new nD, B3.new nD⟩ (fun j G hj h => ?_) (fun G h => ?_)
    · obtain ⟨ds, ld, hds, hok, cG, BG⟩ := id h
      refine ⟨rfl, yes_ite ?_⟩
      refine ⟨.ref b, rfl, b, _, rfl, BG, by omega, fun G4 t e c4 B4 ht ok => ?_⟩
      obtain ⟨ts, hts, lt, _⟩ := hds
      have hD4 := c4 _ _ nDb hts
      exact ⟨_, hD4, by rw [List.length_map]; omega, sh7_step nD nDb h c4 B4 ht ok hD4⟩
    rw [Int.toNat_natCast] at h
    obtain ⟨ds, ld, hds, hok, cG, BG⟩ := h
    have hfG : FmAt G f v := (hf.but B1 ((same_but g2).trans (c3.trans cG)))
    have hin : ∀ j, j ∈ f.ins → j < ds.length := fun j hj => by
      have := mx j hj
      omega
    have cH : But b H3 G := c1.trans ((same_but g2).trans (c3.trans cG))
    clear hf hl g2 B2 c3 B3 nD cG
    refine ⟨v, rfl, .ref D, rfl, f, v, D, ds, rfl, hfG, dp, by omega, hds, hin, hok, fun X t x1 ht => ?_⟩
    refine ⟨t, _, rfl, SqT.mk ht, rfl, _, _, rfl, _, _, rfl, rfl, ?_⟩
    obtain ⟨ts, hts, lt, h3⟩ := hds.same x1
    refine ⟨.ref D, rfl, D, _, rfl, .inl (SqL.mk hts), fun E1 nE => ?_⟩
    have x2 := same_upd nE (o := .lst (ts.map V.ref))
    have hE := upd_same (H := X) (a := E1) (o := .lst (ts.map V.ref))
    generalize upd X E1 (.lst (ts.map V.ref)) = Y at x2 hE ⊢
    have hfY := hfG.same (x1.trans x2)
    have shE : ShAt Y E1 ds := ⟨ts, hE, lt, fun j t' c' e1 e2 => x2 _ _ (h3 j t' c' e1 e2)⟩
    have shD : ShAt Y D ds := (hds.same x1).same x2
    obtain ⟨po, so1, so2⟩ := pl_small hok hin (by omega)
    have plo := (pl_ok hok f hin).lo
    refine ⟨2, rfl, by decide, by decide, for_range (fun j σ F => ∃ y9, σ = [some (.ref a), some (.ref c), some (.int (0 + (i : Int))), some (.ref b), some v, some (.ref D), some (.int (f.pl ds).1), some (.int (f.pl ds).2), some (.ref E1), y9, none] ∧ Same Y F) ⟨_, rfl, Same.refl Y⟩ ?_ ?_⟩
    rotate_left
    · rintro σ F ⟨y9, rfl, sF⟩
      exact ⟨_, _, _, _, _, _, _, _, rfl, But.same nb1 s13 (cH.trans (same_but ((x1.trans x2).trans sF)))⟩
    rintro j σ F hj ⟨y9, rfl, sF⟩
    refine ⟨v, rfl, .ref E1, rfl, f, v, E1, ds, rfl, hfY.same sF, by omega, by omega, shE.same sF, hin, hok, fun F1 t1 f1 h1 => ?_⟩
    have big : ∀ x : Int, S 200 x → x.natAbs < 10 ^ 61 := fun x hx => Nat.lt_of_lt_of_le hx (by decide)
    have bt := big _ (so1.frT (b := (f.pl ds).2) (by omega))
    have bb := big _ (so2.frB (t := (f.pl ds).1) (by omega))
    have sho : Sho (.tuple [.int (frT (f.pl ds).1 (f.pl ds).2), .int (frB (f.pl ds).1 (f.pl ds).2)]) := by
      refine (shs_all (k := 61) (n := 0) (w := 245) (ds := [.int (frT (f.pl ds).1 (f.pl ds).2), .int (frB (f.pl ds).1 (f.pl ds).2)]) fun d hd => ?_).2.sho (by decide) (by decide) (by decide) (by show 64 * (2 * 246) ≤ _; decide)
      simp only [List.mem_cons, List.not_mem_nil, or_false] at hd
      rcases hd with rfl | rfl
      · exact shs_int bt
      · exact shs_int bb
    refine ⟨t1, _, rfl, .tup (SqT.mk h1) (.cons (.int _) (.cons (.int _) .nil)), sho, ?_⟩
    refine ⟨_, rfl, _, rfl, (f.pl ds).1, (f.pl ds).2, rfl, plo, po, so2.mono (by decide), fun F2 t2 f2 h2 => ?_⟩
    refine ⟨t2, _, rfl, .tup (SqT.mk h2) (.cons (.int _) (.cons (.int _) .nil)), sho, rfl, _, rfl, iteNS rfl ?_⟩
    have sF2 := sF.trans (f1.trans f2)
    obtain ⟨us, hus, lu, hu3⟩ := shE.same sF2
    obtain ⟨ws, hws, lw, hw3⟩ := shD.same sF2
    refine ⟨.ref E1, rfl, .ref D, rfl, .list (ds.map prD), .list (ds.map prD), .lst (SqL.mk hus) (dp_prs us ds lu hu3), .lst (SqL.mk hws) (dp_prs ws ds lw hw3), sh_prs ds, sh_prs ds, ?_⟩
    have eq1 : PyData.eqv (.list (ds.map prD)) (.list (ds.map prD)) = true := eqv_prs ds
    rw [eq1]
    exact ⟨_, rfl, iteF ⟨_, rfl, sF2⟩⟩
end
def d_common_divisor : He.DefD := ⟨("common_divisor", none), "common_divisor", "common_divisor", defArgs s_common_divisor, defBody s_common_divisor, defScope s_common_divisor, [], []⟩
def d_fraction : He.DefD := ⟨("fraction", none), "fraction", "fraction", defArgs s_fraction, defBody s_fraction, defScope s_fraction, [], []⟩
def d_plus : He.DefD := ⟨("plus", none), "plus", "plus", defArgs s_plus, defBody s_plus, defScope s_plus, [], []⟩
def d_minus : He.DefD := ⟨("minus", none), "minus", "minus", defArgs s_minus, defBody s_minus, defScope s_minus, [], []⟩
def d_times : He.DefD := ⟨("times", none), "times", "times", defArgs s_times, defBody s_times, defScope s_times, [], []⟩
def d_thing_at : He.DefD := ⟨("thing_at", none), "thing_at", "thing_at", defArgs s_thing_at, defBody s_thing_at, defScope s_thing_at, [], []⟩
def d_either_share : He.DefD := ⟨("either_share", none), "either_share", "either_share", defArgs s_either_share, defBody s_either_share, defScope s_either_share, [], []⟩
def d_oneof_share : He.DefD := ⟨("oneof_share", none), "oneof_share", "oneof_share", defArgs s_oneof_share, defBody s_oneof_share, defScope s_oneof_share, [], []⟩
def d_pick_share : He.DefD := ⟨("pick_share", none), "pick_share", "pick_share", defArgs s_pick_share, defBody s_pick_share, defScope s_pick_share, [], []⟩
def d_plain_share : He.DefD := ⟨("plain_share", none), "plain_share", "plain_share", defArgs s_plain_share, defBody s_plain_share, defScope s_plain_share, [], []⟩
def d__law_box : He.DefD := ⟨("_law_box", none), "_law_box", "_law_box", defArgs s__law_box, defBody s__law_box, defScope s__law_box, [], []⟩
def d__law_take : He.DefD := ⟨("_law_take", none), "_law_take", "_law_take", defArgs s__law_take, defBody s__law_take, defScope s__law_take, [], []⟩
def d__law_folded : He.DefD := ⟨("_law_folded", none), "_law_folded", "_law_folded", defArgs s__law_folded, defBody s__law_folded, defScope s__law_folded, [], []⟩
def d__law_gcd : He.DefD := ⟨("_law_gcd", none), "_law_gcd", "_law_gcd", defArgs s__law_gcd, defBody s__law_gcd, defScope s__law_gcd, [], []⟩
def d__law_part : He.DefD := ⟨("_law_part", none), "_law_part", "_law_part", defArgs s__law_part, defBody s__law_part, defScope s__law_part, [], []⟩
def d__law_formula : He.DefD := ⟨("_law_formula", none), "_law_formula", "_law_formula", defArgs s__law_formula, defBody s__law_formula, defScope s__law_formula, [], []⟩
def d__law_any : He.DefD := ⟨("_law_any", none), "_law_any", "_law_any", defArgs s__law_any, defBody s__law_any, defScope s__law_any, [], []⟩
def d__law_inputs : He.DefD := ⟨("_law_inputs", none), "_law_inputs", "_law_inputs", defArgs s__law_inputs, defBody s__law_inputs, defScope s__law_inputs, [], []⟩
def d__law_share : He.DefD := ⟨("_law_share", none), "_law_share", "_law_share", defArgs s__law_share, defBody s__law_share, defScope s__law_share, [], []⟩
def d__law_plain : He.DefD := ⟨("_law_plain", none), "_law_plain", "_law_plain", defArgs s__law_plain, defBody s__law_plain, defScope s__law_plain, [], []⟩
def d_law : He.DefD := ⟨("law", none), "law", "law", defArgs s_law, defBody s_law, defScope s_law, [], []⟩
def hfn : List He.DefD := [d_common_divisor, d_fraction, d_plus, d_minus, d_times, d_thing_at, d_either_share, d_oneof_share, d_pick_share, d_plain_share, d__law_box, d__law_take, d__law_folded, d__law_gcd, d__law_part, d__law_formula, d__law_any, d__law_inputs, d__law_share, d__law_plain, d_law]
def hfa : List He.Fa := [.glo "common_divisor", .glo "fraction", .glo "plus", .glo "minus", .glo "times", .glo "thing_at", .glo "either_share", .glo "oneof_share", .glo "pick_share", .glo "plain_share", .glo "_law_box", .glo "_law_take", .glo "_law_folded", .glo "_law_gcd", .glo "_law_part", .glo "_law_formula", .glo "_law_any", .glo "_law_inputs", .glo "_law_share", .glo "_law_plain", .glo "law", .free "abs", .free "divmod", .free "enumerate", .free "int", .free "len", .free "list", .free "max", .free "range", .free "repr", .free "tuple", .glo "WHOLE", .glo "NOUGHT"]
def htf : List He.Defn := []
abbrev Hex (K : PySem.W.Frag) : Prop := (tupB K "WHOLE" [1, 1] = true) ∧ (tupB K "NOUGHT" [0, 1] = true)
instance (K : PySem.W.Frag) : Decidable (Hex K) := inferInstance
def hex : PySem.W.Frag → Bool := fun K => decide (Hex K)
abbrev R : PySem.W.OpenRow := PySem.W.OpenLaw.row PySem.Challenge.rw_shareones_k36_plain_shares
abbrev hk : PySem.W.Hook := He.hookX 4 hfa hfn [] htf hex
def ob (s : PySem.W.SharedT) : He.AlX := He.obsX 4 hfa hfn [] htf hex (HandSHeadRun.getT s)
theorem ob_eq (s : PySem.W.SharedT) : ob s = hk.obs s.abs := He.obsX_eq (HandSHeadRun.getT_eq s)
def loose : List Str := "common_divisor" :: "fraction" :: "plus" :: "minus" :: "times" :: "thing_at" :: "either_share" :: "oneof_share" :: "pick_share" :: "plain_share" :: "_law_box" :: "_law_take" :: "_law_folded" :: "_law_gcd" :: "_law_part" :: "_law_formula" :: "_law_any" :: "_law_inputs" :: "_law_share" :: "_law_plain" :: "WHOLE" :: "NOUGHT" :: []
theorem run (w : World) : HandSHeadRun.RunEq R (PySem.W.view R.prog [25]) hk ob 6000 loose w := by
  intro os
  kernel_rfl
theorem facts {l : PySem.W.OpenLaw} {w : World} {K : PySem.W.Frag} {h : Heap} {mg : Str → Option Value} {f : Addr} (X : K.In h) (G : h.Ns mainGlobals mg) (hfa_ : mg ("law" : Str) = some (.ref f)) (cc : He.SaysX hfa hfn [] htf hex w h K) :
    ∃ (fd : FuncData) (sp : Sp), (∀ (s : Shared) (u : Value), BindsTo s fd ⟨[u], []⟩ [("_law_script", u)]) ∧ (∀ (H : Hp) (a : Addr) (ns : List Int), ns.length ≤ 63 → Only H → SqL K H a (ns.map V.int) → sp [.ref a] H (fun v _ => v = .bl true) fun _ _ _ => False) ∧ ∀ base : Heap, K.In base → base.Ns mainGlobals mg → GOk l.prog w K mg base CX0 15 f fd ["_law_script"] sp := by
  have c : He.SaysD hfa hfn K := congrArg (fun z : He.AlT => z.1) cc.t
  obtain ⟨fd_common_divisor, F_common_divisor⟩ := c.def_ 0 (d := d_common_divisor) rfl
  obtain ⟨fd_fraction, F_fraction⟩ := c.def_ 1 (d := d_fraction) rfl
  obtain ⟨fd_plus, F_plus⟩ := c.def_ 2 (d := d_plus) rfl
  obtain ⟨fd_minus, F_minus⟩ := c.def_ 3 (d := d_minus) rfl
  obtain ⟨fd_times, F_times⟩ := c.def_ 4 (d := d_times) rfl
  obtain ⟨fd_thing_at, F_thing_at⟩ := c.def_ 5 (d := d_thing_at) rfl
  obtain ⟨fd_either_share, F_either_share⟩ := c.def_ 6 (d := d_either_share) rfl
  obtain ⟨fd_oneof_share, F_oneof_share⟩ := c.def_ 7 (d := d_oneof_share) rfl
  obtain ⟨fd_pick_share, F_pick_share⟩ := c.def_ 8 (d := d_pick_share) rfl
  obtain ⟨fd_plain_share, F_plain_share⟩ := c.def_ 9 (d := d_plain_share) rfl
  obtain ⟨fd__law_box, F__law_box⟩ := c.def_ 10 (d := d__law_box) rfl
  obtain ⟨fd__law_take, F__law_take⟩ := c.def_ 11 (d := d__law_take) rfl
  obtain ⟨fd__law_folded, F__law_folded⟩ := c.def_ 12 (d := d__law_folded) rfl
  obtain ⟨fd__law_gcd, F__law_gcd⟩ := c.def_ 13 (d := d__law_gcd) rfl
  obtain ⟨fd__law_part, F__law_part⟩ := c.def_ 14 (d := d__law_part) rfl
  obtain ⟨fd__law_formula, F__law_formula⟩ := c.def_ 15 (d := d__law_formula) rfl
  obtain ⟨fd__law_any, F__law_any⟩ := c.def_ 16 (d := d__law_any) rfl
  obtain ⟨fd__law_inputs, F__law_inputs⟩ := c.def_ 17 (d := d__law_inputs) rfl
  obtain ⟨fd__law_share, F__law_share⟩ := c.def_ 18 (d := d__law_share) rfl
  obtain ⟨fd__law_plain, F__law_plain⟩ := c.def_ 19 (d := d__law_plain) rfl
  obtain ⟨fd_law, F_law⟩ := c.def_ 20 (d := d_law) rfl
  have e := hfa_.symm.trans (He.glo_ok X G (c.fact 20 (f := .glo "law") rfl))
  cases e
  have b := FunD.bindsA (ps := ["_law_script"]) F_law fun _ _ _ _ _ _ us hl => match us, hl with | [_], _ => rfl
  have hm : Hex K := of_decide_eq_true cc.more
  obtain ⟨h0, h1⟩ := hm
  let T : Defs K mg := ⟨_, fd_common_divisor, F_common_divisor, (He.glo_ok X G (c.fact 0 (f := .glo "common_divisor") rfl)), (FunD.bindsN F_common_divisor fun _ _ _ _ _ _ us hl => match us, hl with | [_, _], _ => rfl), _, fd_fraction, F_fraction, (He.glo_ok X G (c.fact 1 (f := .glo "fraction") rfl)), (FunD.bindsN F_fraction fun _ _ _ _ _ _ us hl => match us, hl with | [_, _], _ => rfl), _, fd_plus, F_plus, (He.glo_ok X G (c.fact 2 (f := .glo "plus") rfl)), (FunD.bindsN F_plus fun _ _ _ _ _ _ us hl => match us, hl with | [_, _], _ => rfl), _, fd_minus, F_minus, (He.glo_ok X G (c.fact 3 (f := .glo "minus") rfl)), (FunD.bindsN F_minus fun _ _ _ _ _ _ us hl => match us, hl with | [_, _], _ => rfl), _, fd_times, F_times, (He.glo_ok X G (c.fact 4 (f := .glo "times") rfl)), (FunD.bindsN F_times fun _ _ _ _ _ _ us hl => match us, hl with | [_, _], _ => rfl), _, fd_thing_at, F_thing_at, (He.glo_ok X G (c.fact 5 (f := .glo "thing_at") rfl)), (FunD.bindsN F_thing_at fun _ _ _ _ _ _ us hl => match us, hl with | [_, _, _], _ => rfl), _, fd_either_share, F_either_share, (He.glo_ok X G (c.fact 6 (f := .glo "either_share") rfl)), (FunD.bindsN F_either_share fun _ _ _ _ _ _ us hl => match us, hl with | [_, _], _ => rfl), _, fd_oneof_share, F_oneof_share, (He.glo_ok X G (c.fact 7 (f := .glo "oneof_share") rfl)), (FunD.bindsN F_oneof_share fun _ _ _ _ _ _ us hl => match us, hl with | [_, _], _ => rfl), _, fd_pick_share, F_pick_share, (He.glo_ok X G (c.fact 8 (f := .glo "pick_share") rfl)), (FunD.bindsN F_pick_share fun _ _ _ _ _ _ us hl => match us, hl with | [_, _, _], _ => rfl), _, fd_plain_share, F_plain_share, (He.glo_ok X G (c.fact 9 (f := .glo "plain_share") rfl)), (FunD.bindsN F_plain_share fun _ _ _ _ _ _ us hl => match us, hl with | [_, _], _ => rfl), _, fd__law_box, F__law_box, (He.glo_ok X G (c.fact 10 (f := .glo "_law_box") rfl)), (FunD.bindsN F__law_box fun _ _ _ _ _ _ us hl => match us, hl with | [_, _], _ => rfl), _, fd__law_take, F__law_take, (He.glo_ok X G (c.fact 11 (f := .glo "_law_take") rfl)), (FunD.bindsN F__law_take fun _ _ _ _ _ _ us hl => match us, hl with | [_, _], _ => rfl), _, fd__law_folded, F__law_folded, (He.glo_ok X G (c.fact 12 (f := .glo "_law_folded") rfl)), (FunD.bindsN F__law_folded fun _ _ _ _ _ _ us hl => match us, hl with | [_, _], _ => rfl), _, fd__law_gcd, F__law_gcd, (He.glo_ok X G (c.fact 13 (f := .glo "_law_gcd") rfl)), (FunD.bindsN F__law_gcd fun _ _ _ _ _ _ us hl => match us, hl with | [_, _], _ => rfl), _, fd__law_part, F__law_part, (He.glo_ok X G (c.fact 14 (f := .glo "_law_part") rfl)), (FunD.bindsN F__law_part fun _ _ _ _ _ _ us hl => match us, hl with | [_, _], _ => rfl), _, fd__law_formula, F__law_formula, (He.glo_ok X G (c.fact 15 (f := .glo "_law_formula") rfl)), (FunD.bindsN F__law_formula fun _ _ _ _ _ _ us hl => match us, hl with | [_, _, _, _], _ => rfl), _, fd__law_any, F__law_any, (He.glo_ok X G (c.fact 16 (f := .glo "_law_any") rfl)), (FunD.bindsN F__law_any fun _ _ _ _ _ _ us hl => match us, hl with | [_], _ => rfl), _, fd__law_inputs, F__law_inputs, (He.glo_ok X G (c.fact 17 (f := .glo "_law_inputs") rfl)), (FunD.bindsN F__law_inputs fun _ _ _ _ _ _ us hl => match us, hl with | [_], _ => rfl), _, fd__law_share, F__law_share, (He.glo_ok X G (c.fact 18 (f := .glo "_law_share") rfl)), (FunD.bindsN F__law_share fun _ _ _ _ _ _ us hl => match us, hl with | [_], _ => rfl), _, fd__law_plain, F__law_plain, (He.glo_ok X G (c.fact 19 (f := .glo "_law_plain") rfl)), (FunD.bindsN F__law_plain fun _ _ _ _ _ _ us hl => match us, hl with | [_, _], _ => rfl), _, fd_law, F_law, (He.glo_ok X G (c.fact 20 (f := .glo "law") rfl)), (FunD.bindsN F_law fun _ _ _ _ _ _ us hl => match us, hl with | [_], _ => rfl), _, (He.glo_ok X G (c.fact 31 (f := .glo "WHOLE") rfl)), (tupB_ok h0), _, (He.glo_ok X G (c.fact 32 (f := .glo "NOUGHT") rfl)), (tupB_ok h1), (He.free_ok X G (c.fact 21 (f := .free "abs") rfl)), (He.free_ok X G (c.fact 22 (f := .free "divmod") rfl)), (He.free_ok X G (c.fact 23 (f := .free "enumerate") rfl)), (He.free_ok X G (c.fact 24 (f := .free "int") rfl)), (He.free_ok X G (c.fact 25 (f := .free "len") rfl)), (He.free_ok X G (c.fact 26 (f := .free "list") rfl)), (He.free_ok X G (c.fact 27 (f := .free "max") rfl)), (He.free_ok X G (c.fact 28 (f := .free "range") rfl)), (He.free_ok X G (c.fact 29 (f := .free "repr") rfl)), (He.free_ok X G (c.fact 30 (f := .free "tuple") rfl))⟩
  exact ⟨fd_law, sp_law T, fun s v => b s [v] rfl, fun H a ns hl _ hS => ⟨a, ns, rfl, hS, hl, trivial, fun _ => rfl⟩, fun base _ _ => ok_law T⟩
end Fq
open PySem PySem.W PySem.Calls PyProof.Rows
set_option maxHeartbeats 0 in
theorem PySem.Challenge.cw_shareones_k36_plain_shares_holds : PySem.Challenge.rw_shareones_k36_plain_shares.Holds := by
  w_on; o_law
  refine HandSHeadRun.head_any (r := OpenLaw.row PySem.Challenge.rw_shareones_k36_plain_shares) (q := view (OpenLaw.row PySem.Challenge.rw_shareones_k36_plain_shares).prog [25]) (H := Fq.hk) (ob := Fq.ob) (M := 6000) (loose := Fq.loose) (d := HandSHeadRun.topDef (OpenLaw.row PySem.Challenge.rw_shareones_k36_plain_shares).prog 25) (kwd := []) Fq.ob_eq
    (by kernel_rfl) (fun s => by kernel_rfl) Fq.run (by kernel_rfl) (by kernel_rfl) (by kernel_rfl) (by rfl) (by first | assumption | decide +kernel) (by decide +kernel) ⟨rfl, rfl, rfl, rfl, rfl, by decide +kernel⟩ ?hw ?hc
  case hw => w_witness2
  case hc =>
    refine Fq.walk_ofG (l := PySem.Challenge.rw_shareones_k36_plain_shares) (n := 63) (k := 15) (x := "_law_script") rfl (by decide) (by kernel_rfl) ⟨rfl, by decide, by decide⟩ ?F
    intro w mg fa h Y G hmg0
    obtain ⟨K, KX, c⟩ := Y
    have hmg : mg ("law" : PySem.Str) = some (.ref fa) := by
      have e : (HandSHeadRun.topDef (OpenLaw.row PySem.Challenge.rw_shareones_k36_plain_shares).prog 25).name = ("law" : PySem.Str) := by kernel_rfl
      rw [← e]
      exact hmg0
    obtain ⟨fd, sp, a1, a2, a3⟩ := Fq.facts (l := PySem.Challenge.rw_shareones_k36_plain_shares) KX G hmg c
    exact ⟨K, fd, sp, KX, a1, a2, a3⟩
