import PyProof.Rows.All
import Wide.All
import OpenK.AllK
import Wide.FinOn
import KE.KStateDown
import Lean
import HandS.ForMost
import HandS.Wide
import HandS.WideBits
import HandS.IsInst
import HandS.Walk
import HandS.Evl
import HandS.Style
import HandS.NoneIn
import HandS.Defaults
import HandS.Head0
import HandS.Head1
import HandS.Head2
import HandS.HeadEnd
import HandS.HeadHook1
import HandS.HeadHook2
import HandS.AnyAll
import HandS.TupAny
import HandS.TupMul
import HandS.Zip
import HandS.HeadHook3
import HandS.HeadHook4
import HandS.HeadWalk
import HandS.EndTab
import PyProof.TupleOfGen
import KE.KNest
import KE.KDictWalk
import HandS.Set
import HandS.Strs
import KE.GoesSet
import KE.GoesMore
import KE.GoesZip
import KE.GoesEnum
import PyProof.GenCompT
import HandS.Exc
import HandS.ExcOwn
import HandS.ExcIs
import HandS.WordsExc
import HandS.SetFor
import PySem.Challenge.RW_shareones_k42_held_for_how_long
set_option Elab.async false
set_option pp.maxSteps 250
set_option linter.all false
set_option maxRecDepth 100000
set_option maxHeartbeats 4000000
namespace Fq
open PySem PySem.Spec PyProof.Rows L2
section
variable {P : Program} {w : World} {K : PySem.W.Frag} {mg : Str → Option Value} {base : Heap}
def topS (i : Nat) : Stmt := PySem.Challenge.pw_shareones_k42_held_for_how_long.main.body.getD i (.Pass ⟨0, 0, 0, 0⟩)
abbrev FnP (K : PySem.W.Frag) (x : Str) (st : Stmt) (f : Addr) (fd : FuncData) : Prop := FunD K x x (defArgs st) (defBody st) (defScope st) [] [] f fd
abbrev s_refuse_unlike : Stmt := topS 9
abbrev N_refuse_unlike : List Str := ["rows", "row"]
theorem sc_refuse_unlike : FnScope N_refuse_unlike ["rows"] (defScope s_refuse_unlike) := ⟨rfl, rfl, rfl, by decide +kernel, rfl, by decide +kernel, by decide +kernel⟩
abbrev s_kept : Stmt := topS 11
abbrev N_kept : List Str := ["upper", "lower", "first", "told", "held", "bit", "taken"]
theorem sc_kept : FnScope N_kept ["upper", "lower", "first"] (defScope s_kept) := ⟨rfl, rfl, rfl, by decide +kernel, rfl, by decide +kernel, by decide +kernel⟩
abbrev s_refuse_no_one : Stmt := topS 12
abbrev N_refuse_no_one : List Str := ["row"]
theorem sc_refuse_no_one : FnScope N_refuse_no_one ["row"] (defScope s_refuse_no_one) := ⟨rfl, rfl, rfl, by decide +kernel, rfl, by decide +kernel, by decide +kernel⟩
abbrev s_kept_round : Stmt := topS 13
abbrev N_kept_round : List Str := ["upper", "lower"]
theorem sc_kept_round : FnScope N_kept_round ["upper", "lower"] (defScope s_kept_round) := ⟨rfl, rfl, rfl, by decide +kernel, rfl, by decide +kernel, by decide +kernel⟩
abbrev s_held_for : Stmt := topS 14
abbrev N_held_for : List Str := ["lower", "taken", "held", "at", "end"]
theorem sc_held_for : FnScope N_held_for ["lower"] (defScope s_held_for) := ⟨rfl, rfl, rfl, by decide +kernel, rfl, by decide +kernel, by decide +kernel⟩
abbrev s__law_box : Stmt := topS 16
abbrev N__law_box : List Str := ["_law_script", "_law_k", "_law_cell"]
theorem sc__law_box : FnScope N__law_box ["_law_script", "_law_k"] (defScope s__law_box) := ⟨rfl, rfl, rfl, by decide +kernel, rfl, by decide +kernel, by decide +kernel⟩
abbrev s__law_take : Stmt := topS 17
abbrev N__law_take : List Str := ["_law_box_here", "_law_many", "_law_found", "_law_once"]
theorem sc__law_take : FnScope N__law_take ["_law_box_here", "_law_many"] (defScope s__law_take) := ⟨rfl, rfl, rfl, by decide +kernel, rfl, by decide +kernel, by decide +kernel⟩
abbrev s__law_folded : Stmt := topS 18
abbrev N__law_folded : List Str := ["_law_script", "_law_many", "_law_cells", "_law_k", "_law_cell"]
theorem sc__law_folded : FnScope N__law_folded ["_law_script", "_law_many"] (defScope s__law_folded) := ⟨rfl, rfl, rfl, by decide +kernel, rfl, by decide +kernel, by decide +kernel⟩
abbrev s__law_row : Stmt := topS 19
abbrev N__law_row : List Str := ["_law_box_here", "_law_many", "_law_way", "_law_count", "_law_step", "_law_first", "_law_k"]
theorem sc__law_row : FnScope N__law_row ["_law_box_here", "_law_many"] (defScope s__law_row) := ⟨rfl, rfl, rfl, by decide +kernel, rfl, by decide +kernel, by decide +kernel⟩
abbrev s__law_two : Stmt := topS 20
abbrev N__law_two : List Str := ["_law_box_here", "_law_most", "_law_many"]
theorem sc__law_two : FnScope N__law_two ["_law_box_here", "_law_most"] (defScope s__law_two) := ⟨rfl, rfl, rfl, by decide +kernel, rfl, by decide +kernel, by decide +kernel⟩
abbrev s__law_refusal : Stmt := topS 21
abbrev N__law_refusal : List Str := ["_law_caught"]
theorem sc__law_refusal : FnScope N__law_refusal ["_law_caught"] (defScope s__law_refusal) := ⟨rfl, rfl, rfl, by decide +kernel, rfl, by decide +kernel, by decide +kernel⟩
abbrev s__law_told : Stmt := topS 22
abbrev N__law_told : List Str := ["_law_lower", "_law_caught", "_law_found", "e"]
theorem sc__law_told : FnScope N__law_told ["_law_lower"] (defScope s__law_told) := ⟨rfl, rfl, rfl, by decide +kernel, rfl, by decide +kernel, by decide +kernel⟩
abbrev s__law_due : Stmt := topS 23
abbrev N__law_due : List Str := ["_law_lower", "_law_found", "_law_long", "_law_place", "_law_bit", "_law_later", "_law_by"]
theorem sc__law_due : FnScope N__law_due ["_law_lower"] (defScope s__law_due) := ⟨rfl, rfl, rfl, by decide +kernel, rfl, by decide +kernel, by decide +kernel⟩
abbrev s__law_long_right : Stmt := topS 24
abbrev N__law_long_right : List Str := ["_law_box_here", "_law_long", "_law_a", "_law_b", "_law_one", "_law_two_here", "_law_due_here", "_law_lower", "_law_number"]
theorem sc__law_long_right : FnScope N__law_long_right ["_law_box_here"] (defScope s__law_long_right) := ⟨rfl, rfl, rfl, by decide +kernel, rfl, by decide +kernel, by decide +kernel⟩
abbrev s_law : Stmt := topS 25
abbrev N_law : List Str := ["_law_script", "_law_cells", "_law_k", "_law_box_here", "_law_turn", "_law_upper", "_law_lower", "_law_due_here", "_law_turn_more", "_law_found", "_law_there", "_law_one", "_law_bit"]
theorem sc_law : FnScope N_law ["_law_script"] (defScope s_law) := ⟨rfl, rfl, rfl, by decide +kernel, rfl, by decide +kernel, by decide +kernel⟩
theorem okX {P : Program} {w : World} {K : PySem.W.Frag} {mg : Str → Option Value} {base : Heap} {x : Str} {st : Stmt} {f : Addr} {fd : FuncData} {N ps : List Str} {k : Nat} {sp : Sp} (F : FnP K x st f fd) (S : FnScope N ps (defScope st)) (len : ∀ vs H Q E, sp vs H Q E → vs.length = ps.length)
    (hb : ∀ (cdv : Value) (A : Around) (outer : List Env) (s : Shared) (H : Hp) (vs : List V) (Q : VK) (E : XK), Room k (A.deeper (envOfC x (defScope st) s.heap.objs.size f cdv)) → sp vs H Q E →
      ∃ t, PSs (cxOf (L2.CX P w) P w K mg base N x (defScope st) f cdv A outer s H E) (defBody st) t ∧ t { nx := fun _ H' => Q .non H', rt := Q } (L2.start N vs) H) : FnOk P w K mg base (L2.CX P w) (k + 1) f fd ps sp := by
  obtain ⟨oc, od, dV, kV, doc, pm, an, cdv, ct, osl, rfl, lk, hcd, _, _⟩ := F.ex
  exact fn_of lk hcd S len fun A outer s H vs Q E hr h => hb cdv A outer s H vs Q E hr h
structure Defs (K : PySem.W.Frag) (mg : Str → Option Value) where
  f_refuse_unlike : Addr
  fd_refuse_unlike : FuncData
  F_refuse_unlike : FnP K "refuse_unlike" s_refuse_unlike f_refuse_unlike fd_refuse_unlike
  g_refuse_unlike : mg "refuse_unlike" = some (.ref f_refuse_unlike)
  b_refuse_unlike : Binds K fd_refuse_unlike ["rows"] []
  f_kept : Addr
  fd_kept : FuncData
  F_kept : FnP K "kept" s_kept f_kept fd_kept
  g_kept : mg "kept" = some (.ref f_kept)
  b_kept : Binds K fd_kept ["upper", "lower", "first"] []
  f_refuse_no_one : Addr
  fd_refuse_no_one : FuncData
  F_refuse_no_one : FnP K "refuse_no_one" s_refuse_no_one f_refuse_no_one fd_refuse_no_one
  g_refuse_no_one : mg "refuse_no_one" = some (.ref f_refuse_no_one)
  b_refuse_no_one : Binds K fd_refuse_no_one ["row"] []
  f_kept_round : Addr
  fd_kept_round : FuncData
  F_kept_round : FnP K "kept_round" s_kept_round f_kept_round fd_kept_round
  g_kept_round : mg "kept_round" = some (.ref f_kept_round)
  b_kept_round : Binds K fd_kept_round ["upper", "lower"] []
  f_held_for : Addr
  fd_held_for : FuncData
  F_held_for : FnP K "held_for" s_held_for f_held_for fd_held_for
  g_held_for : mg "held_for" = some (.ref f_held_for)
  b_held_for : Binds K fd_held_for ["lower"] []
  f__law_box : Addr
  fd__law_box : FuncData
  F__law_box : FnP K "_law_box" s__law_box f__law_box fd__law_box
  g__law_box : mg "_law_box" = some (.ref f__law_box)
  b__law_box : Binds K fd__law_box ["_law_script", "_law_k"] []
  f__law_take : Addr
  fd__law_take : FuncData
  F__law_take : FnP K "_law_take" s__law_take f__law_take fd__law_take
  g__law_take : mg "_law_take" = some (.ref f__law_take)
  b__law_take : Binds K fd__law_take ["_law_box_here", "_law_many"] []
  f__law_folded : Addr
  fd__law_folded : FuncData
  F__law_folded : FnP K "_law_folded" s__law_folded f__law_folded fd__law_folded
  g__law_folded : mg "_law_folded" = some (.ref f__law_folded)
  b__law_folded : Binds K fd__law_folded ["_law_script", "_law_many"] []
  f__law_row : Addr
  fd__law_row : FuncData
  F__law_row : FnP K "_law_row" s__law_row f__law_row fd__law_row
  g__law_row : mg "_law_row" = some (.ref f__law_row)
  b__law_row : Binds K fd__law_row ["_law_box_here", "_law_many"] []
  f__law_two : Addr
  fd__law_two : FuncData
  F__law_two : FnP K "_law_two" s__law_two f__law_two fd__law_two
  g__law_two : mg "_law_two" = some (.ref f__law_two)
  b__law_two : Binds K fd__law_two ["_law_box_here", "_law_most"] []
  f__law_refusal : Addr
  fd__law_refusal : FuncData
  F__law_refusal : FnP K "_law_refusal" s__law_refusal f__law_refusal fd__law_refusal
  g__law_refusal : mg "_law_refusal" = some (.ref f__law_refusal)
  b__law_refusal : Binds K fd__law_refusal ["_law_caught"] []
  f__law_told : Addr
  fd__law_told : FuncData
  F__law_told : FnP K "_law_told" s__law_told f__law_told fd__law_told
  g__law_told : mg "_law_told" = some (.ref f__law_told)
  b__law_told : Binds K fd__law_told ["_law_lower"] []
  f__law_due : Addr
  fd__law_due : FuncData
  F__law_due : FnP K "_law_due" s__law_due f__law_due fd__law_due
  g__law_due : mg "_law_due" = some (.ref f__law_due)
  b__law_due : Binds K fd__law_due ["_law_lower"] []
  f__law_long_right : Addr
  fd__law_long_right : FuncData
  F__law_long_right : FnP K "_law_long_right" s__law_long_right f__law_long_right fd__law_long_right
  g__law_long_right : mg "_law_long_right" = some (.ref f__law_long_right)
  b__law_long_right : Binds K fd__law_long_right ["_law_box_here"] []
  f_law : Addr
  fd_law : FuncData
  F_law : FnP K "law" s_law f_law fd_law
  g_law : mg "law" = some (.ref f_law)
  b_law : Binds K fd_law ["_law_script"] []
  C_OnesError : Addr
  g_OnesError : mg "OnesError" = some (.ref C_OnesError)
  C_Unlike : Addr
  g_Unlike : mg "Unlike" = some (.ref C_Unlike)
  C_NoSuch : Addr
  g_NoSuch : mg "NoSuch" = some (.ref C_NoSuch)
  C_NoOne : Addr
  g_NoOne : mg "NoOne" = some (.ref C_NoOne)
  C_NoRound : Addr
  g_NoRound : mg "NoRound" = some (.ref C_NoRound)
  C_BadText : Addr
  g_BadText : mg "BadText" = some (.ref C_BadText)
  C_BadSheet : Addr
  g_BadSheet : mg "BadSheet" = some (.ref C_BadSheet)
  xi_Unlike : PySem.W.excIn K C_Unlike He.veBase "ValueError.__new__" = true
  xk_Unlike : PySem.W.keepIn K (.ref C_Unlike) = true
  xs_Unlike : PySem.W.subIn K (.ref C_Unlike) (.type "BaseException") = some true
  xt_Unlike : PySem.W.typeIn K (.ref C_Unlike) = some (.type "type")
  xc_Unlike : ExcC K C_Unlike
  xm_Unlike : PySem.W.exmOne K (.ref C_Unlike) (.ref C_OnesError) = some true
  xo_Unlike_OnesError : PySem.W.kitOne K (.ref C_Unlike) (.ref C_OnesError) = some true
  xo_Unlike_Unlike : PySem.W.kitOne K (.ref C_Unlike) (.ref C_Unlike) = some true
  xo_Unlike_NoSuch : PySem.W.kitOne K (.ref C_Unlike) (.ref C_NoSuch) = some false
  xo_Unlike_NoOne : PySem.W.kitOne K (.ref C_Unlike) (.ref C_NoOne) = some false
  xo_Unlike_NoRound : PySem.W.kitOne K (.ref C_Unlike) (.ref C_NoRound) = some false
  xo_Unlike_BadText : PySem.W.kitOne K (.ref C_Unlike) (.ref C_BadText) = some false
  xo_Unlike_BadSheet : PySem.W.kitOne K (.ref C_Unlike) (.ref C_BadSheet) = some false
  xv_Unlike : PySem.W.kitOne K (.ref C_Unlike) (.type "ValueError") = some true
  xi_NoOne : PySem.W.excIn K C_NoOne He.veBase "ValueError.__new__" = true
  xk_NoOne : PySem.W.keepIn K (.ref C_NoOne) = true
  xs_NoOne : PySem.W.subIn K (.ref C_NoOne) (.type "BaseException") = some true
  xt_NoOne : PySem.W.typeIn K (.ref C_NoOne) = some (.type "type")
  xc_NoOne : ExcC K C_NoOne
  xm_NoOne : PySem.W.exmOne K (.ref C_NoOne) (.ref C_OnesError) = some true
  xo_NoOne_OnesError : PySem.W.kitOne K (.ref C_NoOne) (.ref C_OnesError) = some true
  xo_NoOne_Unlike : PySem.W.kitOne K (.ref C_NoOne) (.ref C_Unlike) = some false
  xo_NoOne_NoSuch : PySem.W.kitOne K (.ref C_NoOne) (.ref C_NoSuch) = some false
  xo_NoOne_NoOne : PySem.W.kitOne K (.ref C_NoOne) (.ref C_NoOne) = some true
  xo_NoOne_NoRound : PySem.W.kitOne K (.ref C_NoOne) (.ref C_NoRound) = some false
  xo_NoOne_BadText : PySem.W.kitOne K (.ref C_NoOne) (.ref C_BadText) = some false
  xo_NoOne_BadSheet : PySem.W.kitOne K (.ref C_NoOne) (.ref C_BadSheet) = some false
  xv_NoOne : PySem.W.kitOne K (.ref C_NoOne) (.type "ValueError") = some true
  m_ValueError : mg "ValueError" = none
  m_abs : mg "abs" = none
  m_any : mg "any" = none
  m_bool : mg "bool" = none
  m_divmod : mg "divmod" = none
  m_enumerate : mg "enumerate" = none
  m_int : mg "int" = none
  m_isinstance : mg "isinstance" = none
  m_len : mg "len" = none
  m_list : mg "list" = none
  m_max : mg "max" = none
  m_range : mg "range" = none
  m_str : mg "str" = none
  m_sum : mg "sum" = none
  m_tuple : mg "tuple" = none
  m_zip : mg "zip" = none
theorem bt_ValueError : bootBuiltins "ValueError" = some (.type "ValueError") := by decide +kernel
theorem bt_abs : bootBuiltins "abs" = some (.builtin "abs") := by decide +kernel
theorem bt_any : bootBuiltins "any" = some (.builtin "any") := by decide +kernel
theorem bt_bool : bootBuiltins "bool" = some (.type "bool") := by decide +kernel
theorem bt_divmod : bootBuiltins "divmod" = some (.builtin "divmod") := by decide +kernel
theorem bt_enumerate : bootBuiltins "enumerate" = some (.type "enumerate") := by decide +kernel
theorem bt_int : bootBuiltins "int" = some (.type "int") := by decide +kernel
theorem bt_isinstance : bootBuiltins "isinstance" = some (.builtin "isinstance") := by decide +kernel
theorem bt_len : bootBuiltins "len" = some (.builtin "len") := by decide +kernel
theorem bt_list : bootBuiltins "list" = some (.type "list") := by decide +kernel
theorem bt_max : bootBuiltins "max" = some (.builtin "max") := by decide +kernel
theorem bt_range : bootBuiltins "range" = some (.type "range") := by decide +kernel
theorem bt_str : bootBuiltins "str" = some (.type "str") := by decide +kernel
theorem bt_sum : bootBuiltins "sum" = some (.builtin "sum") := by decide +kernel
theorem bt_tuple : bootBuiltins "tuple" = some (.type "tuple") := by decide +kernel
theorem bt_zip : bootBuiltins "zip" = some (.type "zip") := by decide +kernel
def frT (t b : Int) : Int := (b.sign * t) / (Int.gcd t b : Int)
def frB (t b : Int) : Int := (b.natAbs : Int) / (Int.gcd t b : Int)
theorem fr_ex (t : Int) {b : Int} (hb : b ≠ 0) : ∃ (g : Nat) (x y : Int), 0 < g ∧ Int.gcd t b = g ∧ t = (g : Int) * x ∧ b = (g : Int) * y ∧ y ≠ 0 ∧ Int.gcd x y = 1 := by
  have hg : 0 < Int.gcd t b := Int.gcd_pos_of_ne_zero_right t hb
  obtain ⟨x, hx⟩ := Int.gcd_dvd_left t b
  obtain ⟨y, hy⟩ := Int.gcd_dvd_right t b
  refine ⟨Int.gcd t b, x, y, hg, rfl, hx, hy, fun e => hb (by rw [hy, e, Int.mul_zero]), ?_⟩
  generalize eg : Int.gcd t b = g at hg hx hy
  have e : g = g * Int.gcd x y := by
    rw [← eg]
    conv => lhs; rw [hx, hy, Int.gcd_mul_left]
    rw [Int.natAbs_natCast, eg]
  exact Nat.eq_of_mul_eq_mul_left hg (by rw [← e, Nat.mul_one])
theorem sgn {b : Int} {g : Nat} {y : Int} (hg : 0 < g) (hb : b = (g : Int) * y) : b.sign = y.sign := by
  rw [hb, Int.sign_mul, Int.sign_eq_one_of_pos (by omega), Int.one_mul]
theorem fr_vals {t b : Int} {g : Nat} {x y : Int} (hg : 0 < g) (eg : Int.gcd t b = g) (ht : t = (g : Int) * x) (hb : b = (g : Int) * y) : frT t b = y.sign * x ∧ frB t b = (y.natAbs : Int) := by
  have g0 : (g : Int) ≠ 0 := by omega
  constructor
  · unfold frT
    rw [eg, sgn hg hb, ht, show y.sign * ((g : Int) * x) = (g : Int) * (y.sign * x) by rw [Int.mul_left_comm]]
    exact Int.mul_ediv_cancel_left _ g0
  · unfold frB
    rw [eg, hb, Int.natAbs_mul, Int.natAbs_natCast, Int.natCast_mul]
    exact Int.mul_ediv_cancel_left _ g0
theorem sgn_abs {y : Int} (hy : y ≠ 0) : y.sign.natAbs = 1 := Int.natAbs_sign_of_ne_zero hy
theorem fr_pos (t : Int) {b : Int} (hb : b ≠ 0) : 0 < frB t b := by
  obtain ⟨g, x, y, hg, eg, ht, hy, hy0, h1⟩ := fr_ex t hb
  rw [(fr_vals hg eg ht hy).2]
  omega
theorem fr_gcd (t : Int) {b : Int} (hb : b ≠ 0) : Int.gcd (frT t b) (frB t b) = 1 := by
  obtain ⟨g, x, y, hg, eg, ht, hy, hy0, h1⟩ := fr_ex t hb
  rw [(fr_vals hg eg ht hy).1, (fr_vals hg eg ht hy).2]
  show Nat.gcd (y.sign * x).natAbs ((y.natAbs : Int)).natAbs = 1
  rw [Int.natAbs_mul, sgn_abs hy0, Nat.one_mul, Int.natAbs_natCast]
  exact h1
theorem fr_eq (t : Int) {b : Int} (hb : b ≠ 0) : frT t b * b = t * frB t b := by
  obtain ⟨g, x, y, hg, eg, ht, hy, hy0, h1⟩ := fr_ex t hb
  rw [(fr_vals hg eg ht hy).1, (fr_vals hg eg ht hy).2]
  rw [ht, hy]
  have e : y * y.sign = (y.natAbs : Int) := Int.mul_sign_self y
  rw [← e]
  simp only [Int.mul_comm, Int.mul_left_comm, Int.mul_assoc]
theorem fr_absT (t : Int) {b : Int} (hb : b ≠ 0) : (frT t b).natAbs ≤ t.natAbs := by
  obtain ⟨g, x, y, hg, eg, ht, hy, hy0, h1⟩ := fr_ex t hb
  rw [(fr_vals hg eg ht hy).1, ht, Int.natAbs_mul, sgn_abs hy0, Nat.one_mul, Int.natAbs_mul, Int.natAbs_natCast]
  exact Nat.le_mul_of_pos_left _ hg
theorem fr_absB (t : Int) {b : Int} (hb : b ≠ 0) : (frB t b).natAbs ≤ b.natAbs := by
  obtain ⟨g, x, y, hg, eg, ht, hy, hy0, h1⟩ := fr_ex t hb
  rw [(fr_vals hg eg ht hy).2, hy, Int.natAbs_mul, Int.natAbs_natCast, Int.natAbs_natCast]
  exact Nat.le_mul_of_pos_left _ hg
theorem fr_negT (t b : Int) : frT (-t) (-b) = frT t b := by
  unfold frT
  rw [Int.sign_neg, Int.neg_mul_neg, Int.gcd_neg, Int.neg_gcd]
theorem fr_negB (t b : Int) : frB (-t) (-b) = frB t b := by
  unfold frB
  rw [Int.natAbs_neg, Int.gcd_neg, Int.neg_gcd]
/-- what the program's two ways reckon -/
theorem fd_pos {g : Nat} {x : Int} (hg : 0 < g) : ((g : Int) * x).fdiv (g : Int) = x := by
  rw [Int.fdiv_eq_ediv_of_nonneg _ (by omega)]
  exact Int.mul_ediv_cancel_left _ (by omega)
theorem fd_neg {g : Nat} {x : Int} (hg : 0 < g) : ((g : Int) * x).fdiv (-(g : Int)) = -x := by
  rw [show (g : Int) * x = -(g : Int) * (-x) by rw [Int.neg_mul_neg]]
  exact Int.mul_fdiv_cancel_left _ (by omega)
theorem fr_lt (t : Int) {b : Int} (hb : b < 0) : t.fdiv (-(Int.gcd t b : Int)) = frT t b ∧ b.fdiv (-(Int.gcd t b : Int)) = frB t b := by
  obtain ⟨g, x, y, hg, eg, ht, hy, hy0, h1⟩ := fr_ex t (show b ≠ 0 by omega)
  rw [(fr_vals hg eg ht hy).1, (fr_vals hg eg ht hy).2, eg]
  have yn : y < 0 := by
    rw [hy] at hb
    exact Int.neg_of_mul_neg_right hb (by omega)
  constructor
  · conv => lhs; rw [ht]
    rw [fd_neg hg, Int.sign_eq_neg_one_of_neg yn]
    omega
  · conv => lhs; rw [hy]
    rw [fd_neg hg]
    omega
theorem fr_ge (t : Int) {b : Int} (hb : 0 < b) : t.fdiv (Int.gcd t b : Int) = frT t b ∧ b.fdiv (Int.gcd t b : Int) = frB t b := by
  obtain ⟨g, x, y, hg, eg, ht, hy, hy0, h1⟩ := fr_ex t (show b ≠ 0 by omega)
  rw [(fr_vals hg eg ht hy).1, (fr_vals hg eg ht hy).2, eg]
  have yn : 0 < y := by
    rw [hy] at hb
    exact Int.pos_of_mul_pos_right hb (by omega)
  constructor
  · conv => lhs; rw [ht]
    rw [fd_pos hg, Int.sign_eq_one_of_pos yn]
    omega
  · conv => lhs; rw [hy]
    rw [fd_pos hg]
    omega
/-! sizes -/
def S (n : Nat) (x : Int) : Prop := x.natAbs < 2 ^ n
theorem S.mono {n m : Nat} {x : Int} (h : S n x) (l : n ≤ m) : S m x := Nat.lt_of_lt_of_le h (Nat.pow_le_pow_right (by decide) l)
theorem S.mul {n m : Nat} {x y : Int} (h : S n x) (k : S m y) : S (n + m) (x * y) := by
  unfold S at *
  rw [Int.natAbs_mul, Nat.pow_add]
  exact Nat.mul_lt_mul'' h k
theorem S.add {n : Nat} {x y : Int} (h : S n x) (k : S n y) : S (n + 1) (x + y) := by
  unfold S at *
  rw [Nat.pow_succ]
  omega
theorem S.sub {n : Nat} {x y : Int} (h : S n x) (k : S n y) : S (n + 1) (x - y) := by
  unfold S at *
  rw [Nat.pow_succ]
  omega
theorem S.frT {n : Nat} {t b : Int} (h : S n t) (hb : b ≠ 0) : S n (frT t b) := Nat.lt_of_le_of_lt (fr_absT t hb) h
theorem S.frB {n : Nat} {t b : Int} (h : S n b) (hb : b ≠ 0) : S n (frB t b) := Nat.lt_of_le_of_lt (fr_absB t hb) h
theorem abs_eq (i : Int) : (if i < 0 then -i else i) = (i.natAbs : Int) := by
  split <;> omega
/-! the same rules with the written part by its name: for the inside of comprehensions -/
theorem pg_tupK {X : Cx} {K : PySem.W.Frag} {es : List Expr} {k n : Nat} {pos : Pos} {t : TGs} (h : X.K = K) (hc : X.calm = true) (hg : PGs X es t) (hn : (assignEach es X.env).length = n := by rfl) (hst : (assignEach es X.env).findIdx? (·.1) = none := by rfl) : PG X (.Tuple es k pos) (gTup K n t) := by
  subst h
  exact pg_tup hc hg hn hst
theorem isiK {X : Cx} {K : PySem.W.Frag} (h : X.K = K) : CallR X (.builtin "isinstance") (rIsi K) := by
  subst h
  exact call_isi
theorem ixlK {X : Cx} {K : PySem.W.Frag} (h : X.K = K) : IxR X (rIxL K) := by
  subst h
  exact ix_list
theorem ixtK {X : Cx} {K : PySem.W.Frag} (h : X.K = K) : IxR X (rIxT K) := by
  subst h
  exact ix_tup
theorem lenK {X : Cx} {K : PySem.W.Frag} (h : X.K = K) : CallR X (.builtin "len") (fun xs H Q => ∃ p ys, xs = [.ref p] ∧ (SqL K H p ys ∨ SqT K H p ys) ∧ Q (.int ys.length) H) := by
  subst h
  exact call_len_seq
theorem sumK {X : Cx} {K : PySem.W.Frag} (h : X.K = K) (hc : X.calm = true) : CallR X (.builtin "sum") (rSum K) := by
  subst h
  exact cr_sum hc
theorem yes_ite {σ : L2.St} {H : Hp} {A B : Hp → Prop} (h : A H) : tYes σ H (fun b H3 => if b = true then A H3 else B H3) := by
  show if true = true then A H else B H
  rw [if_pos rfl]
  exact h
/-! heaps -/
theorem same_upd {H : Hp} {p : Addr} {o : HO} (h : H p = none) : Same H (upd H p o) := fun b x e => by
  rw [upd_ne (ne_of_none e h)]
  exact e
def But (p : Addr) (H H' : Hp) : Prop := ∀ b o, b ≠ p → H b = some o → H' b = some o
theorem But.trans {p : Addr} {H H1 H2 : Hp} (a : But p H H1) (b : But p H1 H2) : But p H H2 := fun c o n e => b c o n (a c o n e)
theorem But.refl (p : Addr) (H : Hp) : But p H H := fun _ _ _ e => e
theorem But.put {p : Addr} {H H' : Hp} {o : HO} (a : But p H H') : But p H (L2.upd H' p o) := fun c x n e => by
  rw [upd_ne n]
  exact a c x n e
theorem same_but {p : Addr} {H H' : Hp} (a : Same H H') : But p H H' := fun c x _ e => a c x e
theorem But.new {p q : Addr} {H H' : Hp} {o : HO} (a : But p H H') (n : H' q = none) : But p H (upd H' q o) := fun c x hn e => by
  have e2 := a c x hn e
  rw [upd_ne (ne_of_none e2 n)]
  exact e2
/-- objects made since H may change: what H has stays -/
theorem same_newer {H H' : Hp} {q : Addr} {o : HO} (a : Same H H') (n : H q = none) : Same H (upd H' q o) := fun c x e => by
  rw [upd_ne (ne_of_none e n)]
  exact a c x e
theorem But.same {p : Addr} {H H1 H2 : Hp} (n : H p = none) (a : Same H H1) (b : But p H1 H2) : Same H H2 := fun c x e =>
  b c x (ne_of_none e n) (a c x e)
/-- the box: a rest, a begin, how often -/
def Bx (H : Hp) (p : Addr) (n : Nat) : Prop := ∃ a b c : Int, H p = some (.lst [.int a, .int b, .int c]) ∧ 0 ≤ a ∧ 0 ≤ b ∧ b < 2147483647 ∧ 0 ≤ c ∧ c ≤ n
theorem Bx.same {H H' : Hp} {p : Addr} {n : Nat} (h : Bx H p n) (s : Same H H') : Bx H' p n := by
  obtain ⟨a, b, c, hp, r⟩ := h
  exact ⟨a, b, c, s _ _ hp, r⟩
theorem Bx.mono {H : Hp} {p : Addr} {n m : Nat} (h : Bx H p n) (l : n ≤ m) : Bx H p m := by
  obtain ⟨a, b, c, hp, h1, h2, h3, h4, h5⟩ := h
  exact ⟨a, b, c, hp, h1, h2, h3, h4, by omega⟩
theorem Bx.new {H : Hp} {p q : Addr} {n : Nat} {o : HO} (h : Bx H p n) (nq : H q = none) : Bx (L2.upd H q o) p n := h.same (same_upd nq)
theorem Bx.ne_tup {H : Hp} {p q : Addr} {n : Nat} {xs : List V} (h : Bx H p n) (e : H q = some (.tup xs)) : q ≠ p := by
  obtain ⟨a, b, c, hp, _⟩ := h
  exact ne_of e hp (fun z => by cases z)
/-- an item of a menu of numbers -/
theorem at_menu {Pr : Int → Prop} {xs : List Int} {r : Int} (h0 : 0 ≤ r) (h1 : r < xs.length) (hx : ∀ x, x ∈ xs → Pr x) : ∃ v, atI (xs.map V.int) r = some (V.int v) ∧ Pr v := by
  obtain ⟨j, rfl⟩ := Int.eq_ofNat_of_zero_le h0
  have hj : j < xs.length := by omega
  refine ⟨xs[j], atI_nat (by rw [List.getElem?_map, List.getElem?_eq_getElem hj]; rfl), hx _ (List.getElem_mem hj)⟩
theorem SqL.mk {K : PySem.W.Frag} {H : Hp} {a : Addr} {xs : List V} (h : H a = some (.lst xs)) : SqL K H a xs := .inl (.inl h)
theorem SqT.mk {K : PySem.W.Frag} {H : Hp} {a : Addr} {xs : List V} (h : H a = some (.tup xs)) : SqT K H a xs := .inl (.inl h)
theorem same_tup {K : PySem.W.Frag} {H H' : Hp} {a : Addr} {xs : List V} (e : Same H H') (h : SqT K H a xs) : SqT K H' a xs := by
  rcases h with (h | ⟨o, h⟩) | h
  · exact .inl (.inl (e _ _ h))
  · exact .inl (.inr ⟨o, e _ _ h⟩)
  · exact .inr h
theorem ixn {n j : Nat} (hj : j < n) : ixN n (j : Int) = some j := by
  unfold ixN
  rw [if_pos (by omega), if_pos (by omega)]
  simp
theorem cdivP {a m : Int} (h0 : 0 < m) (h1 : m < 2 ^ 60) : CDivP a m := ⟨h0, PyProof.noPylong_of_log2 (wide_div (i := a) (b := 60) h0 (by omega) (by decide) (by decide)).2⟩
theorem i01 {c : Prop} [Decidable c] : -(2 ^ 64) < (if c then (1 : Int) else 0) ∧ (if c then (1 : Int) else 0) < 2 ^ 64 := by
  split <;> decide
theorem i01n {c : Prop} [Decidable c] : 0 ≤ (if c then (1 : Int) else 0) := by
  split <;> decide
theorem absn (i : Int) : 0 ≤ (if i < 0 then -i else i) := by
  split <;> omega
/-! the box of a cell -/
def sp__law_box (K : PySem.W.Frag) : Sp := fun vs H Q _ => ∃ (a : Addr) (ns : List Int) (k : Nat), vs = [.ref a, .int (k : Nat)] ∧ SqL K H a (ns.map V.int) ∧ k < 1000 ∧
  ∀ H' p, Same H H' → H p = none → Bx H' p 0 → Q (.ref p) H'
theorem ok__law_box (T : Defs K mg) : FnOk P w K mg base CX0 1 T.f__law_box T.fd__law_box ["_law_script", "_law_k"] (sp__law_box K) := by
  refine T.F__law_box.ok sc__law_box (fun vs H Q E h => ?_) (fun cdv A outer s H vs Q E hr h => ?_)
  · obtain ⟨a, ns, k, rfl, hS, hk, q⟩ := h
    rfl
  · obtain ⟨a, ns, k, rfl, hS, hk, q⟩ := h
    refine ⟨_, PSs.nox (pss_cons (ps_set (i := 2) sc__law_box.nd rfl (.inl rfl) pe_int)
    (pss_cons (ps_if (pt_cmpR op_lt (pv 1) (pe_callB call_len_seq (by rfl) T.m_len bt_len (pa_cons (pv 0) pa_nil)) (nomark _)) (pss_one (ps_set (i := 2) sc__law_box.nd rfl (.inl rfl) (pe_ix ix_list (pv 0) (pv 1) (fun _ _ => rfl)))) pss_nil)
    (pss_one (ps_ret (pe_lst (pa_cons (pe_op op_mul (pe_callB call_abs (by rfl) T.m_abs bt_abs (pa_cons (pv 2) pa_nil)) (pe_callTy call_int1 (by rfl) T.m_int bt_int (pa_cons (pe_cmpR op_ge (pe_callB call_abs (by rfl) T.m_abs bt_abs (pa_cons (pv 2) pa_nil)) (pe_op op_pow pe_int pe_int) (nomark _)) pa_nil))) (pa_cons (pe_op op_mod (pe_op op_add (pv 2) (pe_op op_mul (pe_op op_mul pe_int (pv 1)) (pv 1))) pe_int) (pa_cons pe_int pa_nil)))))))), ?_⟩
    refine ⟨.int k, rfl, .ref a, rfl, a, _, rfl, .inl hS, _, _, rfl, rfl, _, rfl, ite2 (fun e => ?_) (fun e => ?_)⟩
    · have hl : (k : Int) < ((ns.map V.int).length : Nat) := of_decide_eq_true e
      rw [List.length_map] at hl
      have hj : k < ns.length := by omega
      refine ⟨.ref a, rfl, .int k, rfl, a, _, _, .int ns[k], rfl, rfl, hS, atI_nat (by rw [List.getElem?_map, List.getElem?_eq_getElem hj]; rfl), ?_⟩
      refine ⟨_, rfl, _, rfl, _, rfl, _, rfl, _, _, rfl, rfl, ⟨by decide, by decide, by decide⟩, _, _, rfl, rfl, .inr ⟨_, rfl, _, _, rfl, rfl, .inr i01, _, rfl, .int k, rfl, _, _, rfl, rfl, .inl ⟨by decide, by decide⟩, .int k, rfl, _, _, rfl, rfl, .inr ⟨by omega, by omega⟩, _, _, rfl, rfl, _, _, rfl, rfl, (show (0 : Int) < 2147483647 by decide), (show 3 ≤ sizeLine by decide), fun p np => ?_⟩⟩
      refine q _ p (same_upd np) np ⟨_, _, _, upd_same, ?_, Int.emod_nonneg _ (by decide), Int.emod_lt_of_pos _ (by decide), Int.le_refl 0, Int.le_refl 0⟩
      exact Int.mul_nonneg (absn _) i01n
    · refine ⟨_, rfl, _, rfl, _, rfl, _, rfl, _, _, rfl, rfl, ⟨by decide, by decide, by decide⟩, _, _, rfl, rfl, .inr ⟨_, rfl, _, _, rfl, rfl, .inr i01, _, rfl, .int k, rfl, _, _, rfl, rfl, .inl ⟨by decide, by decide⟩, .int k, rfl, _, _, rfl, rfl, .inr ⟨by omega, by omega⟩, _, _, rfl, rfl, _, _, rfl, rfl, (show (0 : Int) < 2147483647 by decide), (show 3 ≤ sizeLine by decide), fun p np => ?_⟩⟩
      refine q _ p (same_upd np) np ⟨_, _, _, upd_same, ?_, Int.emod_nonneg _ (by decide), Int.emod_lt_of_pos _ (by decide), Int.le_refl 0, Int.le_refl 0⟩
      exact Int.mul_nonneg (absn _) i01n
/-! one number taken -/
def sp__law_take (K : PySem.W.Frag) : Sp := fun vs H Q _ => ∃ (p : Addr) (m : Int) (n : Nat), vs = [.ref p, .int m] ∧ Bx H p n ∧ 0 < m ∧ m < 2 ^ 60 ∧ n < 1000000000000 ∧
  ∀ H' r, But p H H' → Bx H' p (n + 1) → 0 ≤ r → r < m → Q (.int r) H'
theorem ok__law_take (T : Defs K mg) : FnOk P w K mg base CX0 1 T.f__law_take T.fd__law_take ["_law_box_here", "_law_many"] (sp__law_take K) := by
  refine T.F__law_take.ok sc__law_take (fun vs H Q E h => ?_) (fun cdv A outer s H vs Q E hr h => ?_)
  · obtain ⟨p, m, n, rfl, ⟨a, b, c, hp, ha, hb, hb2, hc, hc2⟩, h0, h1, hn, q⟩ := h
    rfl
  · obtain ⟨p, m, n, rfl, ⟨a, b, c, hp, ha, hb, hb2, hc, hc2⟩, h0, h1, hn, q⟩ := h
    refine ⟨_, PSs.nox (pss_cons (ps_if (pt_cmpR op_gt (pe_ix ix_list (pv 0) pe_int (fun _ _ => rfl)) pe_int (nomark _)) (pss_cons (ps_asg (pe_callB call_divmodW (by rfl) T.m_divmod bt_divmod (pa_cons (pe_ix ix_list (pv 0) pe_int (fun _ _ => rfl)) (pa_cons (pv 1) pa_nil))) (pg_tup rfl (pgs_cons (pg_sub (pv 0) pe_int set_list) (pgs_cons (pg_name (i := 2) sc__law_take.nd rfl (.inl rfl)) pgs_nil))))
    (pss_one (ps_ret (pv 2)))) pss_nil)
    (pss_cons (ps_asg (pe_op op_add (pe_ix ix_list (pv 0) pe_int (fun _ _ => rfl)) pe_int) (pg_sub (pv 0) pe_int set_list))
    (pss_cons (ps_set (i := 3) sc__law_take.nd rfl (.inl rfl) (pe_op op_mod (pe_op op_pow (pe_op op_add (pe_ix ix_list (pv 0) pe_int (fun _ _ => rfl)) (pe_op op_mul pe_int (pe_ix ix_list (pv 0) pe_int (fun _ _ => rfl)))) pe_int) pe_int))
    (pss_one (ps_ret (pe_op op_mod (pe_op op_fdiv (pe_op op_mod (pe_op op_add (pe_op op_mul (pv 3) pe_int) (pe_op op_mul (pe_op op_mul (pe_ix ix_list (pv 0) pe_int (fun _ _ => rfl)) (pe_ix ix_list (pv 0) pe_int (fun _ _ => rfl))) pe_int)) pe_int) pe_int) (pv 1))))))), ?_⟩
    have SQ : SqL K H p [.int a, .int b, .int c] := SqL.mk hp
    refine ⟨.ref p, rfl, p, _, 0, _, rfl, rfl, SQ, atI_nat (j := 0) rfl, _, _, rfl, rfl, _, rfl, ite2 (fun e => ?_) (fun e => ?_)⟩
    · refine ⟨.ref p, rfl, p, _, 0, _, rfl, rfl, SQ, atI_nat (j := 0) rfl, .int m, rfl, a, m, rfl, cdivP h0 h1, fun t nt => ?_⟩
      have hp1 : (upd H t (.tup [.int (a / m), .int (a % m)])) p = some (.lst [.int a, .int b, .int c]) := by
        rw [upd_ne (ne_of_none hp nt)]
        exact hp
      refine ⟨t, _, rfl, SqT.mk upd_same, rfl, _, _, rfl, .ref p, rfl, p, _, 0, 0, rfl, rfl, hp1, rfl, _, _, rfl, rfl, _, rfl, ?_⟩
      refine q _ _ ((But.refl p H).new nt).put ⟨_, _, _, upd_same, Int.ediv_nonneg ha (by omega), hb, hb2, hc, by omega⟩ (Int.emod_nonneg _ (by omega)) (Int.emod_lt_of_pos _ h0)
    · refine ⟨.ref p, rfl, p, _, 2, _, rfl, rfl, SQ, atI_nat (j := 2) rfl, _, _, rfl, rfl, .ref p, rfl, p, _, 2, 2, rfl, rfl, hp, rfl, ?_⟩
      have SQ1 : SqL K (upd H p (.lst [.int a, .int b, .int (c + 1)])) p [.int a, .int b, .int (c + 1)] := SqL.mk upd_same
      refine ⟨.ref p, rfl, p, _, 1, _, rfl, rfl, SQ1, atI_nat (j := 1) rfl, .ref p, rfl, p, _, 2, _, rfl, rfl, SQ1, atI_nat (j := 2) rfl, _, _, rfl, rfl, .inl ⟨by decide, by decide⟩, _, _, rfl, rfl, _, _, rfl, rfl, ⟨by decide, by decide, by omega⟩, _, _, rfl, rfl, (show (0 : Int) < 2147483647 by decide), ?_⟩
      refine ⟨_, rfl, _, _, rfl, rfl, .inr ⟨by decide, by decide⟩, .ref p, rfl, p, _, 2, _, rfl, rfl, SQ1, atI_nat (j := 2) rfl, .ref p, rfl, p, _, 2, _, rfl, rfl, SQ1, atI_nat (j := 2) rfl, _, _, rfl, rfl, .inl ⟨by omega, by omega⟩, _, _, rfl, rfl, .inr ⟨by decide, by decide⟩, _, _, rfl, rfl, _, _, rfl, rfl, (show (0 : Int) < 2147483629 by decide), _, _, rfl, rfl, ⟨by decide, by decide⟩, .int m, rfl, _, _, rfl, rfl, h0, ?_⟩
      refine q _ _ (But.refl p H).put ⟨_, _, _, upd_same, ha, hb, hb2, by omega, by omega⟩ (Int.emod_nonneg _ (by omega)) (Int.emod_lt_of_pos _ h0)
/-! the folded cells -/
theorem cut_take (ns : List Int) (m : Nat) : cutV (ns.map V.int) none (some (m : Int)) = (ns.take m).map V.int := by
  unfold cutV
  rw [HT.sIx_none, HT.sIx_nat, List.drop_zero, List.length_map, Nat.sub_zero, ← List.map_take]
  congr 1
  by_cases h : m ≤ ns.length
  · rw [Nat.min_eq_left h]
  · rw [Nat.min_eq_right (by omega), List.take_length, List.take_of_length_le (by omega)]
theorem cut_rest (ns : List Int) (m k : Nat) : ∃ ms : List Int, cutV (ns.map V.int) (some (m : Int)) (some (k : Int)) = ms.map V.int ∧ (0 < ms.length → m < ns.length) ∧ ms.length ≤ ns.length := by
  unfold cutV
  rw [HT.sIx_nat, HT.sIx_nat, List.length_map]
  refine ⟨(ns.drop (min m ns.length)).take (min k ns.length - min m ns.length), ?_, fun h => ?_, ?_⟩
  · rw [List.map_take, List.map_drop]
  · rw [List.length_take, List.length_drop] at h
    omega
  · rw [List.length_take, List.length_drop]
    omega
def sp__law_folded (K : PySem.W.Frag) : Sp := fun vs H Q _ => ∃ (a : Addr) (ns : List Int) (m : Nat), vs = [.ref a, .int (m : Nat)] ∧ SqL K H a (ns.map V.int) ∧ ns.length ≤ 63 ∧ 0 < m ∧ m < 64 ∧
  ∀ H' p (cs : List Int), Same H H' → H p = none → H' p = some (.lst (cs.map V.int)) → cs.length ≤ m → Q (.ref p) H'
theorem ok__law_folded (T : Defs K mg) : FnOk P w K mg base CX0 1 T.f__law_folded T.fd__law_folded ["_law_script", "_law_many"] (sp__law_folded K) := by
  refine T.F__law_folded.ok sc__law_folded (fun vs H Q E h => ?_) (fun cdv A outer s H vs Q E hr h => ?_)
  · obtain ⟨a, ns, m, rfl, hS, hlen, hm, hm2, q⟩ := h
    rfl
  · obtain ⟨a, ns, m, rfl, hS, hlen, hm, hm2, q⟩ := h
    refine ⟨_, PSs.nox (pss_cons (ps_set (i := 2) sc__law_folded.nd rfl (.inl rfl) (pe_callTy call_list_of (by rfl) T.m_list bt_list (pa_cons (pe_slice sl_list (pv 0) po_none (po_some (pv 1))) pa_nil)))
    (pss_cons (ps_for PassesOwn.never rfl (pi_enum (by rfl) T.m_enumerate (pa_cons (pe_slice sl_list (pv 0) (po_some (pv 1)) (po_some pe_int)) pa_nil)) (pg_tup rfl (pgs_cons (pg_name (i := 3) sc__law_folded.nd rfl (.inl rfl)) (pgs_cons (pg_name (i := 4) sc__law_folded.nd rfl (.inl rfl)) pgs_nil))) (pss_one (ps_asg (pe_op op_add (pe_ix ix_list (pv 2) (pe_op op_mod (pv 3) (pv 1)) (fun _ _ => rfl)) (pe_op op_mul (pv 4) (pe_op op_add (pv 3) pe_int))) (pg_sub (pv 2) (pe_op op_mod (pv 3) (pv 1)) set_list))))
    (pss_one (ps_ret (pv 2))))), ?_⟩
    refine ⟨.ref a, rfl, .int m, rfl, m, rfl, a, _, rfl, hS, fun c nc => ?_⟩
    rw [cut_take]
    have s1 : Same H (upd H c (.lst ((ns.take m).map V.int))) := same_upd nc
    refine ⟨c, _, rfl, .inl (SqL.mk upd_same), fun l nl => ?_⟩
    have s2 := s1.trans (same_upd nl (o := .lst ((ns.take m).map V.int)))
    refine ⟨.ref a, rfl, .int m, rfl, m, rfl, 63, rfl, a, _, rfl, s2.seq hS, fun d nd => ?_⟩
    obtain ⟨ms, em, hms, hms2⟩ := cut_rest ns m 63
    rw [show (63 : Int) = ((63 : Nat) : Int) from rfl, em]
    have nl0 : H l = none := s1.free nl
    have nd0 : H d = none := s2.free nd
    have ndl : l ≠ d := fun e => by
      rw [← e, upd_same] at nd
      cases nd
    refine ⟨d, _, rfl, SqL.mk upd_same, for_it (walk_enum (xs := ms.map V.int)) (fun i σ H3 => ∃ y3 y4, ∃ cs : List Int, σ = [some (.ref a), some (.int m), some (.ref l), y3, y4] ∧ Same H H3 ∧ H3 l = some (.lst (cs.map V.int)) ∧ cs.length = (ns.take m).length ∧ H3 d = some (.lst (ms.map V.int))) ⟨none, none, ns.take m, rfl, s2.trans (same_upd nd), ?_, rfl, upd_same⟩ ?_ ?_ ?_⟩
    · rw [upd_ne ndl, upd_same]
    · rintro i σ H3 hi ⟨y3, y4, cs, rfl, s3, hl, hc, hd⟩
      exact SqL.mk hd
    · rintro i x σ H3 H4 hi ⟨y3, y4, cs, rfl, s3, hl, hc, hd⟩ ⟨t, x1, x2, rfl, nt, rfl, e1, e2⟩
      rw [List.length_map] at hi
      have lm : m < ns.length := hms (by omega)
      have lc : cs.length = m := by
        rw [hc, List.length_take]
        omega
      have ex1 : x1 = .int (i : Nat) := (Option.some.inj e1).symm
      have ex2 : x2 = .int ms[i] := by
        have e2 : (ms.map V.int)[i]? = some x2 := e2
        rw [List.getElem?_map, List.getElem?_eq_getElem hi] at e2
        exact (Option.some.inj e2).symm
      subst ex1 ex2
      have hl1 : (upd H3 t (.tup [.int (i : Nat), .int ms[i]])) l = some (.lst (cs.map V.int)) := by
        rw [upd_ne (ne_of_none hl nt)]
        exact hl
      have him : i % m < cs.length := by
        rw [lc]
        exact Nat.mod_lt _ hm
      have eim : ((i : Int) % (m : Int)) = ((i % m : Nat) : Int) := by omega
      refine ⟨t, _, rfl, SqT.mk upd_same, rfl, _, _, rfl, _, _, rfl, rfl, ?_⟩
      refine ⟨.ref l, rfl, .int (i : Nat), rfl, .int m, rfl, _, _, rfl, rfl, (show (0 : Int) < (m : Int) by omega), l, _, _, .int cs[i % m], rfl, rfl, SqL.mk hl1, ?_, .int ms[i], rfl, .int (i : Nat), rfl, _, _, rfl, rfl, _, _, rfl, rfl, .inr ⟨by omega, by omega⟩, _, _, rfl, rfl, .ref l, rfl, .int (i : Nat), rfl, .int m, rfl, _, _, rfl, rfl, (show (0 : Int) < (m : Int) by omega), l, _, _, i % m, rfl, rfl, hl1, ?_, ?_⟩
      · rw [eim]
        exact atI_nat (by rw [List.getElem?_map, List.getElem?_eq_getElem him]; rfl)
      · rw [eim]
        exact ixn (by rw [List.length_map]; exact him)
      · refine ⟨_, _, cs.set (i % m) (cs[i % m] + ms[i] * ((i : Int) + 2)), rfl, same_newer (s3.trans (same_upd nt)) nl0, ?_, by rw [List.length_set, hc], ?_⟩
        · rw [upd_same, List.map_set]
        · rw [upd_ne ndl.symm, upd_ne (ne_of_none hd nt)]
          exact hd
    · rintro σ H3 ⟨y3, y4, cs, rfl, s3, hl, hc, hd⟩
      exact ⟨.ref l, rfl, q H3 l cs s3 nl0 hl (by rw [hc, List.length_take]; omega)⟩
/-! heaps with tables -/
theorem trip0 : TriplesOk (#[] : Array Value).toList := trivial
structure Sam (H H' : Hp) : Prop where
  obj : ∀ b o, (∀ ps, o ≠ .tbl ps) → H b = some o → H' b = some o
  tab : ∀ b ps, H b = some (.tbl ps) → ∃ ps', H' b = some (.tbl ps') ∧ (TriplesOk ps.toList → TriplesOk ps'.toList)
theorem Sam.of {H H' : Hp} (s : Same H H') : Sam H H' := ⟨fun b o _ e => s b o e, fun b ps e => ⟨ps, s b _ e, fun z => z⟩⟩
theorem Sam.refl (H : Hp) : Sam H H := .of (Same.refl H)
theorem Sam.trans {H H1 H2 : Hp} (a : Sam H H1) (b : Sam H1 H2) : Sam H H2 := ⟨fun c o n e => b.obj c o n (a.obj c o n e), fun c ps e => by
  obtain ⟨p1, e1, t1⟩ := a.tab c ps e
  obtain ⟨p2, e2, t2⟩ := b.tab c p1 e1
  exact ⟨p2, e2, fun z => t2 (t1 z)⟩⟩
theorem Sam.tabG {H H' : Hp} {P : Addr} (a : Sam H H') (t : GxR.TabG H P) : GxR.TabG H' P := by
  obtain ⟨ps, e, z⟩ := t
  obtain ⟨p1, e1, t1⟩ := a.tab P ps e
  exact ⟨p1, e1, t1 z⟩
theorem Sam.tup {H H' : Hp} {a : Addr} {xs : List V} (s : Sam H H') (h : H a = some (.tup xs)) : H' a = some (.tup xs) := s.obj _ _ (fun _ z => by cases z) h
theorem Sam.lst {H H' : Hp} {a : Addr} {xs : List V} (s : Sam H H') (h : H a = some (.lst xs)) : H' a = some (.lst xs) := s.obj _ _ (fun _ z => by cases z) h
theorem Sam.free {H H' : Hp} (s : Sam H H') {l : Addr} (h : H' l = none) : H l = none := by
  cases q : H l with
  | none => rfl
  | some o =>
    cases o with
    | tbl ps =>
      obtain ⟨p1, e1, _⟩ := s.tab l ps q
      rw [e1] at h
      cases h
    | _ =>
      rw [s.obj l _ (fun _ z => by cases z) q] at h
      cases h
theorem Sam.tabbed {P : Addr} {H H' : Hp} (g : GxR.TabG H P) (t : GxR.Tabbed P H H') : Sam H H' := by
  obtain ⟨⟨p1, e1, z1⟩, k⟩ := t
  obtain ⟨p0, e0, _⟩ := g
  refine ⟨fun b o n e => ?_, fun b ps e => ?_⟩
  · by_cases hb : b = P
    · rw [hb, e0] at e
      exact absurd (Option.some.inj e).symm (n p0)
    · rw [k b hb]
      exact e
  · by_cases hb : b = P
    · rw [hb]
      exact ⟨p1, e1, fun _ => z1⟩
    · exact ⟨ps, by rw [k b hb]; exact e, fun z => z⟩
theorem sam_newer {H H' : Hp} {q : Addr} {o : HO} (a : Sam H H') (n : H q = none) : Sam H (upd H' q o) := ⟨fun c x hx e => by
    rw [upd_ne (ne_of_none e n)]
    exact a.obj c x hx e, fun c ps e => by
    obtain ⟨p1, e1, t1⟩ := a.tab c ps e
    exact ⟨p1, by rw [upd_ne (ne_of_none e n)]; exact e1, t1⟩⟩
/-- all but the box stays, tables grow -/
structure Bus (p : Addr) (H H' : Hp) : Prop where
  obj : ∀ b o, b ≠ p → (∀ ps, o ≠ .tbl ps) → H b = some o → H' b = some o
  tab : ∀ b ps, b ≠ p → H b = some (.tbl ps) → ∃ ps', H' b = some (.tbl ps') ∧ (TriplesOk ps.toList → TriplesOk ps'.toList)
theorem Bus.of {p : Addr} {H H' : Hp} (s : But p H H') : Bus p H H' := ⟨fun b o n _ e => s b o n e, fun b ps n e => ⟨ps, s b _ n e, fun z => z⟩⟩
theorem Bus.sam {p : Addr} {H H' : Hp} (s : Sam H H') : Bus p H H' := ⟨fun b o _ n e => s.obj b o n e, fun b ps _ e => s.tab b ps e⟩
theorem Bus.refl (p : Addr) (H : Hp) : Bus p H H := .of (But.refl p H)
theorem Bus.trans {p : Addr} {H H1 H2 : Hp} (a : Bus p H H1) (b : Bus p H1 H2) : Bus p H H2 := ⟨fun c o h n e => b.obj c o h n (a.obj c o h n e), fun c ps h e => by
  obtain ⟨p1, e1, t1⟩ := a.tab c ps h e
  obtain ⟨p2, e2, t2⟩ := b.tab c p1 h e1
  exact ⟨p2, e2, fun z => t2 (t1 z)⟩⟩
theorem Bus.tup {p : Addr} {H H' : Hp} {n : Nat} {a : Addr} {xs : List V} (s : Bus p H H') (B : Bx H p n) (h : H a = some (.tup xs)) : H' a = some (.tup xs) := s.obj _ _ (B.ne_tup h) (fun _ z => by cases z) h
theorem Bus.lst {p : Addr} {H H' : Hp} {a : Addr} {xs : List V} (s : Bus p H H') (ne : a ≠ p) (h : H a = some (.lst xs)) : H' a = some (.lst xs) := s.obj _ _ ne (fun _ z => by cases z) h
theorem Bus.tabG {p : Addr} {H H' : Hp} {n : Nat} {P : Addr} (s : Bus p H H') (B : Bx H p n) (t : GxR.TabG H P) : GxR.TabG H' P := by
  obtain ⟨ps, e, z⟩ := t
  obtain ⟨a, b, c, hp, _⟩ := B
  obtain ⟨p1, e1, t1⟩ := s.tab P ps (ne_of e hp (fun z => by cases z)) e
  exact ⟨p1, e1, t1 z⟩
theorem Bus.new {p q : Addr} {H H' : Hp} {o : HO} (a : Bus p H H') (n : H' q = none) : Bus p H (upd H' q o) := a.trans (.of ((But.refl p H').new n))
/-- a thing made since H may change -/
theorem bus_newer {p q : Addr} {H H' : Hp} {o : HO} (a : Bus p H H') (n : H q = none) : Bus p H (upd H' q o) := ⟨fun c x h hx e => by
    rw [upd_ne (ne_of_none e n)]
    exact a.obj c x h hx e, fun c ps h e => by
    obtain ⟨p1, e1, t1⟩ := a.tab c ps h e
    exact ⟨p1, by rw [upd_ne (ne_of_none e n)]; exact e1, t1⟩⟩
theorem Bus.free {p : Addr} {H H' : Hp} {n : Nat} (s : Bus p H H') (B : Bx H p n) (B' : ∃ m, Bx H' p m) {l : Addr} (h : H' l = none) : H l = none := by
  cases q : H l with
  | none => rfl
  | some o =>
    have nl : l ≠ p := fun z => by
      obtain ⟨m, _, _, _, hp, _⟩ := B'
      rw [z, hp] at h
      cases h
    cases o with
    | tbl ps =>
      obtain ⟨p1, e1, _⟩ := s.tab l ps nl q
      rw [e1] at h
      cases h
    | _ =>
      rw [s.obj l _ nl (fun _ z => by cases z) q] at h
      cases h
theorem Bx.sam {H H' : Hp} {p : Addr} {n : Nat} (h : Bx H p n) (s : Sam H H') : Bx H' p n := by
  obtain ⟨a, b, c, hp, r⟩ := h
  exact ⟨a, b, c, s.lst hp, r⟩
theorem bus_same {p : Addr} {H H1 H2 : Hp} (n : H p = none) (a : Sam H H1) (b : Bus p H1 H2) : Sam H H2 := ⟨fun c x h e => b.obj c x (ne_of_none e n) h (a.obj c x h e), fun c ps e => by
  obtain ⟨p1, e1, t1⟩ := a.tab c ps e
  obtain ⟨p2, e2, t2⟩ := b.tab c p1 (ne_of_none e n) e1
  exact ⟨p2, e2, fun z => t2 (t1 z)⟩⟩
theorem ne_new {H : Hp} {p q : Addr} {n : Nat} (B : Bx H p n) (nq : H q = none) : q ≠ p := fun e => by
  obtain ⟨_, _, _, hp, _⟩ := B
  rw [e, hp] at nq
  cases nq
/-! a tuple so many times -/
theorem tuple_once (l : Addr) (items : Array Value) (n : Nat) (dd : Option Addr) (sl : Array (Option Value)) (u : Tok) :
    Meets (Builtin.«tuple.__mul__» ⟨[.ref l, .int 1 u], []⟩) (fun _ R s => s.heap.get? l = some { cls := .type "tuple", dict := dd, data := .seq items n, slots := sl } ∧ R (.ok (.ret (Value.ref l))) { s with toks := s.toks }) :=
  .of_wp fun prog w A R s h => by
    obtain ⟨hp, g, d, tk, os⟩ := s
    obtain ⟨hl, h⟩ := h
    have f1 := AutoSeq1.idx_int
    have c1 : (items.isEmpty || (1 : Int) == 1) = true := by simp
    wp_walk using wpAny_loadPart' hl
    repeat (first
      | (refine wpAny_ite_true (decide_eq_true c1) ?_; wp_walk using wpAny_loadPart' hl)
      | (refine wpAny_ite_false (decide_eq_false (by decide)) ?_; wp_walk using wpAny_loadPart' hl))
    exact ⟨_, rfl, h⟩
def rRepA (K : PySem.W.Frag) : R2 := fun x y H Q => ∃ (l : Addr) (k : Nat) (xs : List V), x = .ref l ∧ y = .int (k : Nat) ∧ SqT K H l xs ∧ xs ≠ [] ∧ 1 ≤ k ∧ xs.length * k ≤ 1000000 ∧ (k = 1 → Q (.ref l) H) ∧
  (2 ≤ k → ∀ p, H p = none → Q (.ref p) (upd H p (.tup (List.replicate k xs).flatten)))
theorem op_repA {X : Cx} : OpR X (binaryOp .Mult) (rRepA X.K) := by
  intro pins s σ H x y v u Q I rx ry h
  obtain ⟨l, k, xs, rfl, rfl, hT, hne, h1, hz, q1, q2⟩ := h
  cases rx
  obtain ⟨t, rfl⟩ := ry
  obtain ⟨its, r, ⟨⟨cls, dd, data, sl⟩, ho, hc, n, hd⟩, hs⟩ := I.tuple hT
  simp only at hc hd
  subst hc hd
  have lx : 0 < xs.length := List.length_pos_iff.mpr hne
  have le : its.length = xs.length := r.length.symm
  have ke : k * xs.length ≤ 1000000 := by
    rw [Nat.mul_comm]
    exact hz
  have kl : k ≤ 1000000 := Nat.le_trans (Nat.le_mul_of_pos_right k lx) ke
  have ne : its.toArray.isEmpty = false := by
    cases its with
    | nil =>
      rw [← le] at lx
      cases lx
    | cons a b => rfl
  by_cases k1 : k = 1
  · subst k1
    refine wpAny_binaryOp_repeat_ref (T := "tuple") (U := "int") (by decide) ⟨_, ho, rfl⟩ (fun s' => typeIs_int s' _ t) noFill_tuple_mul F.fills_int_mul F.slot_int_rmul repeat_tuple F.slot_int_index.lookup
      (call_meets F.slot_int_rmul (typeIs_int s _ t) F.entry_int_rmul (F.args_int_rmul_2 _ _) (int_rmul_tuple _ t l its.toArray n dd sl)
        ⟨ho, rfl, ⟨_, ho, rfl⟩, call_meets F.slot_tuple_mul ⟨_, ho, rfl⟩ F.entry_tuple_mul (F.args_tuple_mul_2 _ _) (tuple_once l its.toArray n dd sl t) ⟨ho, ?_⟩⟩)
    exact ⟨.ref l, H, I, rfl, q1 rfl⟩
  · have k2 : 2 ≤ k := by omega
    have sz : its.toArray.size = xs.length := by rw [List.size_toArray, le]
    have pr : ((its.toArray.size : Nat) : Int) * (k : Int) ≤ 1000000 := by
      rw [sz, ← Int.natCast_mul]
      omega
    have fl : (List.replicate k its).flatten.length ≤ sizeLine := by
      rw [PyProof.Rows.lm_len_rep_flat, le, sizeLine_eq]
      omega
    have d0 : (decide ((k : Int) < -(2 ^ 63)) || decide ((k : Int) ≥ 2 ^ 63)) = false := by
      rw [decide_eq_false (show ¬ (k : Int) < -(2 ^ 63) by omega), decide_eq_false (show ¬ (k : Int) ≥ 2 ^ 63 by omega)] <;> rfl
    have d1 : (its.toArray.isEmpty || (k : Int) == 1) = false := by
      rw [ne, Bool.false_or]
      exact beq_eq_false_iff_ne.mpr (by omega)
    have d2 : (decide ((k : Int) ≤ 0) || its.toArray.isEmpty) = false := by
      rw [ne, Bool.or_false]
      exact decide_eq_false (by omega)
    have d4 : Builtin.Tuple.tupleTooMany (((its.toArray.size : Nat) : Int) * (k : Int)) = false := by
      unfold Builtin.Tuple.tupleTooMany
      rw [sizeLine_eq]
      exact decide_eq_false (by omega)
    refine wpAny_binaryOp_repeat_ref (T := "tuple") (U := "int") (by decide) ⟨_, ho, rfl⟩ (fun s' => typeIs_int s' _ t) noFill_tuple_mul F.fills_int_mul F.slot_int_rmul repeat_tuple F.slot_int_index.lookup
      (call_meets F.slot_int_rmul (typeIs_int s _ t) F.entry_int_rmul (F.args_int_rmul_2 _ _) (int_rmul_tuple _ t l its.toArray n dd sl)
        ⟨ho, rfl, ⟨_, ho, rfl⟩, call_meets F.slot_tuple_mul ⟨_, ho, rfl⟩ F.entry_tuple_mul (F.args_tuple_mul_2 _ _) (tuple_mulW l its.toArray n dd sl (k : Int) t d0 d1 d2 (by omega) d4 (by rw [Int.toNat_natCast, size_rep, List.size_toArray]; exact fl)) ⟨ho, ?_⟩⟩)
    rw [Int.toNat_natCast, size_rep]
    refine ⟨.ref s.heap.objs.size, _, I.laid (t' := s.toks) (o := .tup (List.replicate k xs).flatten) (fun b ob q => Heap.get?_push_of_some _ q) (Nat.le_refl _) ⟨?_, _, r.rep k, IsTup.new _ _⟩, rfl, q2 k2 _ (I.hok.fresh (Nat.le_refl _))⟩
    rw [PyProof.Rows.lm_len_rep_flat, sizeLine_eq]
    omega
/-! the law's own rows -/
def Bits (rs : List Int) : Prop := ∀ x, x ∈ rs → x = 0 ∨ x = 1
theorem Bits.snoc {rs : List Int} {x : Int} (h : Bits rs) (hx : x = 0 ∨ x = 1) : Bits (rs ++ [x]) := fun y hy => by
  rcases List.mem_append.mp hy with hy | hy
  · exact h y hy
  · rw [List.mem_singleton] at hy
    rw [hy]
    exact hx
theorem but_newer {p q : Addr} {H H' : Hp} {o : HO} (a : But p H H') (n : H q = none) : But p H (upd H' q o) := fun c x hn e => by
  rw [upd_ne (ne_of_none e n)]
  exact a c x hn e
theorem Bx.other {H : Hp} {p q : Addr} {n : Nat} {o : HO} (h : Bx H p n) (nq : q ≠ p) : Bx (L2.upd H q o) p n := by
  obtain ⟨a, b, c, hp, r⟩ := h
  exact ⟨a, b, c, by rw [upd_ne (Ne.symm nq)]; exact hp, r⟩
def PV (p D : Addr) (HX : Hp) (k i : Nat) (H1 : Hp) : Prop := ∃ rs : List Int, rs.length = i ∧ Bits rs ∧ But p HX H1 ∧ Bx H1 p (k + i) ∧ H1 D = some (.lst (rs.map V.int))
theorem pv_start {p D : Addr} {HX : Hp} {k : Nat} (nD : HX D = none) (B : Bx HX p k) : PV p D HX k 0 (upd HX D (.lst [])) := ⟨[], rfl, fun _ h => (by cases h), (But.refl p HX).new nD, B.new nD, upd_same⟩
theorem pv_step {p D : Addr} {HX H1 H4 : Hp} {k i : Nat} {x : Int} (nD : HX D = none) (Dp : D ≠ p) (h : PV p D HX k i H1) (b : But p H1 H4) (B : Bx H4 p (k + (i + 1))) (hi : i < 100000) (hx : x = 0 ∨ x = 1) :
    ∃ acc, H4 D = some (.lst acc) ∧ acc.length < sizeLine ∧ PV p D HX k (i + 1) (upd H4 D (.lst (acc ++ [.int x]))) := by
  obtain ⟨rs, hl, hb, b1, _, hD⟩ := h
  have hsl : sizeLine = 16777216 := by decide
  refine ⟨_, b _ _ Dp hD, by rw [List.length_map]; omega, rs ++ [x], by rw [List.length_append, hl]; rfl, hb.snoc hx, but_newer (b1.trans b) nD, B.other Dp, ?_⟩
  rw [upd_same, List.map_append]
  rfl
theorem rep_one (m : Nat) (x : Int) : (List.replicate m [V.int x]).flatten = (List.replicate m x).map V.int := by
  rw [List.map_replicate]
  induction m with
  | zero => rfl
  | succ m ih => rw [List.replicate_succ, List.flatten_cons, ih, List.replicate_succ]; rfl
/-! a tuple no times, too -/
theorem tuple_nought (l : Addr) (items : Array Value) (n : Nat) (dd : Option Addr) (sl : Array (Option Value)) (u : Tok) (hi : items.isEmpty = false) :
    Meets (Builtin.«tuple.__mul__» ⟨[.ref l, .int 0 u], []⟩) (fun _ R s => s.heap.get? l = some { cls := .type "tuple", dict := dd, data := .seq items n, slots := sl } ∧ R (.ok (.ret (Value.ref s.heap.objs.size))) { s with heap := s.heap.push { cls := Value.type "tuple", data := Data.seq #[] }, toks := s.toks }) :=
  .of_wp fun prog w A R s h => by
    obtain ⟨hp, g, d, tk, os⟩ := s
    obtain ⟨hl, h⟩ := h
    have f1 := AutoSeq1.idx_int
    have c1 : (items.isEmpty || (0 : Int) == 1) = false := by rw [hi]; rfl
    have c2 : (decide ((0 : Int) ≤ 0) || items.isEmpty) = true := by simp
    wp_walk using wpAny_loadPart' hl
    repeat (first
      | (refine wpAny_ite_false (decide_eq_false (by rw [c1]; exact Bool.false_ne_true)) ?_; wp_walk using wpAny_loadPart' hl)
      | (refine wpAny_ite_true (decide_eq_true c2) ?_; wp_walk using wpAny_loadPart' hl)
      | (refine wpAny_ite_false (decide_eq_false (by decide)) ?_; wp_walk using wpAny_loadPart' hl))
    exact ⟨_, rfl, h⟩
def rRepB (K : PySem.W.Frag) : R2 := fun x y H Q => ∃ (l : Addr) (k : Nat) (xs : List V), x = .ref l ∧ y = .int (k : Nat) ∧ SqT K H l xs ∧ xs ≠ [] ∧ xs.length * k ≤ 1000000 ∧ (k = 1 → Q (.ref l) H) ∧
  (k ≠ 1 → ∀ p, H p = none → Q (.ref p) (upd H p (.tup (List.replicate k xs).flatten)))
theorem op_repB {X : Cx} : OpR X (binaryOp .Mult) (rRepB X.K) := by
  intro pins s σ H x y v u Q I rx ry h
  obtain ⟨l, k, xs, rfl, rfl, hT, hne, hz, q1, q2⟩ := h
  by_cases k0 : k = 0
  · subst k0
    cases rx
    obtain ⟨t, rfl⟩ := ry
    obtain ⟨its, r, ⟨⟨cls, dd, data, sl⟩, ho, hc, n, hd⟩, hs⟩ := I.tuple hT
    simp only at hc hd
    subst hc hd
    have le : its.length = xs.length := r.length.symm
    have ne : its.toArray.isEmpty = false := by
      cases its with
      | nil => exact absurd (List.eq_nil_of_length_eq_zero le.symm) hne
      | cons a b => rfl
    refine wpAny_binaryOp_repeat_ref (T := "tuple") (U := "int") (by decide) ⟨_, ho, rfl⟩ (fun s' => typeIs_int s' _ t) noFill_tuple_mul F.fills_int_mul F.slot_int_rmul repeat_tuple F.slot_int_index.lookup
      (call_meets F.slot_int_rmul (typeIs_int s _ t) F.entry_int_rmul (F.args_int_rmul_2 _ _) (int_rmul_tuple _ t l its.toArray n dd sl)
        ⟨ho, rfl, ⟨_, ho, rfl⟩, call_meets F.slot_tuple_mul ⟨_, ho, rfl⟩ F.entry_tuple_mul (F.args_tuple_mul_2 _ _) (tuple_nought l its.toArray n dd sl t ne) ⟨ho, ?_⟩⟩)
    exact ⟨.ref s.heap.objs.size, _, I.laid (t' := s.toks) (o := .tup []) (fun b ob q => Heap.get?_push_of_some _ q) (Nat.le_refl _) ⟨Nat.zero_le _, [], .nil, IsTup.new _ _⟩, rfl, q2 (by decide) _ (I.hok.fresh (Nat.le_refl _))⟩
  · exact op_repA pins s σ H _ _ v u Q I rx ry ⟨l, k, xs, rfl, rfl, hT, hne, by omega, hz, q1, fun z => q2 (by omega)⟩
/-- (x,) so many times -/
theorem rep_go {K : PySem.W.Frag} {H : Hp} {t : Addr} {x v : Int} {k : Nat} {Q : VK} (hv : v = (k : Nat)) (ht : H t = some (.tup [.int x])) (hk : k ≤ 100000) (q : ∀ H' p, Same H H' → H' p = some (.tup ((List.replicate k x).map V.int)) → Q (.ref p) H') : rRepB K (.ref t) (.int v) H Q := by
  subst hv
  refine ⟨t, k, _, rfl, rfl, SqT.mk ht, by simp, (show 1 * k ≤ 1000000 by omega), fun z => ?_, fun z p np => ?_⟩
  · subst z
    exact q H t (Same.refl H) ht
  · exact q _ p (same_upd np) (by rw [upd_same, rep_one])
theorem cat_go {K : PySem.W.Frag} {H : Hp} {a b : Addr} {rs ss : List Int} {Q : VK} (ha : H a = some (.tup (rs.map V.int))) (hb : H b = some (.tup (ss.map V.int))) (hl : rs.length + ss.length ≤ 100000)
    (q : ∀ H' p, Same H H' → H' p = some (.tup ((rs ++ ss).map V.int)) → Q (.ref p) H') : rCatA K (.ref a) (.ref b) H Q := by
  have hsl : sizeLine = 16777216 := by decide
  refine ⟨a, b, _, _, rfl, rfl, SqT.mk ha, SqT.mk hb, by rw [List.length_map, List.length_map]; omega, fun z => ?_, fun _ z => ?_, fun _ _ p np => ?_⟩
  · rw [List.map_eq_nil_iff.mp z] at q
    exact q H b (Same.refl H) hb
  · rw [List.map_eq_nil_iff.mp z] at q
    exact q H a (Same.refl H) (by rw [List.append_nil]; exact ha)
  · exact q _ p (same_upd np) (by rw [upd_same, List.map_append])
theorem catK {X : Cx} {K : PySem.W.Frag} (h : X.K = K) : OpR X (binaryOp .Add) (rCatA K) := by
  subst h
  exact op_catA
theorem zipAK {X : Cx} {K : PySem.W.Frag} {e e2 : Expr} {ta : TA} {p pos tpos : Pos} {elts : List Expr} {kk : Nat} (h : X.K = K) (hg : Gl X "zip") (hm : X.mg "zip" = none) (ha : PA X [e, e2] ta)
    (hs : starEach [e, e2] X.env = (false, eval e X.env) :: starEach [e2] X.env := by rfl) (hpl : (backTo pos (starEach [e2] X.env)).any (·.1) = false := by rfl) :
    PI X (.Tuple elts kk tpos) (.Call (.Name "zip" p) [e, e2] [] pos) (RZ.iZipA K ta) := by
  subst h
  exact RZ.pi_zipA hg hm ha hs hpl
/-! enumerate of a tuple -/
abbrev itObj (l : Addr) : Obj := { cls := .type "tuple_iterator", data := .fields #[.ref l, .int 0 0] }
abbrev enObj (a : Addr) : Obj := { cls := .type "enumerate", data := .fields #[.none, .bool false, .ref a, rawInt 0, .none, .none] }
set_option maxHeartbeats 1000000 in
theorem enum_newT (l : Addr) (items : Array Value) : Meets (Builtin.«enumerate.__new__» ⟨[.type "enumerate", .ref l], []⟩)
    (fun _ R s => s.heap.IsTuple l items ∧ R (.ok (.ret (.ref (s.heap.push (itObj l)).objs.size))) { s with heap := (s.heap.push (itObj l)).push (enObj s.heap.objs.size) }) :=
  .of_wp fun prog w A R s h => by
    obtain ⟨hp, g, d, tk, os⟩ := s
    obtain ⟨h1, h⟩ := h
    have hsub := sub_enumerate
    have q1 : ∀ {A' : Around} {E : Value → Shared → Prop} {Q : Value → Shared → Prop}, Q (.ref hp.objs.size) ⟨hp.push (itObj l), g, d, tk, os⟩ → wpAny (model prog w) A' (pyIter (.ref l)) Q E ⟨hp, g, d, tk, os⟩ := fun q => (begins_tuple l items).iter prog w _ _ ⟨hp, g, d, tk, os⟩ _ h1 q
    obtain ⟨⟨c, dct, dt, sl⟩, hl, hc, n, hd⟩ := h1
    replace hc : c = .type "tuple" := hc
    replace hd : dt = .seq items n := hd
    subst hc hd
    wp_walk using AutoSeq1.wpAny_loadPart' hl, q1
    refine wpAny_stack_any fun st => wpAny_pure ?_
    split
    · rename_i c _ _ _ _ _
      cases (c == Value.type "enumerate") <;> (wp_walk using AutoSeq1.wpAny_loadPart' hl, q1; exact ⟨_, rfl, h⟩)
    · wp_walk using AutoSeq1.wpAny_loadPart' hl, q1
      exact ⟨_, rfl, h⟩
theorem enum_callT {prog : Program} {w : World} {A : Around} {E : Value → Shared → Prop} {s : Shared} {l : Addr} {items : Array Value} {Q : Value → Shared → Prop} (hL : s.heap.IsTuple l items)
    (h : ∀ h', IsEnum h' (s.heap.objs.size + 1) s.heap.objs.size 0 .none → h'.IsTupleIter s.heap.objs.size l 0 → (∀ b o, s.heap.get? b = some o → h'.get? b = some o) → Q (.ref (s.heap.objs.size + 1)) { s with heap := h' }) :
    wpAny (model prog w) A (call (.type "enumerate") [.ref l]) Q E s := by
  refine callType_new F.called_enumerate (by decide) (F.typeCall_enumerate_1 _) (F.newCall_enumerate_1 _) (fun obj => F.args_object_init_2 obj _) F.entry_enumerate_new (enum_newT l items) ⟨hL, ?_⟩
  have hz : (s.heap.push (itObj l)).objs.size = s.heap.objs.size + 1 := Heap.size_push ..
  show _ ∧ _
  rw [hz]
  have he : IsEnum ((s.heap.push (itObj l)).push (enObj s.heap.objs.size)) (s.heap.objs.size + 1) s.heap.objs.size 0 .none := by
    have e := Heap.get?_push_size (s.heap.push (itObj l)) (o := enObj s.heap.objs.size) rfl
    rw [hz] at e
    exact e
  exact ⟨⟨_, he, rfl⟩, h _ he ⟨_, Heap.get?_push_of_some _ (Heap.get?_push_size _ rfl), rfl, rfl⟩ fun b o x => Heap.get?_push_of_some _ (Heap.get?_push_of_some _ x)⟩
/-- the tuple at a, each item in a new pair -/
def ItN (K : PySem.W.Frag) (a : Addr) : It :=
  ⟨fun i H => ∃ (xs : List V) (x : V), SqT K H a xs ∧ xs[i]? = some x, fun i H v H' => ∃ T x, v = .ref T ∧ H T = none ∧ H' = upd H T (.tup [.int (i : Nat), x]) ∧ ∀ xs, SqT K H a xs → xs[i]? = some x, fun i H => ∃ xs : List V, SqT K H a xs ∧ xs.length ≤ i⟩
theorem turn_N {P : Program} {w : World} {K : PySem.W.Frag} {elts : List Expr} {kk : Nat} {tpos : Pos} (a e it : Addr) (hae : a ≠ e) (hai : a ≠ it) :
    Turn P w K (.Tuple elts kk tpos) (ItN K a) [e, it] e (fun i h => (∃ old, IsEnum h e it ((i : Nat) : Int) old) ∧ h.IsTupleIter it a i ∧ e ≠ it) where
  mem := List.mem_cons_self
  obj := fun i h st b hb => by
    obtain ⟨⟨old, he⟩, ⟨o, ho, hc, hd⟩, _⟩ := st
    rcases List.mem_cons.mp hb with z | z
    · rw [z]
      exact ⟨_, he, fun v q => nomatch q⟩
    · rw [List.mem_singleton.mp z]
      exact ⟨o, ho, fun v q => by rw [hd] at q; cases q⟩
  keep := fun i h h' st k => let ⟨⟨old, he⟩, hi, hne⟩ := st; ⟨⟨old, k e List.mem_cons_self _ he⟩, hi.at fun o q => k it (List.mem_cons_of_mem _ List.mem_cons_self) o q, hne⟩
  item := by
    intro X hP hw hK hc i pins s σ H E I hf st hg
    subst hP hw hK
    obtain ⟨⟨old, he⟩, hit, hne⟩ := st
    obtain ⟨xs, x, hq, hx⟩ := hg
    obtain ⟨its, rv, p, hz⟩ := I.tuple hq
    obtain ⟨u, hu, ru⟩ := rv.get hx
    have hel : e < s.heap.objs.size := Heap.lt_size he
    have hil : it < s.heap.objs.size := by
      obtain ⟨_, q, _⟩ := hit
      exact Heap.lt_size q
    have hlt : i < its.toArray.size := by
      rw [List.size_toArray]
      exact (List.getElem?_eq_some_iff.mp hu).1
    refine wpAny_pyNext_enum_itemD (Draws.tuple (A := X.A.in1) (I.ok.hd hc) it a hai its.toArray) he ⟨hit, (show s.heap.IsTuple a its.toArray from p)⟩ hlt hne (fun z => ?_) fun x' h' tk hP' ho hst' hT hsz hk => ?_
    · rcases List.mem_cons.mp z with z | z
      · exact hne z
      · exact hae (List.mem_singleton.mp z).symm
    have ex : x' = u := by
      have hP' : its.toArray[i]? = some x' := hP'
      have hu' : its.toArray[i]? = some u := by simpa using hu
      rw [hu'] at hP'
      exact (Option.some.inj hP').symm
    subst ex
    refine ⟨_, rfl, wpAny_letOwnedTupleGo_enum (s := { s with heap := h', toks := tk + 1 }) ho fun h'' he' sb => ?_⟩
    have hT2 : h''.get? s.heap.objs.size = some { cls := .type "tuple", data := .seq #[.int i tk, x'] } := (sb.2 _ (Nat.ne_of_gt hel)).trans hT
    have new : ObjOk X.prog X.w (upd H s.heap.objs.size (.tup [.int (i : Nat), x])) h'' s.heap.objs.size (.tup [.int (i : Nat), x]) := ⟨(show 2 ≤ sizeLine by decide), [.int i tk, x'], .cons ⟨_, rfl⟩ (.cons ru .nil), ⟨_, hT2, rfl, _, rfl⟩⟩
    have I1 : Inv X pins σ (upd H s.heap.objs.size (.tup [.int (i : Nat), x])) { s with heap := h'', toks := tk + 1 } :=
      I.turnedNew (ch := [e, it]) (fun b ob hb q => (sb.2 b (fun z => hb (by rw [z]; exact List.mem_cons_self))).trans (hk b ob (fun z => hb (by rw [z]; exact List.mem_cons_self)) (fun z => hb (by rw [z]; exact List.mem_cons_of_mem _ List.mem_cons_self)) q)) hf (Nat.le_refl _) new
    refine ⟨.ref s.heap.objs.size, _, I1, rfl, ⟨_, x, rfl, I.hok.fresh (Nat.le_refl _), rfl, fun ys hy => by rw [I.tuple_inj hy hq]; exact hx⟩, ⟨⟨x', ?_⟩, hst'.1.at fun o q => (sb.2 it (Ne.symm hne)).trans q, hne⟩, fun b hb => ?_⟩
    · rw [show ((i + 1 : Nat) : Int) = (i : Int) + 1 by omega]
      exact he'
    · have hb' : b < s.heap.objs.size := by
        rcases List.mem_cons.mp hb with z | z
        · rw [z]
          exact hel
        · rw [List.mem_singleton.mp z]
          exact hil
      rw [upd_ne (Nat.ne_of_lt hb')]
      exact (hf b hb).1
  done := by
    intro X hP hw hK hc i pins s σ H E I hf st hg
    subst hP hw hK
    obtain ⟨⟨old, he⟩, hit, hne⟩ := st
    obtain ⟨xs, hq, hx⟩ := hg
    obtain ⟨its, rv, p, hz⟩ := I.tuple hq
    obtain ⟨f0, f1, f2, f3, f4, f5⟩ := hf it (List.mem_cons_of_mem _ List.mem_cons_self)
    have hl := rv.length
    have hT : s.TypeIs (.ref e) "enumerate" := ⟨_, he, rfl⟩
    have hend : its.toArray[i]? = none := by
      rw [List.getElem?_toArray, List.getElem?_eq_none (by omega)]
    unfold pyNext
    refine wpAny_bind (wpAny_attempt (wpAny_callSpecial?_slot (name := Str.ofString "__next__") hT F.slot_enumerate_next (wpAny_call_entry F.slot_enumerate_next hT F.entry_enumerate_next ?_ (F.args_enumerate_next_1 _))))
    show wpAny _ _ (field (.ref e) 2 >>= _) _ _ _
    refine wpAny_bind (wpAny_field he rfl (x := .ref it) rfl ?_)
    refine wpAny_bind (wpAny_nextOf_tuple_end (I.ok.hd hc) hit (show s.heap.IsTuple a its.toArray from p) hend fun h' x eb hx' => ?_)
    obtain ⟨o, ho, hcl⟩ := hx'
    refine wpAny_bind (wpAny_isInstance (T := "StopIteration") (b := true) ⟨o, ho, hcl⟩ isSubtype_stop ?_)
    exact wpAny_pure ⟨rfl, I.turned (t' := s.toks) (fun b o hb q => eb b o hb q) f0 f1 f3 f4 f5⟩
  self := fun A i s Q E st h => let ⟨⟨_, he⟩, _⟩ := st; wpAny_pyIter_enum he h
def iEnumT (K : PySem.W.Frag) (ta : TA) : TI := fun σ H R => ta σ H fun vs H1 => ∃ a xs, vs = [.ref a] ∧ SqT K H1 a xs ∧ R (ItN K a) H1
theorem pi_enumT {X : Cx} {e : Expr} {ta : TA} {p pos tpos : Pos} {elts : List Expr} {kk : Nat} (hg : Gl X "enumerate") (hm : X.mg "enumerate" = none) (ha : PA X [e] ta) (hs : starEach [e] X.env = [(false, eval e X.env)] := by rfl) :
    PI X (.Tuple elts kk tpos) (.Call (.Name "enumerate" p) [e] [] pos) (iEnumT X.K ta) := by
  refine ⟨fun pins s σ H R I h => ?_⟩
  refine Call_ (ld_blt I hg hm boot_enumerate (PyProof.Rows.callWith_type1 (thn (ha.run pos pins s σ H _ I h) fun us s1 ⟨vs, H1, I1, r1, q1⟩ => ?_) hs rfl))
  obtain ⟨a, xs, ex, hq, q⟩ := q1
  subst ex
  rw [Vals.ref1 r1]
  obtain ⟨its, rv, p', hz⟩ := I1.tuple hq
  have lta : a < s1.heap.objs.size := by
    obtain ⟨o, ho, _⟩ := id p'
    exact Heap.lt_size ho
  refine enum_callT (show s1.heap.IsTuple a its.toArray from p') fun h' he hit hk => wpAny_pyIter_enum he ?_
  have I2 : Inv X pins σ H1 { s1 with heap := h' } := I1.kept (t' := s1.toks) hk
  refine ⟨s1.heap.objs.size + 1, [s1.heap.objs.size + 1, s1.heap.objs.size], _, _, H1, rfl, I2, turn_N a (s1.heap.objs.size + 1) s1.heap.objs.size (Nat.ne_of_lt (Nat.lt_succ_of_lt lta)) (Nat.ne_of_lt lta), ⟨⟨.none, he⟩, hit, Nat.succ_ne_self _⟩, fun b hb => ?_, q⟩
  have hle : s1.heap.objs.size ≤ b := by
    rcases List.mem_cons.mp hb with z | z
    · rw [z]
      exact Nat.le_succ _
    · rw [List.mem_singleton.mp z]
      exact Nat.le_refl _
  exact I1.fpOk hle (I1.hok.fresh hle)
theorem walk_enumT {K : PySem.W.Frag} {a : Addr} {xs : List V} : Walk (ItN K a) xs.length (fun H => SqT K H a xs) (YPair (fun i => some (.int (i : Nat))) (fun i => xs[i]?)) := by
  refine ⟨fun i _ hi q => ⟨xs, xs[i], q, List.getElem?_eq_getElem hi⟩, fun _ q => ⟨xs, q, Nat.le_refl _⟩, fun i H v H' _ q y => ?_⟩
  obtain ⟨T, x, h1, h2, h3, h4⟩ := y
  exact ⟨T, .int (i : Nat), x, h1, h2, h3, rfl, h4 xs q⟩
theorem getD_at {rs : List Int} {i : Nat} (h : i < rs.length) : rs[i]? = some (rs.getD i 0) := by
  rw [List.getD_eq_getElem?_getD, List.getElem?_eq_getElem h]
  rfl
/-! an error that is caught, and kept beyond the suite -/
def ExK (cls : Value) (d : Option Addr) (a : Addr) : HO := .ext fun h => ∃ (oe : Obj) (vs : Array Value), h.get? a = some oe ∧ Zc cls d oe ∧ oe.data = .fields vs
theorem exK_in {P : Program} {w : World} {G : Hp} {h : Heap} {a : Addr} {cls : Value} {d : Option Addr} {oe : Obj} {vs : Array Value} (e : h.get? a = some oe) (z : Zc cls d oe) (f : oe.data = .fields vs) : ObjOk P w G h a (ExK cls d a) :=
  ⟨⟨oe, vs, e, z, f⟩, ⟨oe, e⟩, fun _ _ hh k => by
    obtain ⟨o, v, q, r⟩ := hh
    exact ⟨o, v, k o q, r⟩⟩
section
variable {X : Cx} {pins : List (Addr × Obj)} {σ : L2.St} {H : Hp} {s : Shared} {a : Addr} {oe : Obj} {vs : Array Value} {cls : Value} {d : Option Addr}
theorem keep_track (I : Inv (X.suite a ((a, oe) :: (X.pn ++ pins))) [] σ H s) (ok : X.Ok) (new : X.s_0.heap.get? a = none) (other : ∀ p, p ∈ X.pn ++ pins → p.1 ≠ a) (hz : Zc cls d oe) (hd : oe.data = .fields vs) :
    Inv X pins σ (upd H a (ExK cls d a)) s := by
  obtain ⟨hget, hnone, nloc, nfs, ncell⟩ := I.pin (a, oe) (List.mem_append_left _ List.mem_cons_self)
  have hne : ∀ {b : Addr} {o : HO}, H b = some o → b ≠ a := fun e => ne_of_none e hnone
  have up : ∀ {b : Addr} {o : HO}, H b = some o → (upd H a (ExK cls d a)) b = some o := fun e => by
    rw [upd_ne (hne e)]
    exact e
  refine ⟨ok, I.os, I.bare, ⟨I.base.keep, I.base.slot, fun b o e n x => ?_, I.base.there, fun b xs e => up (I.base.tups b xs e), fun b o u e => up (I.base.frzs b o u e), fun b ps e => ?_⟩, I.loc, I.cell, ?_, fun x c e => ?_, fun p hp => ?_, fun b u e => ?_, I.len⟩
  · have hb : b ≠ a := fun z => by
      rw [z, new] at e
      cases e
    rw [upd_ne hb]
    exact I.base.free b o e n x
  · obtain ⟨more, q⟩ := I.base.tbls b ps e
    exact ⟨more, up q⟩
  · rw [upd_ne (Ne.symm nloc)]
    exact I.free
  · have hc : c ≠ a := fun z => by
      obtain ⟨v, o, q, r⟩ := I.cell x c e
      rw [z, hget] at q
      cases q
      first
        | exact ncell _ r
        | exact ncell _ r.1
        | exact ncell _ r.2
    rw [upd_ne hc]
    exact I.freeC x c e
  · obtain ⟨q1, q2, q3, q4, q5⟩ := I.pin p (List.mem_append_left _ (List.mem_cons_of_mem _ hp))
    exact ⟨q1, by rw [upd_ne (other p hp)]; exact q2, q3, q4, q5⟩
  · by_cases hb : b = a
    · subst hb
      rw [upd_same] at e
      cases e
      exact exK_in hget hz hd
    · rw [upd_ne hb] at e
      exact (I.hok b u e).stay (fun _ _ _ q => q) (fun _ q => up q) fun _ _ q => up q
end
def wHeld (K : PySem.W.Frag) (c : Value) (i : Nat) (ts : Addr → Value → Option Addr → TS) (Wout : WX) (D : Ends) : WX := fun cls d σ H =>
  ∃ b, PySem.W.exmOne K cls c = some b ∧ (b = false → Wout cls d σ H) ∧
    (b = true → ∀ a, H a = none → ts a cls d { nx := fun σ' G => D.nx (σ'.set i none) (upd G a (ExK cls d a)), rt := fun _ _ => False, bk := fun _ _ => False, ct := fun _ _ => False } (σ.set i (some (.ref a))) H)
theorem ps_try_held {X : Cx} {x n : Str} {c : Value} {i : Nat} {body suite : List Stmt} {b₀ : Stmt} {np pos pos' : Pos} {tb : WX → TS} {ts : Addr → Value → Option Addr → TS} {Wout : WX} (hex : X.ex = []) (hs : X.stack = X.env :: X.outer) (hf : X.env.frame = some X.env.locals) (hN : X.N.Nodup) (hi : X.N[i]? = some n) (hln : X.env.kindOf n = some .local)
    (hc : Names X x c) (tk : Takes X Wout) (hb : ∀ (W : WX) (pn : List (Addr × Obj)) (xe : Value → Shared → Prop), Takes (X.tr pn xe) W → PassesOwn (model X.prog X.w) X.A X.env xe → PSs (X.tr pn xe) body (tb W))
    (hsu : ∀ (a : Addr) (oe : Obj) (cls : Value) (d : Option Addr) (pn : List (Addr × Obj)), Zc cls d oe → (∃ vs, oe.data = .fields vs) → PSs (X.suite a ((a, oe) :: pn)) (b₀ :: suite) (ts a cls d)) :
    PS X (.Try body [.ExceptHandler (some (.Name x np)) (some n) (b₀ :: suite) pos'] [] [] pos) (fun D σ H => tb (wHeld X.K c i ts Wout D) D σ H) := by
  refine ⟨fun pins s σ H D I h => ?_⟩
  have ok := I.ok
  have hA : X.A.frames = some (X.env :: X.outer) := by
    rw [ok.frames, hs]
  let catcher : Value → Shared → Prop := fun u s₁ => wpAny (model X.prog X.w) X.A (noteFrame u X.env) (fun _ s₂ => wpAny (model X.prog X.w) X.A (setFlight u none)
    (fun _ s₃ => wpAny (model X.prog X.w) X.A (handleBy u X.env [.ExceptHandler (some (.Name x np)) (some n) (b₀ :: suite) pos']) (SP X pins D) X.xe s₃) X.xe s₂) X.xe s₁
  have main := (hb (wHeld X.K c i ts Wout D) (X.pn ++ pins) catcher ?_ PassesOwn.looking).run [] s σ H D (I.toTry _) h
  · refine wpAny_Try_except (wpAny_mono main (fun fl s1 r => ?_) fun _ _ z => z)
    cases fl with
    | next =>
      obtain ⟨σ', G, J, q⟩ := r
      exact wpAny_execs_nil ⟨σ', G, J.ofTry ok, q⟩
    | brk =>
      obtain ⟨σ', G, J, q⟩ := r
      exact ⟨σ', G, J.ofTry ok, q⟩
    | cont =>
      obtain ⟨σ', G, J, q⟩ := r
      exact ⟨σ', G, J.ofTry ok, q⟩
    | ret u =>
      obtain ⟨v, σ', G, J, q⟩ := r
      exact ⟨v, σ', G, J.ofTry ok, q⟩
  intro u s' air
  obtain ⟨a, B, sI, ps, σ', G, cls, d, rfl, J', nb, up, sky, na, os, ag, b, eb, no, yes⟩ := air
  have J : Inv X pins σ' G sI := J'.ofTry ok
  rw [show (X.tr (X.pn ++ pins) catcher).stack = X.env :: X.outer from hs] at sky nb
  have nB : B.get? a = none := by
    rcases sky with k | k | k
    · exact k.2.1
    · exact k.2.1
    · exact k.2.1
  show wpAny (model X.prog X.w) X.A (noteFrame (.ref a) X.env) _ _ _
  refine Sky.land Zc.steady hA hf sky fun h3 f3 u3 => ?_
  have nb' : ∀ b o, sI.heap.get? b = some o → b ∉ frs X.stack → B.get? b = some o := by
    rw [hs]
    exact nb
  have J3 : Inv X pins σ' G { s' with heap := h3 } := J.landed nb' f3.1 (up.trans u3) os ag
  obtain ⟨o3, v3, g3, z3, d3⟩ := f3.there
  have nfr : a ∉ frs (X.env :: X.outer) := fun hm => by
    obtain ⟨_, o', e', nf⟩ := f3.2.2.1.mem hm
    rw [g3] at e'
    cases e'
    exact nf _ d3
  have nL : a ≠ X.env.locals := fun z => nfr (List.mem_filterMap.mpr ⟨_, List.mem_cons_self, by rw [hf, z]⟩)
  have nF : a ∉ X.fs := fun hm => by
    obtain ⟨v, hv, q⟩ := List.mem_filterMap.mp hm
    exact nfr (List.mem_filterMap.mpr ⟨v, List.mem_cons_of_mem _ hv, q⟩)
  have nI : sI.heap.get? a = none := by
    cases q : sI.heap.get? a with
    | none => rfl
    | some o =>
      have := nb a o q nfr
      rw [nB] at this
      cases this
  have n0 : X.s_0.heap.get? a = none := by
    cases q : X.s_0.heap.get? a with
    | none => rfl
    | some o =>
      obtain ⟨o', e'⟩ := J.base.there a o q (by rw [hex]; exact List.not_mem_nil)
      rw [nI] at e'
      cases e'
  have nP : ∀ p, p ∈ X.pn ++ pins → p.1 ≠ a := fun p hp z => by
    have e := (J.pin p hp).1
    rw [z, nI] at e
    cases e
  have S3 := J3.suite g3 d3 na nL nF
  refine wpAny_handleBy_cons (codeAny_handlers_test ?_) (fun q => by cases q)
  have look : PySem.W.Looks (model X.prog X.w) h3 (typeOf (.ref a)) cls := fun A' Q' E' t k q => wpAny_typeOf_ref (k _ _ g3) (by rw [z3.1]; exact q)
  have fits := PySem.W.exm_one (M := model X.prog X.w) J3.kIn look eb
  have asked : ∀ {Q' : Value → Shared → Prop} {E' : Value → Shared → Prop}, Q' c { s' with heap := h3 } → wpAny (model X.prog X.w) (X.A.mark (some (.ref a))) (eval (.Name x np) X.env) Q' E' { s' with heap := h3 } := fun q => by
    obtain ⟨g, dbg, m | ⟨m, v, nn⟩⟩ := hc
    · exact ld_glob (X := X.suite a ((a, o3) :: (X.pn ++ pins))) S3 g m q dbg
    · exact ld_blt (X := X.suite a ((a, o3) :: (X.pn ++ pins))) S3 g m v q nn dbg
  refine asked (fits.here ?_)
  cases b with
  | true =>
    refine codeAny_handlers_suite_as (HandSPX.lands_againZ f3 fun h4 f4 u4 => ?_)
    have J4 : Inv X pins σ' G { s' with heap := h4 } := J.landed nb' f4.1 ((up.trans u3).trans u4) os ag
    obtain ⟨o4, v4, g4, z4, d4⟩ := f4.there
    refine store_ok (X := X.suite a ((a, o4) :: (X.pn ++ pins))) (v := .ref a) (J4.suite g4 d4 na nL nF) hN hi (.inl hln) rfl (fun s5 S5 => ?_) (.inr hln)
    refine wpAny_mono ((hsu a o4 cls d (X.pn ++ pins) z4 ⟨_, d4⟩).run [] s5 _ G _ S5 (yes rfl a na)) (fun fl s6 r => ?_) fun _ _ z => z.elim
    cases fl with
    | next =>
      obtain ⟨σ6, G6, S6, q6⟩ := r
      exact gone_ok (keep_track S6 ok n0 nP z4 d4) hN hi hln fun s7 J7 => ⟨_, _, J7, q6⟩
    | brk =>
      obtain ⟨_, _, _, q6⟩ := r
      exact q6.elim
    | cont =>
      obtain ⟨_, _, _, q6⟩ := r
      exact q6.elim
    | ret u =>
      obtain ⟨_, _, _, _, _, q6⟩ := r
      exact q6.elim
  | false =>
    show wpAny _ X.A (handleBy (.ref a) X.env []) _ _ _
    refine wpAny_handleBy_nil ?_
    have f3' := f3
    obtain ⟨_, _, _, oe, ws, T, _, _, ge, _, de, te, _⟩ := f3'
    unfold PySem.passOn
    refine wpAny_bind (wpAny_field ge de te ?_)
    rw [if_neg (by simp)]
    have out : wpAny (model X.prog X.w) X.A (setFlight (.ref a) X.env.frame) (fun _ s4 => wpAny (model X.prog X.w) X.A (throw (.ref a) : Sem Flow) (SP X pins D) X.xe s4) X.xe { s' with heap := h3 } := by
      rw [hf]
      refine HandSPX.setFlight_upZ f3 fun h4 hold u4 => wpAny_throw (tk _ _ ?_)
      refine ⟨a, B, sI, pins, σ', G, cls, d, rfl, J, nb', (up.trans u3).trans u4, .inr (.inr ?_), na, os, ag, no rfl⟩
      rw [hs]
      exact hold
    first
      | exact wpAny_bind (wpAny_pure (wpAny_bind out))
      | exact wpAny_bind out
/-! isinstance of a kept error -/
theorem kit_kept {X : Cx} {pins : List (Addr × Obj)} {σ : L2.St} {H : Hp} {s : Shared} {a D : Addr} (I : Inv X pins σ H s) (C : ExcC X.K D) (e : H a = some (ExK (.ref D) none a)) : ∃ P : Heap → Prop, PySem.W.KitX X.K (.ref a) (.ref D) P ∧ P s.heap := by
  obtain ⟨⟨oe, vs, hg, hz, hd⟩, _, _⟩ := (show ObjOk X.prog X.w H s.heap a (ExK (.ref D) none a) from I.hok a _ e)
  have J : PySem.W.InstAt s.heap a oe D none := by
    obtain ⟨c1, c2, c3, c4⟩ := oe
    obtain ⟨z1, z2⟩ := hz
    dsimp only at z1 z2 hd
    subst z1 z2 hd
    exact ⟨hg, rfl, rfl, trivial⟩
  exact ⟨_, PySem.W.handS_kitx_exc C.hg C.hk C.hs C.hd C.ha C.hn C.ht C.hm, J⟩
def rIsK (K : PySem.W.Frag) : List V → Hp → VK → Prop := fun xs H Q => ∃ (a D : Addr) (c : V) (u : Value) (b : Bool), xs = [.ref a, c] ∧ H a = some (ExK (.ref D) none a) ∧ ExcC K D ∧ ClsV c u ∧ PySem.W.kitOne K (.ref D) u = some b ∧ Q (.bl b) H
theorem call_isK {X : Cx} : CallR X (.builtin "isinstance") (rIsK X.K) := by
  intro pins s σ H xs us Q I r h
  obtain ⟨a, D, c, u, b, rfl, ha, C, k, e, q⟩ := h
  obtain ⟨u1, u2, rfl, r1, r2⟩ := vals2 r
  cases (show u1 = Value.ref a from r1)
  cases k.eq r2
  obtain ⟨P, Z, p⟩ := kit_kept I C ha
  exact PySem.W.kia_one Z I.kIn p e (fun z => nomatch z) fun tk => ⟨.bl b, H, I.tok tk, rfl, q⟩
def rIsKT (K : PySem.W.Frag) : List V → Hp → VK → Prop := fun xs H Q => ∃ (a D tp : Addr) (cs : List V) (us : List Value) (b : Bool), xs = [.ref a, .ref tp] ∧ H a = some (ExK (.ref D) none a) ∧ ExcC K D ∧ H tp = some (.tup cs) ∧ Paired ClsV cs us ∧ PySem.W.kitAny K (.ref D) us = some b ∧ Q (.bl b) H
theorem call_isKT {X : Cx} : CallR X (.builtin "isinstance") (rIsKT X.K) := by
  intro pins s σ H xs us Q I r h
  obtain ⟨a, D, tp, cs, ws, b, rfl, ha, C, hT, k, e, q⟩ := h
  obtain ⟨u1, u2, rfl, r1, r2⟩ := vals2 r
  cases (show u1 = Value.ref a from r1)
  cases (show u2 = Value.ref tp from r2)
  obtain ⟨P, Z, p⟩ := kit_kept I C ha
  obtain ⟨_, its, rv, o, h1, h2, n, h3⟩ := (show ObjOk X.prog X.w H s.heap tp (.tup cs) from I.hok tp _ hT)
  cases ClsV.all k rv
  obtain ⟨oc, od, dt, sl⟩ := o
  simp only at h2 h3
  subst h2 h3
  exact PySem.W.kia_tup Z I.kIn p h1 e (fun z => nomatch z) fun tk => ⟨.bl b, H, I.tok tk, rfl, q⟩
theorem listK {X : Cx} {K : PySem.W.Frag} {tg e : Expr} {t : TE} (h : X.K = K) (he : PE X e t) : PI X tg e (iList K t) := by
  subst h
  exact pi_list he
theorem inK {X : Cx} {K : PySem.W.Frag} (h : X.K = K) : OpR X (compareOp .In) (rIn K false) := by
  subst h
  exact op_in_seq
/-! set(xs) of a list of numbers, with all that sorted() asks of it -/
abbrev noSet (w : World) : Obj := { cls := .type "set", dict := none, data := .set #[] 0 (.fresh 0 0 (!w.params.followText "set-order")) }
section
variable {P : Program} {w : World} {A : Around} {E : Value → Shared → Prop} {s : Shared}
theorem two_off {z l b : Nat} {h : Heap} {o : Obj} (hz : h.objs.size = z) (hb : b < z) : b ∉ [z, (h.push o).objs.size] := by
  rw [Heap.size_push, hz]
  intro hm
  rcases List.mem_cons.mp hm with e | hm
  · omega
  · have := List.mem_singleton.mp hm
    omega
set_option maxRecDepth 100000 in
set_option maxHeartbeats 3200000 in
theorem set_of_list {l : Addr} {xs : Array Value} (ns : List Int) {Q : Value → Shared → Prop} (hA : A.handled = none) (hl : s.heap.IsList l xs) (hi : IntsAre xs.toList ns) (hn : ns.length + 1 < scanBound)
    (fin : ∀ (h' : Heap) (tk c : Nat), SetR w h' s.heap.objs.size (fun j => decide (j ∈ ns)) c → c ≤ ns.length → (∀ b o, s.heap.get? b = some o → h'.get? b = some o) → Q (.ref s.heap.objs.size) { s with heap := h', toks := tk }) :
    wpAny (model P w) A (call (.type "set") [.ref l]) Q E s := by
  have size_eq : xs.size = ns.length := by
    have e := IntsAre.length hi
    rw [Array.length_toList] at e
    exact e
  obtain ⟨c₀, rest, mro₀⟩ := PySem.F.called_set.mro
  have made₀ := PySem.F.called_set.made
  have sub₀ := PySem.F.called_set.sub
  refine wpAny_call (codeAny_of_tree ?_)
  show wpAny _ _ (callAny (.type "set") _) _ _ _
  refine wpAny_pure ⟨Code.quiet_builtin _ (by decide +kernel), codeAny_builtin PySem.F.entry_type_call ?_⟩
  rw [Around.under_plain (weight_type_call_type "set" [.ref l] []) rfl]
  have nt₀ := PySem.F.called_set.notType
  have cc₀ := PySem.F.called_set.canCreate
  have tc₀ := PySem.F.typeCall_set_1 (.ref l)
  repeat (any_goals (first | assumption | wp_step))
  refine codeAny_mono (code_set_led1 (.ref l) (E := E) (Q₁ := fun obj t₁ => obj = .ref s.heap.objs.size ∧ t₁ = { s with heap := s.heap.push (noSet w) }) ⟨rfl, rfl⟩) fun r t₁ out => ?_
  cases r with
  | error e => exact out
  | ok fl =>
    cases fl with
    | ret obj =>
      obtain ⟨rfl, rfl⟩ := out
      have at₀ : (s.heap.push (noSet w)).get? s.heap.objs.size = some (noSet w) := Heap.get?_push_size _ rfl
      have ty₀ : Shared.TypeIs { s with heap := s.heap.push (noSet w) } (.ref s.heap.objs.size) "set" := ⟨_, at₀, rfl⟩
      have lk₀ := PySem.F.called_set.init.lookup
      have bd₀ := PySem.F.called_set.init.bind (.ref s.heap.objs.size)
      repeat (any_goals (first | assumption | wp_step))
      refine codeAny_mono (codeAny_call_builtin (R := wants (fun r t₂ => r = .none ∧ ∃ h' tk c, t₂ = { s with heap := h', toks := tk } ∧ SetR w h' s.heap.objs.size (fun j => decide (j ∈ ns)) c ∧ c ≤ ns.length ∧ (∀ b o, s.heap.get? b = some o → h'.get? b = some o)) E)
        PySem.F.called_set.init.plain PySem.F.entry_set_init (check_set_init_1 ty₀ ?_)) fun r₂ t₂ out₂ => ?_
      · obtain ⟨⟨kc, kd, kt, ks⟩, gl, cl, nl, dl⟩ := hl
        simp only at cl dl
        subst cl
        subst dl
        have lS : l < s.heap.objs.size := Heap.lt_size gl
        have gl' : (s.heap.push (noSet w)).get? l = some { cls := .type "list", dict := kd, data := .seq xs nl, slots := ks } := Heap.get?_push_of_some _ gl
        have no1 := PySem.F.sub_list_set
        have no2 := PySem.F.sub_list_frozenset
        have no3 : (Value.type "list" == Value.type "dict") = false := by decide
        have il : (s.heap.push (noSet w)).IsList l xs := ⟨_, gl', rfl, nl, rfl⟩
        unfold Builtin.«set.__init__» noKeywords Builtin.Frozenset.updateFrom
        generalize hPI : pyIter = PI
        wp_walk
        subst hPI
        refine wpAny_pyIter_list il (wpAny_bind (wpAny_runValue ?_))
        have hA3 : A.in1.in1.in1.handled = none := by simp [hA]
        have lI : l ≠ (s.heap.push (noSet w)).objs.size := by
          rw [Heap.size_push]
          exact Nat.ne_of_lt (Nat.lt_succ_of_lt lS)
        have offS : s.heap.objs.size ∉ [(s.heap.push (noSet w)).objs.size, l] := by
          rw [Heap.size_push]
          intro hm
          rcases List.mem_cons.mp hm with e | hm
          · exact absurd e (Nat.ne_of_lt (Nat.lt_succ_self _))
          · exact absurd (List.mem_singleton.mp hm) (Nat.ne_of_gt lS)
        have vals : ∀ (i : Nat) (v : Value), xs[i]? = some v → ∃ k t, ns[i]? = some k ∧ v = .int k t := fun i v hv => by
          have lt : i < ns.length := by
            rw [← size_eq]
            exact (Array.getElem?_eq_some_iff.mp hv).1
          obtain ⟨t, e⟩ := IntsAre.int_at hi i v (by rw [Array.getElem?_toList]; exact hv)
          exact ⟨ns.getD i 0, t, getD_at lt, e⟩
        refine set_update_ints ((Walks.list hA3 _ l lI xs).toS) s.heap.objs.size offS ns size_eq hn vals (xs.size - 0) 0 _ (by omega) (Nat.zero_le _) ⟨⟨_, Heap.get?_push_size _ rfl, rfl, rfl⟩, (il.push _)⟩
          ⟨0, Nat.le_refl 0, setR_new_at (Heap.get?_push_of_some _ at₀)⟩ fun t' c' moved small R' => ?_
        obtain ⟨h', g', d', tk', os'⟩ := t'
        have e1 : g' = s.gens := moved.gens
        have e2 : d' = s.drawn := moved.drawn
        have e3 : os' = s.os := moved.os
        subst e1
        subst e2
        subst e3
        show wpAny _ _ _ _ _ _
        refine wpAny_pure ?_
        show wpAny _ _ (ret Value.none) _ _ _
        rw [size_eq] at small
        exact wpAny_pure ⟨rfl, h', tk', c', rfl, R', small, fun b o e => moved.heap b o (two_off (l := l) rfl (Heap.lt_size e)) (Heap.get?_push_of_some _ (Heap.get?_push_of_some _ e))⟩
      · cases r₂ with
        | error e => exact out₂
        | ok fl₂ =>
          cases fl₂ with
          | ret r =>
            obtain ⟨rfl, h', tk, c', rfl, R', small, kept⟩ := out₂
            repeat (any_goals (first | assumption | wp_step))
            exact fin _ _ _ R' small kept
          | _ => exact out₂.elim
    | _ => exact out.elim
end
def rSetL (K : PySem.W.Frag) (w : World) : List V → Hp → VK → Prop := fun vs H Q => ∃ (l : Addr) (ns : List Int), vs = [V.ref l] ∧ SqL K H l (ns.map V.int) ∧ ns.length ≤ 1000 ∧ ∀ (p : Addr) (c : Nat), H p = none → c ≤ ns.length → Q (.ref p) (upd H p (SetO w p (fun j => decide (j ∈ ns)) c))
theorem cr_setL {X : Cx} (hc : X.calm = true) : CallR X (.type "set") (rSetL X.K X.w) := by
  intro pins s σ H xs us Q I r h
  obtain ⟨l, ns, rfl, hq, hl, q⟩ := h
  rw [Vals.ref1 r]
  obtain ⟨its, rv, pl, _⟩ := I.list hq
  refine set_of_list ns (I.ok.hd hc) pl.isList (by simpa using intsAre_of rv) (by unfold scanBound; omega) fun h' tk c R small kept => ?_
  exact ⟨.ref _, upd H s.heap.objs.size (SetO X.w s.heap.objs.size (fun j => decide (j ∈ ns)) c), I.laid (t' := tk) kept (Nat.le_refl _) (setO_new R), rfl, q _ c (I.hok.fresh (Nat.le_refl _)) small⟩
theorem setLW {X : Cx} {K : PySem.W.Frag} {w : World} (hK : X.K = K) (hw : X.w = w) (hc : X.calm = true) : CallR X (.type "set") (rSetL K w) := by
  subst hK hw
  exact cr_setL hc
theorem sortedW {X : Cx} {w : World} (hw : X.w = w) (hc : X.calm = true) : CallR X (.builtin "sorted") (rSortedSet w) := by
  subst hw
  exact cr_sortedSet hc
/-! len({len(row) for row in rows}) -/
def cnt (ls : List Int) : Nat := (ls.foldl (fun (st : List Int × Nat) k => (st.1 ++ [k], if k ∈ st.1 then st.2 else st.2 + 1)) ([], 0)).2
theorem cnt_fst (ls : List Int) : ∀ (a : List Int) (n : Nat), (ls.foldl (fun (st : List Int × Nat) k => (st.1 ++ [k], if k ∈ st.1 then st.2 else st.2 + 1)) (a, n)).1 = a ++ ls := by
  induction ls with
  | nil => intro a n; rw [List.append_nil]; rfl
  | cons x r ih =>
    intro a n
    rw [List.foldl_cons, ih, List.append_assoc]
    rfl
theorem cnt_snoc (ls : List Int) (k : Int) : cnt (ls ++ [k]) = if k ∈ ls then cnt ls else cnt ls + 1 := by
  unfold cnt
  rw [List.foldl_append]
  show (if k ∈ (ls.foldl _ ([], 0)).1 then _ else _) = _
  rw [cnt_fst]
  rfl
theorem cnt_le (ls : List Int) : cnt ls ≤ ls.length := by
  rw [← List.reverse_reverse ls]
  induction ls.reverse with
  | nil => exact Nat.le_refl 0
  | cons x r ih =>
    rw [List.reverse_cons, cnt_snoc, List.length_append]
    split
    · exact Nat.le_trans ih (Nat.le_add_right _ _)
    · exact Nat.succ_le_succ ih
theorem lenB : bootBuiltins "len" = some (.builtin "len") := PySem.boot_len
theorem pe_lenSC {X : Cx} {i : Nat} {x r : Str} {scope : Scope} {p1 p2 p3 p4 p5 p6 p7 p8 : Pos} (hgl : Gl X "len") (hm : X.mg "len" = none) (hc : X.calm = true) (hN : X.N[i]? = some r) (hv : Vis X.env.scope r) (hk : scope.kind = .function)
    (hcell : ∀ y ∈ scope.names, y.2 ≠ .cell) (hnm : ∀ y ∈ scope.names, y.2 = .local → scope.names.lookup y.1 = some .local) (hfr : ∀ y ∈ scope.names, y.2 ≠ .free) (hx : scope.names.lookup x = some .local) (hl : (relabel scope X.env).names.lookup ("len" : Str) = some .globalImplicit)
    (hd : (x == ("__debug__" : Str)) = false := by decide) (hd2 : (r == ("__debug__" : Str)) = false := by decide) (hd3 : (r == ("__classdict__" : Str)) = false := by decide)
    (he : starEach [.SetComp (.Call (.Name "len" p2) [.Name x p3] [] p4) [⟨.Name x p5, .Name r p6, [], 0⟩] scope p7] X.env = (false, eval (.SetComp (.Call (.Name "len" p2) [.Name x p3] [] p4) [⟨.Name x p5, .Name r p6, [], 0⟩] scope p7) X.env) :: starEach [] X.env := by rfl) :
    PE X (.Call (.Name "len" p1) [.SetComp (.Call (.Name "len" p2) [.Name x p3] [] p4) [⟨.Name x p5, .Name r p6, [], 0⟩] scope p7] [] p8)
      (fun σ H Q => ∃ (l : Addr) (as : List (Addr × List V)), σ[i]? = some (some (.ref l)) ∧ H l = some (.lst (as.map fun q => V.ref q.1)) ∧ as.length ≤ 8 ∧ (∀ q ∈ as, H q.1 = some (.tup q.2)) ∧ Q (.int ((cnt (as.map fun q => ((q.2.length : Nat) : Int)) : Nat))) H) := by
  refine ⟨fun pins s σ H Q I h => ?_⟩
  obtain ⟨l, as, hσ, hH, hln, hts, q⟩ := h
  have hh := I.ok.hd hc
  have hsl : sizeLine = 16777216 := by decide
  have hsb : 100 < scanBound := by decide
  refine wpAny_Call_Name_kw (ld_blt I hgl hm lenB ?_)
  refine PyProof.Rows.callWith_builtin1 ?_ he (by rfl)
  rw [he]
  show wpAny _ _ (spliced ((false, eval (.SetComp (.Call (.Name "len" p2) [.Name x p3] [] p4) [⟨.Name x p5, .Name r p6, [], 0⟩] scope p7) X.env) :: backTo p8 (starEach [] X.env))) _ _ s
  refine Calls.spliced_cons (SetComp_goes (closure_ok fun y hy e => absurd e (hfr y hy)) hcell hk hnm ?_ (by intro _; rfl))
  refine thn ((pe_var (pos := p6) hN hv hd2 hd3).run pins s σ H (fun v H1 => v = .ref l ∧ H1 = H) I ⟨_, hσ, rfl, rfl⟩) fun xv s1 ⟨v, H1, I1, r1, e1, e2⟩ => ?_
  subst e1 e2
  obtain rfl : xv = Value.ref l := r1
  obtain ⟨its, rv, pl, _⟩ := I1.list (show SqL X.K H1 l _ from .inl (.inl hH))
  have hIL := pl.isList
  have hlt : l < s1.heap.objs.size := by
    obtain ⟨o, ho, _⟩ := hIL
    exact Heap.lt_size ho
  refine wpAny_pyIter_list hIL ?_
  generalize hs2 : ({ s1 with heap := s1.heap.push { cls := .type "list_iterator", data := .fields #[.ref l, .int 0 0] } } : Shared) = s2
  have k12 : ∀ b o, s1.heap.get? b = some o → s2.heap.get? b = some o := fun b o e => by
    rw [← hs2]
    exact Heap.get?_push_of_some _ e
  have hit : s2.heap.IsListIter s1.heap.objs.size l 0 := by
    rw [← hs2]
    exact ⟨_, Heap.get?_push_size _ rfl, rfl, rfl⟩
  have z2 : s2.heap.objs.size = s1.heap.objs.size + 1 := by
    rw [← hs2]
    exact Heap.size_push ..
  have os2 : s2.os = s1.os ∧ s2.gens = s1.gens ∧ s2.drawn = s1.drawn := by
    rw [← hs2]
    exact ⟨rfl, rfl, rfl⟩
  have len : its.length = as.length := by rw [← rv.length, List.length_map]
  refine ⟨s1.heap.objs.size, _, _, _, _, _, rfl, Goes.list hh s1.heap.objs.size l (Nat.ne_of_lt hlt) its.toArray, ⟨hit, hIL.at fun o e => k12 _ o e⟩, fun D C s3 hB hD => ?_⟩
  obtain ⟨⟨h3, tk3, rfl⟩, old, nD, nC, hDC, hns⟩ := hB
  let ls : List Int := as.map fun q => ((q.2.length : Nat) : Int)
  have hls : ls.length = as.length := List.length_map ..
  have ltD : s1.heap.objs.size < D := by
    have h9 : s2.heap.objs.size ≤ D := nD
    exact Nat.lt_of_lt_of_le (by rw [z2]; exact Nat.lt_succ_self _) h9
  have ltC : s1.heap.objs.size < C := by
    have h9 : s2.heap.objs.size ≤ C := nC
    exact Nat.lt_of_lt_of_le (by rw [z2]; exact Nat.lt_succ_self _) h9
  refine ⟨fun i s' => ∃ h' tk m, s' = { s2 with heap := h', toks := tk } ∧ h'.Ns C m ∧ SetR X.w h' D (fun k => decide (k ∈ ls.take i)) (cnt (ls.take i)) ∧ ∀ b o, s1.heap.get? b = some o → h'.get? b = some o, ⟨h3, tk3, _, rfl, hns, ?_, fun b o e => old b o (k12 b o e)⟩, ?_, ?_, ?_⟩
  · refine ⟨_, #[], 0, _, hD, ⟨rfl, rfl, rfl⟩, rfl, (fun e he => by simp at he), (by simp), (fun k => by simp), (by decide), (by rfl), rfl, List.Pairwise.nil, ?_⟩
    show _ ∨ (!X.w.params.followText "set-order") = true
    cases X.w.params.followText "set-order" with
    | false => exact .inr rfl
    | true => exact .inl rfl
  · rintro i s' h' tk ⟨h4, tk4, m, rfl, n4, R4, k4⟩ hk' _
    have off : ∀ b : Addr, b ≠ s1.heap.objs.size → b ∉ [s1.heap.objs.size] := fun b hb hm => hb (List.mem_singleton.mp hm)
    exact ⟨h', tk, m, rfl, n4.at' fun o e => hk' _ o (off _ (Nat.ne_of_gt ltC)) e, R4.at fun o e => hk' _ o (off _ (Nat.ne_of_gt ltD)) e, fun b o e => hk' b o (off _ (Nat.ne_of_lt (Heap.lt_size e))) (k4 b o e)⟩
  · rintro i v s' hi hv st ⟨h4, tk4, m, rfl, n4, R4, k4⟩
    have hv2 : its[i]? = some v := by simpa using hv
    have hi2 : i < as.length := by
      have := (List.getElem?_eq_some_iff.mp hv2).1
      omega
    have ga : (as.map fun q => V.ref q.1)[i]? = some (V.ref as[i].1) := by
      rw [List.getElem?_map, List.getElem?_eq_getElem hi2]
      rfl
    obtain ⟨u, hu, ru⟩ := rv.get ga
    rw [hv2] at hu
    cases hu
    obtain rfl : v = Value.ref as[i].1 := ru
    have hti := hts as[i] (List.getElem_mem hi2)
    obtain ⟨its2, rv2, it2, hz2⟩ := I1.tuple (show SqT X.K H1 as[i].1 _ from .inl (.inl hti))
    have hkx : (compEnvC scope (cloFrom X.env.cells scope.names []) C X.env).kindOf x = some .local := lookup_relabel_local hx
    have hp : ((compEnvC scope (cloFrom X.env.cells scope.names []) C X.env).scope.kind == .class || ((compEnvC scope (cloFrom X.env.cells scope.names []) C X.env).scope.kind == .module && (compEnvC scope (cloFrom X.env.cells scope.names []) C X.env).locals != (compEnvC scope (cloFrom X.env.cells scope.names []) C X.env).globals)) = false := by
      show (scope.kind == .class || (scope.kind == .module && _)) = false
      rw [hk]
      rfl
    refine wpAny_assign_Name (wpAny_storeName_local hkx n4 (fun h5 n5 s5 => ?_) hp)
    have k5 : ∀ b o, b ≠ C → h4.get? b = some o → h5.get? b = some o := fun b o hb e => (s5.2 b hb).trans e
    have k15 : ∀ b o, s1.heap.get? b = some o → h5.get? b = some o := fun b o e => k5 b o (Nat.ne_of_lt (Nat.lt_trans (Heap.lt_size e) ltC)) (k4 b o e)
    refine wpAny_tests_nil ?_
    rw [if_pos rfl]
    obtain ⟨mb, b1, b2⟩ := I1.mod.blt
    have up : ∀ {a : Addr} {m : Str → Option Value}, X.base.Ns a m → h5.Ns a m := fun n => (n.keeps I1.bk).keeps k15
    refine wpAny_Call_Name_kw (Calls.Name_function_global hk hl (Calls.loadGlobal_builtin (show h5.Ns X.env.globals X.mg by rw [I1.ok.glob]; exact up I1.mod.glob) hm (show h5.Ns X.env.builtins mb by rw [I1.ok.blt]; exact up b1) ((b2 "len" (by decide)).trans lenB) ?_))
    refine PyProof.Rows.callWith_builtin1 ?_ rfl rfl
    refine Calls.spliced_cons (wpAny_Name (wpAny_loadName_local hk hkx n5 (by rw [if_pos rfl]) ?_) hd)
    refine Calls.spliced_nil ?_
    obtain ⟨ot, hot, rest⟩ := it2
    refine len_tuple (items := its2.toArray) ⟨ot, k15 _ _ hot, rest⟩ (by simp only [List.size_toArray]; have := rv2.length; omega) ?_
    have R5 : SetR X.w h5 D (fun k => decide (k ∈ ls.take i)) (cnt (ls.take i)) := R4.at fun o e => k5 _ o hDC e
    have gl : ls[i]? = some ((its2.toArray.size : Nat) : Int) := by
      show (as.map _)[i]? = _
      rw [List.getElem?_map, List.getElem?_eq_getElem hi2, List.size_toArray, ← rv2.length]
      rfl
    refine setR_add R5 ?_ fun h6 sb6 new => ?_
    · have := cnt_le (ls.take i)
      rw [List.length_take] at this
      omega
    · have tk1 : ls.take (i + 1) = ls.take i ++ [((its2.toArray.size : Nat) : Int)] := by
        rw [List.take_add_one, gl]
        rfl
      have k6 : ∀ b o, b ≠ D → h5.get? b = some o → h6.get? b = some o := fun b o hb e => (sb6.2 b hb).trans e
      refine ⟨⟨h6, _, _, rfl, n5.at' fun o e => k6 _ o (Ne.symm hDC) e, ?_, fun b o e => k6 b o (Nat.ne_of_lt (Nat.lt_trans (Heap.lt_size e) ltD)) (k15 b o e)⟩, ?_⟩
      · rw [tk1, cnt_snoc]
        have e1 : (if decide (((its2.toArray.size : Nat) : Int) ∈ ls.take i) = true then cnt (ls.take i) else cnt (ls.take i) + 1) = (if ((its2.toArray.size : Nat) : Int) ∈ ls.take i then cnt (ls.take i) else cnt (ls.take i) + 1) := by
          by_cases z : ((its2.toArray.size : Nat) : Int) ∈ ls.take i
          · rw [if_pos z, if_pos (decide_eq_true z)]
          · rw [if_neg z, if_neg (fun y => z (of_decide_eq_true y))]
        rw [← e1]
        refine new.congr fun k => ?_
        rw [Bool.eq_iff_iff]
        simp
      · have a1 : s1.heap.objs.size ≠ C := Nat.ne_of_lt ltC
        have a2 : s1.heap.objs.size ≠ D := Nat.ne_of_lt ltD
        have a3 : l ≠ C := Nat.ne_of_lt (Nat.lt_trans hlt ltC)
        have a4 : l ≠ D := Nat.ne_of_lt (Nat.lt_trans hlt ltD)
        exact ⟨st.1.at fun o e => k6 _ o a2 (k5 _ o a1 e), st.2.at fun o e => k6 _ o a4 (k5 _ o a3 e)⟩
  · rintro s' ⟨h4, tk4, m, rfl, n4, R4, k4⟩
    refine ⟨m, n4, fun h5 sb => ?_⟩
    refine Calls.spliced_nil ?_
    have k5 : ∀ b o, b ≠ C → h4.get? b = some o → h5.get? b = some o := fun b o hb e => (sb.2 b hb).trans e
    obtain ⟨o, es, ep, t, ho, hx9, hd9, _, _, _, hb9, hf9, hn9, _⟩ := R4
    have el : ls.take its.toArray.size = ls := List.take_of_length_le (by rw [List.size_toArray, len, hls]; exact Nat.le_refl _)
    rw [el] at hn9
    have sm := cnt_le ls
    refine call_len_set (k5 _ _ hDC ho) hx9 hd9 hf9 (by omega) ?_
    subst hs2
    refine ⟨.int _, H1, I1.kept fun b u e => k5 b u (Nat.ne_of_lt (Nat.lt_trans (Heap.lt_size e) ltC)) (k4 b u e), ⟨tk4 + 1, by rw [hn9]⟩, q⟩
/-! the program: rows of one length, or a refusal -/
theorem cnt_pos : ∀ (rs : List Int), rs ≠ [] → 1 ≤ cnt rs.reverse
  | [], h => absurd rfl h
  | x :: r, _ => by
    rw [List.reverse_cons, cnt_snoc]
    by_cases z : x ∈ r.reverse
    · rw [if_pos z]
      exact cnt_pos r fun e => by
        rw [e] at z
        cases z
    · rw [if_neg z]
      omega
theorem cnt_two : ∀ (rs : List Int) (c d : Int), c ∈ rs → d ∈ rs → c ≠ d → 2 ≤ cnt rs.reverse
  | [], _, _, h, _, _ => by cases h
  | x :: r, c, d, hc, hd, hne => by
    rw [List.reverse_cons, cnt_snoc]
    by_cases z : x ∈ r.reverse
    · rw [if_pos z]
      have inn : ∀ y, y ∈ x :: r → y ∈ r := fun y hy => by
        rcases List.mem_cons.mp hy with rfl | hy
        · exact List.mem_reverse.mp z
        · exact hy
      exact cnt_two r c d (inn c hc) (inn d hd) hne
    · rw [if_neg z]
      have hr : r ≠ [] := fun e => by
        subst e
        rw [List.mem_singleton.mp hc, List.mem_singleton.mp hd] at hne
        exact hne rfl
      have := cnt_pos r hr
      omega
theorem cnt_diff {ls : List Int} {c d : Int} (hc : c ∈ ls) (hd : d ∈ ls) (hne : c ≠ d) : 1 < cnt ls := by
  have := cnt_two ls.reverse c d (List.mem_reverse.mpr hc) (List.mem_reverse.mpr hd) hne
  rw [List.reverse_reverse] at this
  omega
theorem cnt_same {ls : List Int} {c : Int} (h : ∀ x, x ∈ ls → x = c) (hne : ls ≠ []) : cnt ls = 1 := by
  have aux : ∀ (rs : List Int), (∀ x, x ∈ rs → x = c) → rs ≠ [] → cnt rs.reverse = 1 := by
    intro rs
    induction rs with
    | nil => intro _ z; exact absurd rfl z
    | cons x r ih =>
      intro hr _
      rw [List.reverse_cons, cnt_snoc]
      by_cases z : r = []
      · subst z
        rfl
      · have hx : x = c := hr x List.mem_cons_self
        have h1 : ∀ y, y ∈ r → y = c := fun y hy => hr y (List.mem_cons_of_mem _ hy)
        obtain ⟨y, t, e⟩ : ∃ y t, r = y :: t := by
          cases r with
          | nil => exact absurd rfl z
          | cons y t => exact ⟨y, t, rfl⟩
        have hm : x ∈ r.reverse := by
          rw [List.mem_reverse, e, hx, ← h1 y (by rw [e]; exact List.mem_cons_self)]
          exact List.mem_cons_self
        rw [if_pos hm]
        exact ih h1 z
  have := aux ls.reverse (fun x hx => h x (List.mem_reverse.mp hx)) (fun z => hne (List.reverse_eq_nil_iff.mp z))
  rw [List.reverse_reverse] at this
  exact this
def sp_refuse_unlike {K : PySem.W.Frag} {mg : Str → Option Value} (T : Defs K mg) : Sp := fun vs H Q E => ∃ (l : Addr) (as : List (Addr × List V)), vs = [.ref l] ∧ H l = some (.lst (as.map fun q => V.ref q.1)) ∧ as.length ≤ 8 ∧ as ≠ [] ∧ (∀ q ∈ as, H q.1 = some (.tup q.2)) ∧
  (((∃ n : Nat, ∀ q ∈ as, q.2.length = n) ∧ Q .non H) ∨ ((∃ p q, p ∈ as ∧ q ∈ as ∧ p.2.length ≠ q.2.length) ∧ E (.ref T.C_Unlike) none H))
theorem ok_refuse_unlike (T : Defs K mg) : FnOk P w K mg base (L2.CX P w) 1 T.f_refuse_unlike T.fd_refuse_unlike ["rows"] (sp_refuse_unlike T) := by
  refine okX T.F_refuse_unlike sc_refuse_unlike (fun vs H Q E h => ?_) (fun cdv A outer s H vs Q E hr h => ?_)
  · obtain ⟨l, as, rfl, hl, hn, hne, hts, h⟩ := h
    rfl
  · obtain ⟨l, as, rfl, hl, hn, hne, hts, h⟩ := h
    refine ⟨_, (pss_one (ps_if (pt_cmpR op_gt (pe_lenSC (i := 0) (by rfl) T.m_len rfl rfl (.inl rfl) rfl (by decide +kernel) (by decide +kernel) (by decide +kernel) rfl rfl) pe_int (nomark _)) (pss_one (ps_raise rfl (takes_of (E := E) rfl rfl rfl rfl) (pmk_own PySem.F.excBase_ValueError T.xi_Unlike T.g_Unlike T.xk_Unlike (raises_own T.xs_Unlike T.xt_Unlike) (by rfl)))) pss_nil)), ?_⟩
    refine ⟨l, as, rfl, hl, hn, hts, _, _, rfl, rfl, _, rfl, ?_⟩
    rcases h with ⟨⟨n, heq⟩, q⟩ | ⟨⟨p1, p2, m1, m2, hd⟩, q⟩
    · rw [cnt_same (c := (n : Int)) (fun x hx => by
        obtain ⟨p, hp, rfl⟩ := List.mem_map.mp hx
        rw [heq p hp]) (fun z => hne (List.map_eq_nil_iff.mp z))]
      exact iteF q
    · have big := cnt_diff (ls := as.map fun q => ((q.2.length : Nat) : Int)) (List.mem_map.mpr ⟨p1, m1, rfl⟩) (List.mem_map.mpr ⟨p2, m2, rfl⟩) (by omega)
      refine ite2 (fun _ => q) (fun z => absurd (decide_eq_true ?_) z)
      show (1 : Int) < _
      omega
/-! bits that are kept -/
def Two (H : Hp) (a b : Addr) (rs ss : List Int) : Prop := H a = some (.tup (rs.map V.int)) ∧ H b = some (.tup (ss.map V.int)) ∧ Bits rs ∧ Bits ss
theorem Two.same {H H' : Hp} {a b : Addr} {rs ss : List Int} (h : Two H a b rs ss) (s : Same H H') : Two H' a b rs ss := ⟨s _ _ h.1, s _ _ h.2.1, h.2.2⟩
/-- what is held behind i places -/
def kh (f : Int) (us ls : List Int) : Nat → Int
  | 0 => f
  | i + 1 => if ls.getD i 0 = 1 then us.getD i 0 else kh f us ls i
def kpL (f : Int) (us ls : List Int) (n : Nat) : List Int := (List.range n).map fun i => kh f us ls (i + 1)
theorem kpL_len (f : Int) (us ls : List Int) (n : Nat) : (kpL f us ls n).length = n := by
  unfold kpL
  rw [List.length_map, List.length_range]
theorem kpL_succ (f : Int) (us ls : List Int) (n : Nat) : (kpL f us ls (n + 1)).map V.int = (kpL f us ls n).map V.int ++ [V.int (kh f us ls (n + 1))] := by
  unfold kpL
  rw [List.range_succ, List.map_append, List.map_append]
  rfl
theorem kpL_get {f : Int} {us ls : List Int} {n i : Nat} (h : i < n) : (kpL f us ls n)[i]? = some (kh f us ls (i + 1)) := by
  unfold kpL
  rw [List.getElem?_map, List.getElem?_range h]
  rfl
theorem get_of {rs : List Int} {x : V} {i : Nat} (h : (rs.map V.int)[i]? = some x) : x = .int (rs.getD i 0) ∧ i < rs.length := by
  rw [List.getElem?_map] at h
  obtain ⟨t, ht, rfl⟩ := Option.map_eq_some_iff.mp h
  rw [List.getD_eq_getElem?_getD, ht]
  exact ⟨rfl, (List.getElem?_eq_some_iff.mp ht).1⟩
theorem walk_zipT {K : PySem.W.Frag} {a b : Addr} {xs ys : List V} {n : Nat} (hn : n = min xs.length ys.length) : Walk (RZ.ItzT K a b) n (fun H => SqT K H a xs ∧ SqT K H b ys) (YPair (fun i => xs[i]?) (fun i => ys[i]?)) := by
  subst hn
  refine ⟨fun i H hi q => ?_, fun H q => ⟨xs, ys, q.1, q.2, by omega⟩, fun i H v H' _ q y => ?_⟩
  · exact ⟨xs, ys, xs[i]'(by omega), ys[i]'(by omega), q.1, q.2, List.getElem?_eq_getElem _, List.getElem?_eq_getElem _⟩
  · obtain ⟨T, x, y, e1, e2, e3, f1, f2⟩ := y
    exact ⟨T, x, y, e1, e2, e3, f1 _ q.1, f2 _ q.2⟩
def sp_kept {K : PySem.W.Frag} {mg : Str → Option Value} (T : Defs K mg) : Sp := fun vs H Q E => ∃ (a b : Addr) (rs ss : List Int) (f : Int), vs = [.ref a, .ref b, .int f] ∧ Two H a b rs ss ∧ rs.length ≤ 100000 ∧
  ((rs.length = ss.length ∧ ∀ H' p, Same H H' → H p = none → H' p = some (.tup ((kpL f rs ss rs.length).map V.int)) → Q (.ref p) H') ∨ (rs.length ≠ ss.length ∧ ∀ H', Same H H' → E (.ref T.C_Unlike) none H'))
theorem ok_kept (T : Defs K mg) : FnOk P w K mg base (L2.CX P w) 2 T.f_kept T.fd_kept ["upper", "lower", "first"] (sp_kept T) := by
  have G_refuse_unlike : FnOk P w K mg base (L2.CX P w) 1 T.f_refuse_unlike T.fd_refuse_unlike ["rows"] (sp_refuse_unlike T) := ok_refuse_unlike T
  refine okX T.F_kept sc_kept (fun vs H Q E h => ?_) (fun cdv A outer s H vs Q E hr h => ?_)
  · obtain ⟨a, b, rs, ss, f, rfl, ⟨ha, hb, br, bs⟩, hz, h⟩ := h
    rfl
  · obtain ⟨a, b, rs, ss, f, rfl, ⟨ha, hb, br, bs⟩, hz, h⟩ := h
    refine ⟨_, (pss_cons (ps_expr (pe_call (E := E) G_refuse_unlike (hr.mono (by decide)) (by rfl) T.g_refuse_unlike T.F_refuse_unlike.kp T.b_refuse_unlike .nil (passes_call (takes_of rfl rfl rfl rfl) (fun _ _ _ _ h => h)) (pa_cons (pe_lst (pa_cons (pv 0) (pa_cons (pv 1) pa_nil))) pa_nil)))
    (pss_cons (ps_set (i := 3) sc_kept.nd rfl (.inl rfl) (pe_lst pa_nil))
    (pss_cons (ps_set (i := 4) sc_kept.nd rfl (.inl rfl) (pv 2))
    (pss_cons (ps_for (passes_of rfl) rfl (RZ.pi_zipA (by rfl) T.m_zip (pa_cons (pv 0) (pa_cons (pv 1) pa_nil))) (pg_tup rfl (pgs_cons (pg_name (i := 5) sc_kept.nd rfl (.inl rfl)) (pgs_cons (pg_name (i := 6) sc_kept.nd rfl (.inl rfl)) pgs_nil))) (pss_cons (ps_if (pt_cmpR op_eq (pv 6) pe_int (nomark _)) (pss_one (ps_set (i := 4) sc_kept.nd rfl (.inl rfl) (pv 5))) pss_nil)
    (pss_one (ps_expr (pe_bm PySem.F.plainAttrs_list PySem.F.slot_list_append PySem.F.type_list_append mt_append (pv 3) (pa_cons (pv 4) pa_nil))))))
    (pss_one (ps_ret (pe_callTy call_tuple_of (by rfl) T.m_tuple bt_tuple (pa_cons (pv 3) pa_nil)))))))), ?_⟩
    have hsl : sizeLine = 16777216 := by decide
    refine ⟨.ref a, rfl, .ref b, rfl, (show 2 ≤ sizeLine by decide), fun l nl => ?_⟩
    have s1 : Same H (upd H l (.lst [.ref a, .ref b])) := same_upd nl
    refine ⟨l, [(a, rs.map V.int), (b, ss.map V.int)], rfl, upd_same, (show 2 ≤ 8 by decide), by simp, ?_, ?_⟩
    · intro p hp
      rcases List.mem_cons.mp hp with rfl | hp
      · exact s1 _ _ ha
      · rw [List.mem_singleton.mp hp]
        exact s1 _ _ hb
    rcases h with ⟨hl, q⟩ | ⟨hl, q⟩
    rotate_left
    · refine .inr ⟨⟨(a, rs.map V.int), (b, ss.map V.int), List.mem_cons_self, List.mem_cons_of_mem _ List.mem_cons_self, ?_⟩, q _ s1⟩
      show (rs.map V.int).length ≠ (ss.map V.int).length
      rw [List.length_map, List.length_map]
      exact hl
    refine .inl ⟨⟨rs.length, fun p hp => ?_⟩, ?_⟩
    · rcases List.mem_cons.mp hp with rfl | hp
      · exact List.length_map ..
      · rw [List.mem_singleton.mp hp, hl]
        exact List.length_map ..
    generalize upd H l (.lst [.ref a, .ref b]) = H1 at s1 ⊢
    have ha1 := s1 _ _ ha
    have hb1 := s1 _ _ hb
    refine ⟨(show 0 ≤ sizeLine by decide), fun D nD => ?_⟩
    have s2 : Same H (upd H1 D (.lst [])) := s1.trans (same_upd nD)
    have nD0 : H D = none := s1.free nD
    refine ⟨.int f, rfl, ?_⟩
    refine ⟨.ref a, rfl, .ref b, rfl, a, b, _, _, rfl, .inr ⟨SqT.mk (s2 _ _ ha), SqT.mk (s2 _ _ hb), for_it (walk_zipT (n := rs.length) (xs := rs.map V.int) (ys := ss.map V.int) (by rw [List.length_map, List.length_map, ← hl, Nat.min_self])) (fun i σ G => ∃ y5 y6, σ = [some (.ref a), some (.ref b), some (.int f), some (.ref D), some (.int (kh f rs ss i)), y5, y6] ∧ Same H G ∧ G D = some (.lst ((kpL f rs ss i).map V.int))) ⟨none, none, rfl, s2, upd_same⟩ ?_ ?_ ?_⟩⟩
    · rintro i σ G hi ⟨y5, y6, rfl, sG, hD⟩
      exact ⟨SqT.mk (sG _ _ ha), SqT.mk (sG _ _ hb)⟩
    · rintro i x σ G G2 hi ⟨y5, y6, rfl, sG, hD⟩ ⟨t, x1, x2, rfl, nt, rfl, e1, e2⟩
      obtain ⟨rfl, _⟩ := get_of e1
      obtain ⟨rfl, _⟩ := get_of e2
      refine ⟨t, _, rfl, SqT.mk upd_same, rfl, _, _, rfl, _, _, rfl, rfl, ?_⟩
      have sG2 : Same H (upd G t (.tup [.int (rs.getD i 0), .int (ss.getD i 0)])) := sG.trans (same_upd nt)
      have hD2 := (same_upd nt (o := .tup [.int (rs.getD i 0), .int (ss.getD i 0)])) _ _ hD
      generalize upd G t (.tup [.int (rs.getD i 0), .int (ss.getD i 0)]) = G2 at sG2 hD2 ⊢
      refine ⟨_, rfl, rfl, _, rfl, ite2 (fun e => ?_) (fun e => ?_)⟩
      · have e1 : ss.getD i 0 = 1 := V.int.inj (of_decide_eq_true e)
        have ek : kh f rs ss (i + 1) = rs.getD i 0 := if_pos e1
        refine ⟨_, rfl, ?_⟩
        refine ⟨.ref D, rfl, .inl ⟨rfl, _, SqL.mk hD2⟩, _, rfl, D, _, _, rfl, rfl, hD2, by rw [List.length_map, kpL_len]; omega, ?_⟩
        refine ⟨_, _, by rw [ek]; rfl, same_newer sG2 nD0, ?_⟩
        rw [upd_same, kpL_succ, ek]
      · have e1 : ¬ ss.getD i 0 = 1 := fun z => e (decide_eq_true (by rw [z]))
        have ek : kh f rs ss (i + 1) = kh f rs ss i := if_neg e1
        refine ⟨.ref D, rfl, .inl ⟨rfl, _, SqL.mk hD2⟩, _, rfl, D, _, _, rfl, rfl, hD2, by rw [List.length_map, kpL_len]; omega, ?_⟩
        refine ⟨_, _, by rw [ek]; rfl, same_newer sG2 nD0, ?_⟩
        rw [upd_same, kpL_succ, ek]
    · rintro σ G ⟨y5, y6, rfl, sG, hD⟩
      refine ⟨.ref D, rfl, D, _, rfl, .inl ⟨SqL.mk hD, fun p np => ?_⟩⟩
      exact q _ p (sG.trans (same_upd np)) (sG.free np) upd_same
theorem pi_ts {X : Cx} {tg l : Expr} {tl : TE} (hl : PE X l tl) : PI X tg l (fun σ H R => iTup X.K tl σ H R ∨ iStr tl σ H R) := ⟨fun pins s σ H R I h => h.elim (fun h => (pi_tup hl).run pins s σ H R I h) (fun h => (pi_str hl).run pins s σ H R I h)⟩
theorem kh_skip {f : Int} {us ls : List Int} {m : Nat} : ∀ k, m ≤ k → (∀ i, m ≤ i → i < k → ls.getD i 0 ≠ 1) → kh f us ls k = kh f us ls m
  | 0, h, _ => by rw [show m = 0 by omega]
  | k + 1, h, n => by
    by_cases e : m = k + 1
    · rw [e]
    · show (if ls.getD k 0 = 1 then us.getD k 0 else kh f us ls k) = _
      rw [if_neg (n k (by omega) (by omega))]
      exact kh_skip k (by omega) fun i h1 h2 => n i h1 (by omega)
theorem kh_at {f : Int} {us ls : List Int} {j : Nat} (h : ls.getD j 0 = 1) : kh f us ls (j + 1) = us.getD j 0 := if_pos h
/-- the place of the last 1, round about -/
def bk (ls : List Int) (p b : Nat) : Nat := (((p : Int) - (b : Int)) % (ls.length : Int)).toNat
theorem bk_lo {ls : List Int} {p b : Nat} (hp : p < ls.length) (h : b ≤ p) : bk ls p b = p - b := by
  unfold bk
  rw [Int.emod_eq_of_lt (by omega) (by omega)]
  omega
theorem bk_hi {ls : List Int} {p b : Nat} (hp : p < ls.length) (h : p < b) (hb : b < ls.length) : bk ls p b = ls.length + p - b := by
  unfold bk
  rw [← Int.add_emod_right, Int.emod_eq_of_lt (by omega) (by omega)]
  omega
theorem kh_round {us ls : List Int} {p b : Nat} (hp : p < ls.length) (hb : b < ls.length) (h1 : ls.getD (bk ls p b) 0 = 1) (h2 : ∀ j, j < b → ls.getD (bk ls p j) 0 ≠ 1) : kh (kh 0 us ls ls.length) us ls (p + 1) = us.getD (bk ls p b) 0 := by
  by_cases e : b ≤ p
  · rw [bk_lo hp e] at h1 ⊢
    rw [kh_skip (m := p - b + 1) (p + 1) (by omega) fun i i1 i2 => ?_, kh_at h1]
    have := h2 (p - i) (by omega)
    rw [bk_lo hp (by omega)] at this
    rwa [show p - (p - i) = i by omega] at this
  · rw [bk_hi hp (by omega) hb] at h1 ⊢
    rw [kh_skip (m := 0) (p + 1) (by omega) fun i i1 i2 => ?_]
    · show kh 0 us ls ls.length = _
      rw [kh_skip (m := ls.length + p - b + 1) ls.length (by omega) fun i i1 i2 => ?_, kh_at h1]
      have := h2 (ls.length + p - i) (by omega)
      rw [bk_hi hp (by omega) (by omega)] at this
      rwa [show ls.length + p - (ls.length + p - i) = i by omega] at this
    · have := h2 (p - i) (by omega)
      rw [bk_lo hp (by omega)] at this
      rwa [show p - (p - i) = i by omega] at this
/-- there is one -/
theorem has_bk {ls : List Int} {p : Nat} (hp : p < ls.length) (h : (1 : Int) ∈ ls) : ∃ b, b < ls.length ∧ ls.getD (bk ls p b) 0 = 1 := by
  obtain ⟨i, hi, e⟩ := List.getElem_of_mem h
  have g : ls.getD i 0 = 1 := by
    rw [List.getD_eq_getElem?_getD, List.getElem?_eq_getElem hi]
    exact e
  by_cases c : i ≤ p
  · refine ⟨p - i, by omega, ?_⟩
    rw [bk_lo hp (by omega), show p - (p - i) = i by omega]
    exact g
  · refine ⟨ls.length + p - i, by omega, ?_⟩
    rw [bk_hi hp (by omega) (by omega), show ls.length + p - (ls.length + p - i) = i by omega]
    exact g
/-- the last bit is held whatever was held at first -/
theorem kh_free {us ls : List Int} (h : (1 : Int) ∈ ls) (f g : Int) : kh f us ls ls.length = kh g us ls ls.length := by
  have key : ∀ k, (∃ i, i < k ∧ ls.getD i 0 = 1) → kh f us ls k = kh g us ls k := by
    intro k
    induction k with
    | zero => rintro ⟨i, hi, _⟩; omega
    | succ k ih =>
      rintro ⟨i, hi, e⟩
      show (if ls.getD k 0 = 1 then us.getD k 0 else kh f us ls k) = (if ls.getD k 0 = 1 then us.getD k 0 else kh g us ls k)
      by_cases c : ls.getD k 0 = 1
      · rw [if_pos c, if_pos c]
      · rw [if_neg c, if_neg c]
        refine ih ⟨i, ?_, e⟩
        rcases Nat.lt_or_ge i k with z | z
        · exact z
        · exact absurd (by rw [show k = i by omega]; exact e) c
  obtain ⟨i, hi, e⟩ := List.getElem_of_mem h
  refine key _ ⟨i, hi, ?_⟩
  rw [List.getD_eq_getElem?_getD, List.getElem?_eq_getElem hi]
  exact e
theorem kh_app {f : Int} {us ls us' ls' : List Int} (hl : us.length = ls.length) : ∀ i, kh f (us ++ us') (ls ++ ls') (ls.length + i) = kh (kh f us ls ls.length) us' ls' i
  | 0 => by
    have key : ∀ k, k ≤ ls.length → kh f (us ++ us') (ls ++ ls') k = kh f us ls k := by
      intro k
      induction k with
      | zero => intro _; rfl
      | succ k ih =>
        intro hk
        show (if (ls ++ ls').getD k 0 = 1 then (us ++ us').getD k 0 else kh f (us ++ us') (ls ++ ls') k) = (if ls.getD k 0 = 1 then us.getD k 0 else kh f us ls k)
        rw [ih (by omega), List.getD_eq_getElem?_getD, List.getD_eq_getElem?_getD, List.getD_eq_getElem?_getD, List.getD_eq_getElem?_getD, List.getElem?_append_left (by omega), List.getElem?_append_left (by omega)]
    exact key _ (Nat.le_refl _)
  | i + 1 => by
    show (if (ls ++ ls').getD (ls.length + i) 0 = 1 then (us ++ us').getD (ls.length + i) 0 else kh f (us ++ us') (ls ++ ls') (ls.length + i)) = (if ls'.getD i 0 = 1 then us'.getD i 0 else kh (kh f us ls ls.length) us' ls' i)
    rw [kh_app hl i, List.getD_eq_getElem?_getD, List.getD_eq_getElem?_getD, List.getD_eq_getElem?_getD, List.getD_eq_getElem?_getD, List.getElem?_append_right (by omega), List.getElem?_append_right (by omega), hl, Nat.add_sub_cancel_left]
theorem kh_app0 {f : Int} {us ls us' ls' : List Int} (hl : us.length = ls.length) : ∀ k, k ≤ ls.length → kh f (us ++ us') (ls ++ ls') k = kh f us ls k
  | 0, _ => rfl
  | k + 1, hk => by
    show (if (ls ++ ls').getD k 0 = 1 then (us ++ us').getD k 0 else kh f (us ++ us') (ls ++ ls') k) = (if ls.getD k 0 = 1 then us.getD k 0 else kh f us ls k)
    rw [kh_app0 hl k (by omega), List.getD_eq_getElem?_getD, List.getD_eq_getElem?_getD, List.getD_eq_getElem?_getD, List.getD_eq_getElem?_getD, List.getElem?_append_left (by omega), List.getElem?_append_left (by omega)]
theorem kpL_app {f : Int} {us ls us' ls' : List Int} (hl : us.length = ls.length) (k : Nat) : kpL f (us ++ us') (ls ++ ls') (ls.length + k) = kpL f us ls ls.length ++ kpL (kh f us ls ls.length) us' ls' k := by
  unfold kpL
  rw [List.range_add, List.map_append, List.map_map]
  congr 1
  · apply List.map_congr_left
    intro i hi
    exact kh_app0 hl _ (by have := List.mem_range.mp hi; omega)
  · apply List.map_congr_left
    intro i _
    exact kh_app hl (i + 1)
theorem kpL_three {g : Int} {us ls : List Int} (hl : us.length = ls.length) (e : kh g us ls ls.length = g) : kpL g (us ++ (us ++ us)) (ls ++ (ls ++ ls)) (ls.length + (ls.length + ls.length)) = kpL g us ls ls.length ++ (kpL g us ls ls.length ++ kpL g us ls ls.length) := by
  rw [kpL_app hl, e, kpL_app hl, e]
/-! how long a bit is kept -/
def dn : List Int → Nat → Nat
  | [], e => e
  | x :: r, e => if x = 1 then 0 else dn r e + 1
theorem dn_at : ∀ {ls : List Int} {d : Nat} (e : Nat), (∀ j, j < d → ls.getD j 0 ≠ 1) → ls.getD d 0 = 1 → dn ls e = d
  | [], d, e, _, h => by
    rw [List.getD_nil] at h
    exact absurd h (by decide)
  | x :: r, 0, e, _, h => by
    rw [List.getD_cons_zero] at h
    show (if x = 1 then 0 else dn r e + 1) = 0
    rw [if_pos h]
  | x :: r, d + 1, e, n, h => by
    rw [List.getD_cons_succ] at h
    have n0 := n 0 (by omega)
    rw [List.getD_cons_zero] at n0
    show (if x = 1 then 0 else dn r e + 1) = d + 1
    rw [if_neg n0, dn_at e (fun j hj => ?_) h]
    have := n (j + 1) (by omega)
    rwa [List.getD_cons_succ] at this
theorem dn_none : ∀ {ls : List Int} (e : Nat), (∀ j, j < ls.length → ls.getD j 0 ≠ 1) → dn ls e = ls.length + e
  | [], e, _ => by
    show e = 0 + e
    omega
  | x :: r, e, n => by
    have n0 := n 0 (by rw [List.length_cons]; omega)
    rw [List.getD_cons_zero] at n0
    show (if x = 1 then 0 else dn r e + 1) = r.length + 1 + e
    rw [if_neg n0, dn_none e (fun j hj => ?_)]
    · omega
    have := n (j + 1) (by rw [List.length_cons]; omega)
    rwa [List.getD_cons_succ] at this
theorem getD_drop' (ls : List Int) (k j : Nat) : (ls.drop k).getD j 0 = ls.getD (k + j) 0 := by
  rw [List.getD_eq_getElem?_getD, List.getD_eq_getElem?_getD, List.getElem?_drop]
/-- behind place i, to the next 1, round about -/
def dd (ls : List Int) (i : Nat) : Nat := dn (ls.drop i) (dn ls 0)
def wt (ls : List Int) (i : Nat) : Nat := 1 + dd ls (i + 1)
theorem wt_near {ls : List Int} {i k : Nat} (h : i < k) (h1 : ls.getD k 0 = 1) (h2 : ∀ j, i < j → j < k → ls.getD j 0 ≠ 1) : wt ls i = k - i := by
  unfold wt dd
  have e := dn_at (ls := ls.drop (i + 1)) (d := k - (i + 1)) (dn ls 0) (fun j hj => by
    rw [getD_drop']
    exact h2 _ (by omega) (by omega)) (by
    rw [getD_drop', show i + 1 + (k - (i + 1)) = k by omega]
    exact h1)
  rw [e]
  omega
theorem wt_far {ls : List Int} {i t : Nat} (hi : i < ls.length) (h2 : ∀ j, i < j → j < ls.length → ls.getD j 0 ≠ 1) (h1 : ls.getD t 0 = 1) (h3 : ∀ j, j < t → ls.getD j 0 ≠ 1) : wt ls i = ls.length + t - i := by
  unfold wt dd
  rw [dn_none _ (fun j hj => ?_), dn_at 0 h3 h1, List.length_drop]
  · omega
  · rw [List.length_drop] at hj
    rw [getD_drop']
    exact h2 _ (by omega) (by omega)
theorem dd_end {ls : List Int} : dd ls ls.length = dn ls 0 := by
  unfold dd
  rw [List.drop_length]
  rfl
theorem dd_step {ls : List Int} {i : Nat} (h : i < ls.length) : dd ls i = if ls.getD i 0 = 1 then 0 else dd ls (i + 1) + 1 := by
  unfold dd
  rw [List.drop_eq_getElem_cons h]
  show (if ls[i] = 1 then 0 else dn (ls.drop (i + 1)) (dn ls 0) + 1) = _
  rw [List.getD_eq_getElem?_getD, List.getElem?_eq_getElem h]
  rfl
theorem one_at {ls : List Int} (h : (1 : Int) ∈ ls) : ∃ t, t < ls.length ∧ ls.getD t 0 = 1 ∧ ∀ j, j < t → ls.getD j 0 ≠ 1 := by
  have key : ∀ n, (∃ i, i < n ∧ i < ls.length ∧ ls.getD i 0 = 1) → ∃ t, t < ls.length ∧ ls.getD t 0 = 1 ∧ ∀ j, j < t → ls.getD j 0 ≠ 1 := by
    intro n
    induction n with
    | zero => rintro ⟨i, hi, _⟩; omega
    | succ n ih =>
      rintro ⟨i, hi, hl, e⟩
      by_cases c : ∃ i, i < n ∧ i < ls.length ∧ ls.getD i 0 = 1
      · exact ih c
      · have : i = n := by
          rcases Nat.lt_or_ge i n with z | z
          · exact absurd ⟨i, z, hl, e⟩ c
          · omega
        subst this
        exact ⟨i, hl, e, fun j hj z => c ⟨j, hj, by omega, z⟩⟩
  obtain ⟨i, hi, e⟩ := List.getElem_of_mem h
  refine key (i + 1) ⟨i, by omega, hi, ?_⟩
  rw [List.getD_eq_getElem?_getD, List.getElem?_eq_getElem hi]
  exact e
theorem dd_zero {ls : List Int} (h : (1 : Int) ∈ ls) : dd ls 0 = dn ls 0 := by
  obtain ⟨t, _, h1, h2⟩ := one_at h
  unfold dd
  rw [List.drop_zero, dn_at _ h2 h1, dn_at _ h2 h1]
/-- the list that is due -/
def hf (ls : List Int) (i : Nat) : List Int := (List.range i).map fun q => (wt ls q : Int) * ls.getD q 0
theorem hf_len (ls : List Int) (i : Nat) : (hf ls i).length = i := by
  unfold hf
  rw [List.length_map, List.length_range]
theorem hf_succ (ls : List Int) (i : Nat) : hf ls (i + 1) = hf ls i ++ [(wt ls i : Int) * ls.getD i 0] := by
  unfold hf
  rw [List.range_succ, List.map_append]
  rfl
theorem hf_get {ls : List Int} {n i : Nat} (h : i < n) : (hf ls n)[i]? = some ((wt ls i : Int) * ls.getD i 0) := by
  unfold hf
  rw [List.getElem?_map, List.getElem?_range h]
  rfl
theorem hf_sum {ls : List Int} (b : ∀ i, ls.getD i 0 = 0 ∨ ls.getD i 0 = 1) : ∀ i, i ≤ ls.length → (hf ls i).sum = (i : Int) + dd ls i - dd ls 0
  | 0, _ => by
    show (0 : Int) = ((0 : Nat) : Int) + _ - _
    omega
  | i + 1, h => by
    rw [hf_succ, List.sum_append, hf_sum b i (by omega), dd_step (show i < ls.length by omega)]
    rcases b i with e | e
    · rw [e, if_neg (by decide)]
      simp
      omega
    · rw [e, if_pos rfl]
      unfold wt
      simp
      omega
theorem hf_all {ls : List Int} (b : ∀ i, ls.getD i 0 = 0 ∨ ls.getD i 0 = 1) (h : (1 : Int) ∈ ls) : (hf ls ls.length).sum = ls.length := by
  rw [hf_sum b _ (Nat.le_refl _), dd_end, dd_zero h]
  omega
def hu (us ls : List Int) (i : Nat) : List Int := (List.range i).map fun q => (wt ls q : Int) * ls.getD q 0 * us.getD q 0
theorem hu_succ (us ls : List Int) (i : Nat) : hu us ls (i + 1) = hu us ls i ++ [(wt ls i : Int) * ls.getD i 0 * us.getD i 0] := by
  unfold hu
  rw [List.range_succ, List.map_append]
  rfl
theorem kp_sum {us ls : List Int} (g : Int) (b : ∀ i, ls.getD i 0 = 0 ∨ ls.getD i 0 = 1) : ∀ i, i ≤ ls.length → (kpL g us ls i).sum + (dd ls i : Int) * kh g us ls i = (hu us ls i).sum + (dd ls 0 : Int) * g
  | 0, _ => rfl
  | i + 1, h => by
    have ih := kp_sum (us := us) g b i (by omega)
    have e1 : (kpL g us ls (i + 1)).sum = (kpL g us ls i).sum + kh g us ls (i + 1) := by
      unfold kpL
      rw [List.range_succ, List.map_append, List.sum_append]
      simp
    rw [hu_succ, List.sum_append, e1]
    rw [dd_step (show i < ls.length by omega)] at ih
    have ek : kh g us ls (i + 1) = if ls.getD i 0 = 1 then us.getD i 0 else kh g us ls i := rfl
    rcases b i with e | e
    · rw [e, if_neg (by decide)] at ih
      rw [e, if_neg (by decide)] at ek
      rw [ek, e]
      simp only [Int.natCast_add, Int.add_mul] at ih
      simp
      omega
    · rw [e, if_pos rfl] at ih
      rw [e, if_pos rfl] at ek
      rw [ek, e]
      unfold wt
      simp only [Int.natCast_add, Int.add_mul] at ih ⊢
      simp at ih ⊢
      omega
theorem kp_all {us ls : List Int} (b : ∀ i, ls.getD i 0 = 0 ∨ ls.getD i 0 = 1) (h : (1 : Int) ∈ ls) : (kpL (kh 0 us ls ls.length) us ls ls.length).sum = (hu us ls ls.length).sum := by
  have := kp_sum (us := us) (kh 0 us ls ls.length) b _ (Nat.le_refl _)
  rw [kh_free h (kh 0 us ls ls.length) 0, dd_end, dd_zero h] at this
  omega
/-! the places of the ones -/
def tk (ss : List Int) (i : Nat) : List Nat := (List.range i).filter fun t => decide (ss.getD t 0 = 1)
theorem tk_mem {ss : List Int} {i t : Nat} : t ∈ tk ss i ↔ t < i ∧ ss.getD t 0 = 1 := by
  unfold tk
  rw [List.mem_filter, List.mem_range, decide_eq_true_iff]
theorem tk_lt {ss : List Int} {i a b : Nat} (h : a < b) (hb : b < (tk ss i).length) : (tk ss i)[a] < (tk ss i)[b] := by
  have h2 : (tk ss i).Pairwise (· < ·) := List.Pairwise.filter _ List.pairwise_lt_range
  exact (List.pairwise_iff_getElem.mp h2) a b (by omega) hb h
theorem tk_at {ss : List Int} {i a : Nat} (h : a < (tk ss i).length) : (tk ss i)[a] < i ∧ ss.getD (tk ss i)[a] 0 = 1 := tk_mem.mp (List.getElem_mem h)
theorem tk_ix {ss : List Int} {i t : Nat} (h : t < i) (e : ss.getD t 0 = 1) : ∃ a, ∃ ha : a < (tk ss i).length, (tk ss i)[a] = t := List.getElem_of_mem (tk_mem.mpr ⟨h, e⟩)
def ends (F : List Nat) (n : Nat) : List Nat := F.drop 1 ++ [F.getD 0 0 + n]
theorem ends_len {F : List Nat} {n : Nat} (h : 0 < F.length) : (ends F n).length = F.length := by
  unfold ends
  rw [List.length_append, List.length_drop, List.length_singleton]
  omega
theorem ends_at {ss : List Int} {k : Nat} (h : k < (tk ss ss.length).length) : (ends (tk ss ss.length) ss.length)[k]? = some ((tk ss ss.length)[k] + wt ss (tk ss ss.length)[k]) := by
  unfold ends
  by_cases c : k + 1 < (tk ss ss.length).length
  · rw [List.getElem?_append_left (by rw [List.length_drop]; omega), List.getElem?_drop, List.getElem?_eq_getElem (show 1 + k < (tk ss ss.length).length by omega)]
    have lt := tk_lt (ss := ss) (i := ss.length) (show k < 1 + k by omega) (by omega)
    have e := wt_near (ls := ss) lt (tk_at (show 1 + k < (tk ss ss.length).length by omega)).2 (fun j h1 h2 z => by
      have hj : j < ss.length := by
        have := (tk_at (show 1 + k < (tk ss ss.length).length by omega)).1
        omega
      obtain ⟨a, ha, rfl⟩ := tk_ix hj z
      rcases Nat.lt_or_ge k a with q | q
      · rcases Nat.lt_or_ge (1 + k) a with q2 | q2
        · have := tk_lt q2 ha
          omega
        · have : a = 1 + k := by omega
          subst this
          omega
      · rcases Nat.eq_or_lt_of_le q with q2 | q2
        · subst q2
          omega
        · have := tk_lt (ss := ss) (i := ss.length) q2 h
          omega)
    rw [e]
    congr 1
    omega
  · have ek : k = (tk ss ss.length).length - 1 := by omega
    rw [List.getElem?_append_right (by rw [List.length_drop]; omega), List.length_drop, show k - ((tk ss ss.length).length - 1) = 0 by omega, List.getElem?_cons_zero]
    have h0 : 0 < (tk ss ss.length).length := by omega
    have l0 := tk_at (show 0 < (tk ss ss.length).length by omega)
    have lk := tk_at h
    have eg : (tk ss ss.length).getD 0 0 = (tk ss ss.length)[0] := by
      rw [List.getD_eq_getElem?_getD, List.getElem?_eq_getElem h0]
      rfl
    have e := wt_far (ls := ss) lk.1 (fun j h1 h2 z => by
      obtain ⟨a, ha, rfl⟩ := tk_ix h2 z
      rcases Nat.lt_or_ge a k with q | q
      · have := tk_lt (ss := ss) (i := ss.length) q h
        omega
      · have : a = k := by omega
        subst this
        omega) l0.2 (fun j hj z => by
      obtain ⟨a, ha, rfl⟩ := tk_ix (show j < ss.length by omega) z
      rcases Nat.eq_zero_or_pos a with q | q
      · subst q
        omega
      · have := tk_lt (ss := ss) (i := ss.length) q ha
        omega)
    rw [e, eg]
    congr 1
    omega
/-- what stands in held behind k of them -/
def hkL (ss : List Int) (k : Nat) : List Int := (List.range ss.length).map fun t => if t ∈ (tk ss ss.length).take k then (wt ss t : Int) else 0
theorem hk_len (ss : List Int) (k : Nat) : (hkL ss k).length = ss.length := by
  unfold hkL
  rw [List.length_map, List.length_range]
theorem hk_zero (ss : List Int) : hkL ss 0 = List.replicate ss.length 0 := by
  unfold hkL
  rw [List.eq_replicate_iff]
  refine ⟨by rw [List.length_map, List.length_range], fun x hx => ?_⟩
  obtain ⟨t, _, rfl⟩ := List.mem_map.mp hx
  simp
theorem hk_succ {ss : List Int} {k : Nat} (h : k < (tk ss ss.length).length) : (hkL ss k).set (tk ss ss.length)[k] (wt ss (tk ss ss.length)[k]) = hkL ss (k + 1) := by
  have lk := (tk_at h).1
  apply List.ext_getElem?
  intro i
  unfold hkL
  rw [List.getElem?_set, List.getElem?_map, List.getElem?_map, List.length_map, List.length_range]
  by_cases c : i < ss.length
  · rw [List.getElem?_range c]
    by_cases d : (tk ss ss.length)[k] = i
    · rw [if_pos d, if_pos lk, Option.map_some, if_pos]
      · rw [d]
      · rw [List.take_add_one, List.getElem?_eq_getElem h, d]
        simp
    · rw [if_neg d, Option.map_some, Option.map_some]
      congr 1
      have : i ∈ (tk ss ss.length).take (k + 1) ↔ i ∈ (tk ss ss.length).take k := by
        rw [List.take_add_one, List.getElem?_eq_getElem h, List.mem_append]
        simp only [Option.toList_some, List.mem_singleton]
        constructor
        · rintro (z | z)
          · exact z
          · exact absurd z.symm d
        · exact .inl
      simp only [this]
  · rw [List.getElem?_eq_none (by rw [List.length_range]; omega)]
    by_cases d : (tk ss ss.length)[k] = i
    · omega
    · rw [if_neg d]
      rfl
theorem hk_all {ss : List Int} (b : ∀ i, ss.getD i 0 = 0 ∨ ss.getD i 0 = 1) : hkL ss (tk ss ss.length).length = hf ss ss.length := by
  unfold hkL hf
  rw [List.take_length]
  apply List.map_congr_left
  intro t ht
  have ht := List.mem_range.mp ht
  rcases b t with e | e
  · rw [if_neg (fun z => by rw [(tk_mem.mp z).2] at e; exact absurd e (by decide)), e, Int.mul_zero]
  · rw [if_pos (tk_mem.mpr ⟨ht, e⟩), e, Int.mul_one]
/-! by the law's way -/
def fw (ls : List Int) (p b : Nat) : Nat := (((p : Int) + (b : Int)) % (ls.length : Int)).toNat
theorem fw_lo {ls : List Int} {p b : Nat} (h : p + b < ls.length) : fw ls p b = p + b := by
  unfold fw
  rw [Int.emod_eq_of_lt (by omega) (by omega)]
  omega
theorem fw_hi {ls : List Int} {p b : Nat} (h : ls.length ≤ p + b) (h2 : p + b < 2 * ls.length) : fw ls p b = p + b - ls.length := by
  unfold fw
  rw [show (p : Int) + (b : Int) = ((p : Int) + (b : Int) - (ls.length : Int)) + (ls.length : Int) by omega, Int.add_emod_right, Int.emod_eq_of_lt (by omega) (by omega)]
  omega
theorem fw_wt {ls : List Int} {p b : Nat} (hp : p < ls.length) (b1 : 1 ≤ b) (b2 : b ≤ ls.length) (h1 : ls.getD (fw ls p b) 0 = 1) (h2 : ∀ j, 1 ≤ j → j < b → ls.getD (fw ls p j) 0 ≠ 1) : wt ls p = b := by
  by_cases c : p + b < ls.length
  · rw [fw_lo c] at h1
    rw [wt_near (k := p + b) (by omega) h1 (fun j j1 j2 => ?_)]
    · omega
    have := h2 (j - p) (by omega) (by omega)
    rwa [fw_lo (by omega), show p + (j - p) = j by omega] at this
  · rw [fw_hi (by omega) (by omega)] at h1
    rw [wt_far (t := p + b - ls.length) hp (fun j j1 j2 => ?_) h1 (fun j j1 => ?_)]
    · omega
    · have := h2 (j - p) (by omega) (by omega)
      rwa [fw_lo (by omega), show p + (j - p) = j by omega] at this
    · have := h2 (ls.length + j - p) (by omega) (by omega)
      rwa [fw_hi (by omega) (by omega), show p + (ls.length + j - p) - ls.length = j by omega] at this
theorem fw_has {ls : List Int} {p : Nat} (hp : p < ls.length) (h : (1 : Int) ∈ ls) : ∃ b, b < ls.length ∧ ls.getD (fw ls p (b + 1)) 0 = 1 := by
  obtain ⟨t, ht, e, _⟩ := one_at h
  by_cases c : p < t
  · refine ⟨t - p - 1, by omega, ?_⟩
    rw [fw_lo (by omega), show p + (t - p - 1 + 1) = t by omega]
    exact e
  · refine ⟨ls.length + t - p - 1, by omega, ?_⟩
    rw [fw_hi (by omega) (by omega), show p + (ls.length + t - p - 1 + 1) - ls.length = t by omega]
    exact e
def fws (ss : List Int) (p i : Nat) : List Nat := (List.range i).filter fun b => decide (ss.getD (fw ss p (b + 1)) 0 = 1)
theorem fws_head {ss : List Int} {p : Nat} (hp : p < ss.length) (h : (1 : Int) ∈ ss) : ∃ b, (fws ss p ss.length)[0]? = some b ∧ wt ss p = b + 1 := by
  obtain ⟨c, hc, e⟩ := fw_has hp h
  cases f : (List.range ss.length).find? (fun b => decide (ss.getD (fw ss p (b + 1)) 0 = 1)) with
  | none =>
    rw [List.find?_range_eq_none] at f
    exact absurd (decide_eq_true e) (by simpa using f c hc)
  | some b =>
    have f2 := f
    rw [List.find?_range_eq_some] at f2
    obtain ⟨f3, f4, f5⟩ := f2
    refine ⟨b, ?_, fw_wt hp (by omega) (by have := List.mem_range.mp f4; omega) (of_decide_eq_true f3) (fun j j1 j2 => ?_)⟩
    · rw [← List.head?_eq_getElem?]
      unfold fws
      rw [List.head?_filter, f]
    · have := f5 (j - 1) (by omega)
      rw [show j - 1 + 1 = j by omega] at this
      simpa using this
/-! three rows, and how long their ones are kept -/
def GoodD (d ss : List Int) : Prop := (∀ x, x ∈ ss → x = 0 ∨ x = 1) ∧ (1 : Int) ∈ ss ∧ d = hf ss ss.length ∧ ss = d.map fun v => if 0 < v then 1 else 0
theorem get_rep (n i : Nat) (x : Int) : (List.replicate n x).getD i 0 = if i < n then x else 0 := by
  rw [List.getD_eq_getElem?_getD, List.getElem?_replicate]
  split <;> rfl
theorem get_set (xs : List Int) (j i : Nat) (x : Int) (h : j < xs.length) : (xs.set j x).getD i 0 = if i = j then x else xs.getD i 0 := by
  rw [List.getD_eq_getElem?_getD, List.getElem?_set]
  by_cases c : j = i
  · subst c
    rw [if_pos rfl, if_pos h, if_pos rfl]
    rfl
  · rw [if_neg c, if_neg (Ne.symm c), List.getD_eq_getElem?_getD]
theorem by_getD {a b : List Int} (hl : a.length = b.length) (h : ∀ i, i < a.length → a.getD i 0 = b.getD i 0) : a = b := by
  apply List.ext_getElem hl
  intro i h1 h2
  have := h i h1
  rwa [List.getD_eq_getElem?_getD, List.getElem?_eq_getElem h1, List.getD_eq_getElem?_getD, List.getElem?_eq_getElem h2] at this
theorem hf_getD {ls : List Int} {n i : Nat} (h : i < n) : (hf ls n).getD i 0 = (wt ls i : Int) * ls.getD i 0 := by
  rw [List.getD_eq_getElem?_getD, hf_get h]
  rfl
theorem map_getD {d : List Int} {i : Nat} (h : i < d.length) : (d.map fun v => if (0 : Int) < v then (1 : Int) else 0).getD i 0 = if 0 < d.getD i 0 then 1 else 0 := by
  rw [List.getD_eq_getElem?_getD, List.getElem?_map, List.getD_eq_getElem?_getD, List.getElem?_eq_getElem h]
  rfl
theorem mem_getD {ss : List Int} {i : Nat} {x : Int} (h : i < ss.length) (e : ss.getD i 0 = x) : x ∈ ss := by
  rw [List.getD_eq_getElem?_getD, List.getElem?_eq_getElem h] at e
  rw [← e]
  exact List.getElem_mem h
theorem good_of {d ss : List Int} (hl : d.length = ss.length) (hb : ∀ i, i < ss.length → ss.getD i 0 = 0 ∨ ss.getD i 0 = 1) (h1 : (1 : Int) ∈ ss) (hd : ∀ i, i < ss.length → d.getD i 0 = (wt ss i : Int) * ss.getD i 0) : GoodD d ss := by
  refine ⟨fun x hx => ?_, h1, ?_, ?_⟩
  · obtain ⟨i, hi, e⟩ := List.getElem_of_mem hx
    have := hb i hi
    rw [List.getD_eq_getElem?_getD, List.getElem?_eq_getElem hi] at this
    rw [← e]
    exact this
  · refine by_getD (by rw [hf_len, hl]) fun i hi => ?_
    rw [hd i (by omega), hf_getD (by omega)]
  · refine by_getD (by rw [List.length_map, hl]) fun i hi => ?_
    rw [map_getD (by omega), hd i hi]
    have w1 : 1 ≤ wt ss i := by
      unfold wt
      omega
    rcases hb i hi with e | e
    · rw [e, Int.mul_zero, if_neg (by decide)]
    · rw [e, Int.mul_one, if_pos (by omega)]
theorem good1 {n : Nat} (h : 1 ≤ n) : GoodD (List.replicate n 1) (List.replicate n 1) := by
  have ll : (List.replicate n (1 : Int)).length = n := List.length_replicate
  refine good_of rfl (fun i hi => ?_) (mem_getD (i := 0) (by omega) (by rw [get_rep, if_pos (by omega)])) (fun i hi => ?_)
  · rw [get_rep]
    split
    · exact .inr rfl
    · exact .inl rfl
  · rw [ll] at hi
    have w : wt (List.replicate n 1) i = 1 := by
      by_cases c : i + 1 < n
      · rw [wt_near (k := i + 1) (by omega) (by rw [get_rep, if_pos c]) (fun j h1 h2 => by omega)]
        omega
      · rw [wt_far (t := 0) (by omega) (fun j h1 h2 => by omega) (by rw [get_rep, if_pos (by omega)]) (fun j hj => by omega), ll]
        omega
    rw [w, get_rep, if_pos hi]
    decide
theorem good2 {n x : Nat} (h : x < n) : GoodD ((List.replicate n 0).set x (n : Int)) ((List.replicate n 0).set x 1) := by
  have lr : (List.replicate n (0 : Int)).length = n := List.length_replicate
  have g : ∀ i, ((List.replicate n (0 : Int)).set x 1).getD i 0 = if i = x then 1 else 0 := fun i => by
    rw [get_set _ _ _ _ (by omega), get_rep]
    split
    · rfl
    · split <;> rfl
  have ll : ((List.replicate n (0 : Int)).set x 1).length = n := by rw [List.length_set, lr]
  refine good_of (by rw [List.length_set, List.length_set]) (fun i hi => ?_) (mem_getD (i := x) (by omega) (by rw [g, if_pos rfl])) (fun i hi => ?_)
  · rw [g]
    split
    · exact .inr rfl
    · exact .inl rfl
  · rw [g, get_set _ _ _ _ (by omega), get_rep]
    by_cases c : i = x
    · subst c
      rw [if_pos rfl, if_pos rfl, wt_far (t := i) (by omega) (fun j h1 h2 => by rw [g, if_neg (by omega)]; decide) (by rw [g, if_pos rfl]) (fun j hj => by rw [g, if_neg (by omega)]; decide), ll, Int.mul_one]
      omega
    · rw [if_neg c, if_neg c, Int.mul_zero]
      split <;> rfl
theorem good3 {n x y : Nat} (hx : x < y) (h : y < n) : GoodD (((List.replicate n 0).set x ((y : Int) - x)).set y ((n : Int) - ((y : Int) - x))) (((List.replicate n 0).set x 1).set y 1) := by
  have lr : (List.replicate n (0 : Int)).length = n := List.length_replicate
  have g : ∀ i, (((List.replicate n (0 : Int)).set x 1).set y 1).getD i 0 = if i = y then 1 else if i = x then 1 else 0 := fun i => by
    rw [get_set _ _ _ _ (by rw [List.length_set]; omega), get_set _ _ _ _ (by omega), get_rep]
    split
    · rfl
    · split
      · rfl
      · split <;> rfl
  have ll : (((List.replicate n (0 : Int)).set x 1).set y 1).length = n := by rw [List.length_set, List.length_set, lr]
  refine good_of (by rw [List.length_set, List.length_set, List.length_set, List.length_set]) (fun i hi => ?_) (mem_getD (i := y) (by omega) (by rw [g, if_pos rfl])) (fun i hi => ?_)
  · rw [g]
    split
    · exact .inr rfl
    · split
      · exact .inr rfl
      · exact .inl rfl
  · rw [g, get_set _ _ _ _ (by rw [List.length_set]; omega), get_set _ _ _ _ (by omega), get_rep]
    by_cases c : i = y
    · subst c
      rw [if_pos rfl, if_pos rfl, wt_far (t := x) (by omega) (fun j h1 h2 => by rw [g, if_neg (by omega), if_neg (by omega)]; decide) (by rw [g, if_neg (by omega), if_pos rfl]) (fun j hj => by rw [g, if_neg (by omega), if_neg (by omega)]; decide), ll, Int.mul_one]
      omega
    · rw [if_neg c, if_neg c]
      by_cases d : i = x
      · subst d
        rw [if_pos rfl, if_pos rfl, wt_near (k := y) (by omega) (by rw [g, if_pos rfl]) (fun j h1 h2 => by rw [g, if_neg (by omega), if_neg (by omega)]; decide), Int.mul_one]
        omega
      · rw [if_neg d, if_neg d, Int.mul_zero]
        split <;> rfl
theorem kh_ones {n : Nat} {ls : List Int} : ∀ k, k ≤ n → kh 1 (List.replicate n 1) ls k = 1
  | 0, _ => rfl
  | k + 1, h => by
    show (if ls.getD k 0 = 1 then (List.replicate n (1 : Int)).getD k 0 else kh 1 (List.replicate n 1) ls k) = 1
    rw [kh_ones k (by omega), get_rep]
    split
    · exact if_pos (show k < n by omega)
    · rfl
theorem kp_ones {ls : List Int} (h : (1 : Int) ∈ ls) : kpL (kh 0 (List.replicate ls.length 1) ls ls.length) (List.replicate ls.length 1) ls ls.length = List.replicate ls.length 1 := by
  rw [kh_free h 0 1, kh_ones _ (Nat.le_refl _), List.eq_replicate_iff]
  refine ⟨by unfold kpL; rw [List.length_map, List.length_range], fun x hx => ?_⟩
  unfold kpL at hx
  obtain ⟨i, hi, rfl⟩ := List.mem_map.mp hx
  exact kh_ones _ (by have := List.mem_range.mp hi; omega)
/-! zip of a list and a tuple -/
def ItM (K : PySem.W.Frag) (l t : Addr) : It := ⟨fun i H => ∃ (xs ys : List V) (x y : V), SqL K H l xs ∧ SqT K H t ys ∧ xs[i]? = some x ∧ ys[i]? = some y,
  fun i H v H' => ∃ p x y, v = .ref p ∧ H p = none ∧ H' = upd H p (.tup [x, y]) ∧ (∀ xs, SqL K H l xs → xs[i]? = some x) ∧ ∀ ys, SqT K H t ys → ys[i]? = some y,
  fun i H => ∃ xs ys : List V, SqL K H l xs ∧ SqT K H t ys ∧ i ≤ xs.length ∧ i ≤ ys.length ∧ (i = xs.length ∨ i = ys.length)⟩
def MixAt (l t z q r j k : Addr) (i : Nat) (h : Heap) : Prop := IsZip h z q r .none ∧ IsTupOf2 h q (.ref j) (.ref k) ∧ (∃ x y, IsTupOf2 h r x y) ∧ h.IsListIter j l i ∧ h.IsTupleIter k t i
theorem five {c z q r j k : Addr} (h : c ∈ [z, q, r, j, k]) : c = z ∨ c = q ∨ c = r ∨ c = j ∨ c = k := by simpa using h
theorem turn_mix {P : Program} {w : World} {K : PySem.W.Frag} {elts : List Expr} {kk : Nat} {tpos : Pos} {l t z q r j k : Addr} (S : ZipSep2 z q r j k [j, l] [k, t]) (hl : l ≠ j) (ht : t ≠ k) :
    Turn P w K (.Tuple elts kk tpos) (ItM K l t) [z, q, r, j, k] z (MixAt l t z q r j k) where
  mem := List.mem_cons_self
  obj := fun i h st c hc => by
    obtain ⟨a1, a2, ⟨_, _, a3⟩, ⟨o4, a4, _, d4⟩, ⟨o5, a5, _, d5⟩⟩ := st
    rcases five hc with e | e | e | e | e <;> rw [e]
    · exact ⟨_, a1, fun v m => nomatch m⟩
    · exact ⟨_, a2, fun v m => nomatch m⟩
    · exact ⟨_, a3, fun v m => nomatch m⟩
    · exact ⟨o4, a4, fun v m => by rw [d4] at m; cases m⟩
    · exact ⟨o5, a5, fun v m => by rw [d5] at m; cases m⟩
  keep := fun i h h' st kp => by
    obtain ⟨a1, a2, ⟨x, y, a3⟩, a4, a5⟩ := st
    exact ⟨kp z (by simp) _ a1, kp q (by simp) _ a2, ⟨x, y, kp r (by simp) _ a3⟩, a4.at fun o e => kp j (by simp) o e, a5.at fun o e => kp k (by simp) o e⟩
  item := by
    intro X eP ew eK hc i pins s σ H E I hf st hg
    subst eP ew eK
    obtain ⟨a1, a2, ⟨_, _, a3⟩, a4, a5⟩ := st
    obtain ⟨xs, ys, x, y, sx, sy, gx, gy⟩ := hg
    obtain ⟨us, rx, px, _⟩ := I.list sx
    obtain ⟨vs, ry, py, _⟩ := I.tuple sy
    obtain ⟨u, eu, ru⟩ := rx.get gx
    obtain ⟨v, ev, rv⟩ := ry.get gy
    have hh := I.ok.hd hc
    have zl : z < s.heap.objs.size := Heap.lt_size a1
    have iu : i < us.toArray.size := by
      rw [List.size_toArray]
      exact (List.getElem?_eq_some_iff.mp eu).1
    have iv : i < vs.toArray.size := by
      rw [List.size_toArray]
      exact (List.getElem?_eq_some_iff.mp ev).1
    refine wpAny_pyNext_zipD2_item S (Draws.list (A := X.A.in1) hh j l hl us.toArray) (Draws.tuple (A := X.A.in1) hh k t ht vs.toArray) a1 a2 a3 ⟨a4, px.isList⟩ ⟨a5, (show s.heap.IsTuple t vs.toArray from py)⟩ iu iv fun u' v' h1 tk f1 f2 b1 b2 b3 b4 b5 b6 kp => ?_
    have e1 : u' = u := by
      have f1 : us[i]? = some u' := by simpa using f1
      rw [eu] at f1
      exact (Option.some.inj f1).symm
    have e2 : v' = v := by
      have f2 : vs[i]? = some v' := by simpa using f2
      rw [ev] at f2
      exact (Option.some.inj f2).symm
    subst e1 e2
    refine ⟨_, rfl, wpAny_letOwnedTupleGo_zip (s := { s with heap := h1, toks := tk }) b1 fun h2 c1 sb => ?_⟩
    have nw : h2.get? s.heap.objs.size = some { cls := .type "tuple", data := .seq #[u', v'] } := (sb.2 _ (Nat.ne_of_gt zl)).trans b5
    have ob : ObjOk X.prog X.w (upd H s.heap.objs.size (.tup [x, y])) h2 s.heap.objs.size (.tup [x, y]) := ⟨(show 2 ≤ sizeLine by decide), [u', v'], .cons ru (.cons rv .nil), ⟨_, nw, rfl, _, rfl⟩⟩
    have I1 : Inv X pins σ (upd H s.heap.objs.size (.tup [x, y])) { s with heap := h2, toks := tk } := I.turnedNew (t' := tk) (ch := [z, q, r, j, k]) (fun c o nc e => (sb.2 c (fun m => nc (by simp [m]))).trans (kp c o (fun m => nc (by simp [m])) (fun m => nc (by simp [m])) (fun m => nc (by simp [m])) (fun m => nc (by simp [m])) e)) hf (Nat.le_refl _) ob
    refine ⟨.ref s.heap.objs.size, _, I1, rfl, ⟨_, x, y, rfl, I.hok.fresh (Nat.le_refl _), rfl, fun zs hz => by rw [I.list_inj hz sx]; exact gx, fun zs hz => by rw [I.tuple_inj hz sy]; exact gy⟩, ⟨c1, ?_, ⟨u', v', ?_⟩, ?_, ?_⟩, fun c cm => ?_⟩
    · exact (sb.2 _ S.TIz).trans (kp _ _ S.TIz S.TITO S.TIi1 S.TIi2 a2)
    · exact (sb.2 _ S.TOz).trans b2
    · exact b3.1.at fun o e => (sb.2 _ (Ne.symm S.zi1)).trans e
    · exact b4.1.at fun o e => (sb.2 _ (Ne.symm S.zi2)).trans e
    · have lc : c < s.heap.objs.size := by
        rcases five cm with e | e | e | e | e <;> rw [e]
        · exact zl
        · exact Heap.lt_size a2
        · exact Heap.lt_size a3
        · obtain ⟨_, m, _⟩ := a4; exact Heap.lt_size m
        · obtain ⟨_, m, _⟩ := a5; exact Heap.lt_size m
      rw [upd_ne (Nat.ne_of_lt lc)]
      exact (hf c cm).1
  done := by
    intro X eP ew eK hc i pins s σ H E I hf st hg
    subst eP ew eK
    obtain ⟨a1, a2, ⟨_, _, a3⟩, a4, a5⟩ := st
    obtain ⟨xs, ys, sx, sy, ix, iy, he⟩ := hg
    obtain ⟨us, rx, px, _⟩ := I.list sx
    obtain ⟨vs, ry, py, _⟩ := I.tuple sy
    have hh := I.ok.hd hc
    have l1 : us.toArray.size = xs.length := by rw [List.size_toArray, rx.length]
    have l2 : vs.toArray.size = ys.length := by rw [List.size_toArray, ry.length]
    exact wpAny_pyNext_zipD2_end S (Draws.list (A := X.A.in1) hh j l hl us.toArray) (Draws.tuple (A := X.A.in1) hh k t ht vs.toArray) a1 a2 a3 ⟨a4, px.isList⟩ ⟨a5, (show s.heap.IsTuple t vs.toArray from py)⟩ (by omega) (by omega) (by omega) fun h1 tk kp => ⟨rfl, I.turnedL (t' := tk) (ch := [z, q, r, j, k]) (fun c o nc e => kp c o (fun m => nc (by simp [m])) (fun m => nc (by simp [m])) (fun m => nc (by simp [m])) (fun m => nc (by simp [m])) e) hf⟩
  self := fun A i s Q E st h => wpAny_pyIter_zip st.1 h
theorem pi_zipM {X : Cx} {e e2 : Expr} {ta : TA} {p pos tpos : Pos} {elts : List Expr} {kk : Nat} (hg : Gl X "zip") (hm : X.mg "zip" = none) (ha : PA X [e, e2] ta) (hs : starEach [e, e2] X.env = (false, eval e X.env) :: starEach [e2] X.env := by rfl) (hpl : (backTo pos (starEach [e2] X.env)).any (·.1) = false := by rfl) :
    PI X (.Tuple elts kk tpos) (.Call (.Name "zip" p) [e, e2] [] pos) (fun σ H R => ta σ H fun vs H1 => ∃ l t xs ys, vs = [.ref l, .ref t] ∧ SqL X.K H1 l xs ∧ SqT X.K H1 t ys ∧ R (ItM X.K l t) H1) := by
  refine ⟨fun pins s σ H R I h => Call_ (ld_blt I hg hm PyProof.Rows.boot_zip (PyProof.Rows.callWith_type1 (thn (ha.run pos pins s σ H _ I h) fun us s1 ⟨vs, H1, I1, r1, q1⟩ => ?_) hs hpl))⟩
  obtain ⟨l, t, xs, ys, rfl, sx, sy, q⟩ := q1
  obtain ⟨u1, u2, rfl, ru, rv⟩ := vals2 r1
  cases ru
  cases rv
  obtain ⟨us, rx, px, _⟩ := I1.list sx
  obtain ⟨vs, ry, py, _⟩ := I1.tuple sy
  have lt : t < s1.heap.objs.size := by
    obtain ⟨o, ho, _⟩ := id py
    exact Heap.lt_size ho
  refine zip_begins2 (begins_list l us.toArray) (begins_tuple t vs.toArray) px.isList (show s1.heap.IsTuple t vs.toArray from py) fun h1 a1 a2 a3 a4 a5 sz kp => wpAny_pyIter_zip a1 ?_
  have I2 : Inv X pins σ H1 { s1 with heap := h1 } := I1.kept (t' := s1.toks) kp
  have N := s1.heap.objs.size
  refine ⟨s1.heap.objs.size + 4, [s1.heap.objs.size + 4, s1.heap.objs.size + 2, s1.heap.objs.size + 3, s1.heap.objs.size, s1.heap.objs.size + 1], _, _, H1, rfl, I2, turn_mix (zip_sep2 (fp1 := [l]) (fp2 := [t]) (fun b hb => by rw [List.mem_singleton.mp hb]; exact px.lt) (fun b hb => by rw [List.mem_singleton.mp hb]; exact lt)) (Nat.ne_of_lt px.lt) (Nat.ne_of_lt (Nat.lt_succ_of_lt lt)), ⟨a1, a2, ⟨_, _, a3⟩, ⟨_, a4, rfl, rfl⟩, ⟨_, a5, rfl, rfl⟩⟩, fun c hc => ?_, q⟩
  have le : s1.heap.objs.size ≤ c := by
    rcases five hc with m | m | m | m | m <;> rw [m]
    · exact Nat.le_add_right _ _
    · exact Nat.le_add_right _ _
    · exact Nat.le_add_right _ _
    · exact Nat.le_refl _
    · exact Nat.le_add_right _ _
  have fp := I1.fpOk le (I1.hok.fresh le)
  exact fp
theorem walk_zipM {K : PySem.W.Frag} {l t : Addr} {xs ys : List V} (hl : xs.length = ys.length) : Walk (ItM K l t) xs.length (fun H => SqL K H l xs ∧ SqT K H t ys) (YPair (fun i => xs[i]?) (fun i => ys[i]?)) := by
  refine ⟨fun i H hi g => ⟨xs, ys, xs[i], ys[i]'(by omega), g.1, g.2, List.getElem?_eq_getElem _, List.getElem?_eq_getElem _⟩, fun H g => ⟨xs, ys, g.1, g.2, by omega, by omega, .inl rfl⟩, fun i H v H' _ g y => ?_⟩
  obtain ⟨p, x, y, e1, e2, e3, f1, f2⟩ := y
  exact ⟨p, x, y, e1, e2, e3, f1 _ g.1, f2 _ g.2⟩
/-! rows of eight ways -/
theorem rp_bits {k : Nat} {x : Int} (hx : x = 0 ∨ x = 1) : Bits (List.replicate k x) := fun y hy => by
  rw [List.eq_of_mem_replicate hy]
  exact hx
theorem ap_bits {xs ys : List Int} (h1 : Bits xs) (h2 : Bits ys) : Bits (xs ++ ys) := fun y hy => by
  rcases List.mem_append.mp hy with z | z
  · exact h1 y z
  · exact h2 y z
theorem nat_of {x : Int} (h : 0 ≤ x) : ∃ m : Nat, x = (m : Nat) := Int.eq_ofNat_of_zero_le h
theorem b01 {c : Prop} [Decidable c] : (if c then (1 : Int) else 0) = 0 ∨ (if c then (1 : Int) else 0) = 1 := by
  split
  · exact .inr rfl
  · exact .inl rfl
def sp__law_row (_ : PySem.W.Frag) : Sp := fun vs H Q _ => ∃ (p : Addr) (m n : Nat), vs = [.ref p, .int (m : Nat)] ∧ Bx H p n ∧ 1 ≤ m ∧ m ≤ 4096 ∧ n < 1000000000 ∧
  ∀ H' a (rs : List Int), But p H H' → Bx H' p (n + 5000) → H' a = some (.tup (rs.map V.int)) → rs.length = m → Bits rs → Q (.ref a) H'
theorem ok__law_row (T : Defs K mg) : FnOk P w K mg base CX0 2 T.f__law_row T.fd__law_row ["_law_box_here", "_law_many"] (sp__law_row K) := by
  have G__law_take : FnOk P w K mg base CX0 1 T.f__law_take T.fd__law_take ["_law_box_here", "_law_many"] (sp__law_take K) := ok__law_take T
  refine T.F__law_row.ok sc__law_row (fun vs H Q E h => ?_) (fun cdv A outer s H vs Q E hr h => ?_)
  · obtain ⟨p, m, n, rfl, hB, hm, hm2, hn, q⟩ := h
    rfl
  · obtain ⟨p, m, n, rfl, hB, hm, hm2, hn, q⟩ := h
    refine ⟨_, PSs.nox (pss_cons (ps_set (i := 2) sc__law_row.nd rfl (.inl rfl) (pe_call G__law_take (hr.mono (by decide)) (by rfl) T.g__law_take T.F__law_take.kp T.b__law_take .nil pass0 (pa_cons (pv 0) (pa_cons pe_int pa_nil))))
    (pss_cons (ps_if (pt_cmpR op_lt (pv 2) pe_int (nomark _)) (pss_one (ps_ret (pe_callTy call_tuple_of (by rfl) T.m_tuple bt_tuple (pa_cons (pe_lc (own := [("_law_k", 6)]) (g := gName 6) (tt := tYes) rfl sc__law_row.nd (pi_range1 (by rfl) T.m_range (pa_cons (pv 1) pa_nil)) (blkOk_by (N := N__law_row) (sc := defScope s__law_row) (by decide +kernel)) (fun _ _ _ _ _ => (pg_name (i := 6) sc__law_row.nd rfl (.inl rfl))) (fun _ _ _ _ _ => pts_nil) (fun _ _ _ _ _ => (pe_call G__law_take (hr.mono (by decide)) (by rfl) T.g__law_take T.F__law_take.kp T.b__law_take .nil pass0 (pa_cons (pv 0) (pa_cons pe_int pa_nil))))) pa_nil)))) pss_nil)
    (pss_cons (ps_if (pt_cmpR op_eq (pv 2) pe_int (nomark _)) (pss_one (ps_ret (pe_op op_repA (pe_tup (pa_cons (pe_call G__law_take (hr.mono (by decide)) (by rfl) T.g__law_take T.F__law_take.kp T.b__law_take .nil pass0 (pa_cons (pv 0) (pa_cons pe_int pa_nil))) pa_nil)) (pv 1)))) pss_nil)
    (pss_cons (ps_asg (pe_tup (pa_cons (pe_call G__law_take (hr.mono (by decide)) (by rfl) T.g__law_take T.F__law_take.kp T.b__law_take .nil pass0 (pa_cons (pv 0) (pa_cons (pe_op op_add (pv 1) pe_int) pa_nil))) (pa_cons (pe_op op_add pe_int (pe_call G__law_take (hr.mono (by decide)) (by rfl) T.g__law_take T.F__law_take.kp T.b__law_take .nil pass0 (pa_cons (pv 0) (pa_cons (pv 1) pa_nil)))) (pa_cons (pe_call G__law_take (hr.mono (by decide)) (by rfl) T.g__law_take T.F__law_take.kp T.b__law_take .nil pass0 (pa_cons (pv 0) (pa_cons (pv 1) pa_nil))) pa_nil)))) (pg_tup rfl (pgs_cons (pg_name (i := 3) sc__law_row.nd rfl (.inr rfl)) (pgs_cons (pg_name (i := 4) sc__law_row.nd rfl (.inr rfl)) (pgs_cons (pg_name (i := 5) sc__law_row.nd rfl (.inr rfl)) pgs_nil)))))
    (pss_cons (ps_if (pt_cmpR op_eq (pv 2) pe_int (nomark _)) (pss_one (ps_ret (pe_op op_catA (pe_op op_repB (pe_tup (pa_cons pe_int pa_nil)) (pv 3)) (pe_op op_repB (pe_tup (pa_cons pe_int pa_nil)) (pe_op op_sub (pv 1) (pv 3)))))) pss_nil)
    (pss_cons (ps_if (pt_cmpR op_eq (pv 2) pe_int (nomark _)) (pss_one (ps_ret (pe_op op_catA (pe_op op_repB (pe_tup (pa_cons pe_int pa_nil)) (pe_op op_sub (pv 1) (pv 3))) (pe_op op_repB (pe_tup (pa_cons pe_int pa_nil)) (pv 3))))) pss_nil)
    (pss_cons (ps_if (pt_cmpR op_eq (pv 2) pe_int (nomark _)) (pss_one (ps_ret (pe_callTy call_tuple_of (by rfl) T.m_tuple bt_tuple (pa_cons (pe_lc (own := [("_law_k", 6)]) (g := gName 6) (tt := tYes) rfl sc__law_row.nd (pi_range1 (by rfl) T.m_range (pa_cons (pv 1) pa_nil)) (blkOk_by (N := N__law_row) (sc := defScope s__law_row) (by decide +kernel)) (fun _ _ _ _ _ => (pg_name (i := 6) sc__law_row.nd rfl (.inl rfl))) (fun _ _ _ _ _ => pts_nil) (fun _ _ _ _ _ => (pe_callTy call_int1 (by rfl) T.m_int bt_int (pa_cons (pe_cmpR op_lt (pe_op op_mod (pe_op op_add (pv 5) (pe_op op_mul (pv 4) (pv 6))) (pv 1)) (pv 3) (nomark _)) pa_nil)))) pa_nil)))) pss_nil)
    (pss_one (ps_ret (pe_callTy call_tuple_of (by rfl) T.m_tuple bt_tuple (pa_cons (pe_lc (own := [("_law_k", 6)]) (g := gName 6) (tt := tYes) rfl sc__law_row.nd (pi_range1 (by rfl) T.m_range (pa_cons (pv 1) pa_nil)) (blkOk_by (N := N__law_row) (sc := defScope s__law_row) (by decide +kernel)) (fun _ _ _ _ _ => (pg_name (i := 6) sc__law_row.nd rfl (.inl rfl))) (fun _ _ _ _ _ => pts_nil) (fun _ _ _ _ _ => (pe_callTy call_int1 (by rfl) T.m_int bt_int (pa_cons (pe_cmpR op_eq (pe_call G__law_take (hr.mono (by decide)) (by rfl) T.g__law_take T.F__law_take.kp T.b__law_take .nil pass0 (pa_cons (pv 0) (pa_cons pe_int pa_nil))) pe_int (nomark _)) pa_nil)))) pa_nil))))))))))), ?_⟩
    refine ⟨.ref p, rfl, p, 8, n, rfl, hB, by decide, by decide, by omega, fun H1 r1 b1 B1 l1 u1 => ?_⟩
    refine ⟨.int r1, rfl, _, _, rfl, rfl, _, rfl, ite2 (fun _ => ?_) (fun _ => ?_)⟩
    · refine ⟨.int (m : Nat), rfl, m, rfl, by omega, by omega, fun D nD => ?_⟩
      refine lc_range (PV p D H1 (n + 1)) (pv_start nD B1) (fun i H5 hi h5 => ?_) (fun H5 h5 => ?_)
      · refine ⟨rfl, yes_ite ?_⟩
        have h5' := h5
        obtain ⟨_, _, _, _, B5, _⟩ := h5'
        refine ⟨.ref p, rfl, p, 2, n + 1 + i, rfl, B5, by decide, by decide, by omega, fun H6 r6 b6 B6 l6 u6 => ?_⟩
        exact pv_step nD (ne_new B1 nD) h5 b6 B6 (by omega) (by omega)
      · obtain ⟨rs, hl, hb, b5, B5, hD⟩ := h5
        refine ⟨D, _, rfl, .inl ⟨SqL.mk hD, fun l nl => ?_⟩⟩
        exact q _ l rs ((b1.trans b5).new nl) ((B5.new nl).mono (by omega)) upd_same (by omega) hb
    refine ⟨.int r1, rfl, rfl, _, rfl, ite2 (fun _ => ?_) (fun _ => ?_)⟩
    · refine ⟨.ref p, rfl, p, 2, n + 1, rfl, B1, by decide, by decide, by omega, fun H2 r2 b2 B2 l2 u2 => ?_⟩
      have hbit : r2 = 0 ∨ r2 = 1 := by omega
      refine ⟨(show 1 ≤ sizeLine by decide), fun t nt => ?_⟩
      refine ⟨.int (m : Nat), rfl, t, m, _, rfl, rfl, SqT.mk upd_same, by simp, hm, (show 1 * m ≤ 1000000 by omega), fun z => ?_, fun z a na => ?_⟩
      · exact q _ t [r2] ((b1.trans b2).new nt) ((B2.new nt).mono (by omega)) upd_same z.symm (fun x hx => by
          rw [List.mem_singleton] at hx
          rw [hx]
          exact hbit)
      · refine q _ a (List.replicate m r2) (((b1.trans b2).new nt).new na) (((B2.new nt).new na).mono (by omega)) ?_ List.length_replicate (rp_bits hbit)
        rw [upd_same, rep_one]
    refine ⟨.ref p, rfl, .int (m : Nat), rfl, _, _, rfl, rfl, p, _, n + 1, rfl, B1, by omega, by omega, by omega, fun H2 r2 b2 B2 l2 u2 => ?_⟩
    refine ⟨.ref p, rfl, .int (m : Nat), rfl, p, m, n + 2, rfl, B2, by omega, by omega, by omega, fun H3 r3 b3 B3 l3 u3 => ⟨_, _, rfl, rfl, ?_⟩⟩
    refine ⟨.ref p, rfl, .int (m : Nat), rfl, p, m, n + 3, rfl, B3, by omega, by omega, by omega, fun H4 r4 b4 B4 l4 u4 => ?_⟩
    obtain ⟨c, rfl⟩ := nat_of l2
    refine ⟨(show 3 ≤ sizeLine by decide), fun t nt => ?_⟩
    refine ⟨t, _, rfl, SqT.mk upd_same, rfl, _, _, rfl, _, _, rfl, _, _, rfl, rfl, ?_⟩
    have B5 := B4.new (o := .tup [.int (c : Nat), .int (1 + r3), .int r4]) nt
    have b5 := (((b1.trans b2).trans b3).trans b4).new (o := .tup [.int (c : Nat), .int (1 + r3), .int r4]) nt
    generalize upd H4 t (.tup [.int (c : Nat), .int (1 + r3), .int r4]) = H5 at *
    refine ⟨.int r1, rfl, rfl, _, rfl, ite2 (fun _ => ?_) (fun _ => ?_)⟩
    · refine ⟨(show 1 ≤ sizeLine by decide), fun t1 n1 => ?_⟩
      refine ⟨.int (c : Nat), rfl, rep_go (k := c) rfl upd_same (by omega) fun G1 p1 s1 hp1 => ?_⟩
      refine ⟨(show 1 ≤ sizeLine by decide), fun t2 n2 => ?_⟩
      refine ⟨.int (m : Nat), rfl, .int (c : Nat), rfl, _, _, rfl, rfl, rep_go (k := m - c) (by omega) upd_same (by omega) fun G2 p2 s2 hp2 => ?_⟩
      refine cat_go (rs := List.replicate c 1) (ss := List.replicate (m - c) 0) (s2 _ _ ((same_upd n2) _ _ hp1)) hp2 (by rw [List.length_replicate, List.length_replicate]; omega) fun G3 o s3 ho => ?_
      have S3 : Same H5 G3 := (((same_upd n1).trans s1).trans ((same_upd n2).trans s2)).trans s3
      exact q G3 o _ (b5.trans (same_but S3)) ((B5.same S3).mono (by omega)) ho (by rw [List.length_append, List.length_replicate, List.length_replicate]; omega) (ap_bits (rp_bits (.inr rfl)) (rp_bits (.inl rfl)))
    refine ⟨.int r1, rfl, rfl, _, rfl, ite2 (fun _ => ?_) (fun _ => ?_)⟩
    · refine ⟨(show 1 ≤ sizeLine by decide), fun t1 n1 => ?_⟩
      refine ⟨.int (m : Nat), rfl, .int (c : Nat), rfl, _, _, rfl, rfl, rep_go (k := m - c) (by omega) upd_same (by omega) fun G1 p1 s1 hp1 => ?_⟩
      refine ⟨(show 1 ≤ sizeLine by decide), fun t2 n2 => ?_⟩
      refine ⟨.int (c : Nat), rfl, rep_go (k := c) rfl upd_same (by omega) fun G2 p2 s2 hp2 => ?_⟩
      refine cat_go (rs := List.replicate (m - c) 0) (ss := List.replicate c 1) (s2 _ _ ((same_upd n2) _ _ hp1)) hp2 (by rw [List.length_replicate, List.length_replicate]; omega) fun G3 o s3 ho => ?_
      have S3 : Same H5 G3 := (((same_upd n1).trans s1).trans ((same_upd n2).trans s2)).trans s3
      exact q G3 o _ (b5.trans (same_but S3)) ((B5.same S3).mono (by omega)) ho (by rw [List.length_append, List.length_replicate, List.length_replicate]; omega) (ap_bits (rp_bits (.inl rfl)) (rp_bits (.inr rfl)))
    refine ⟨.int r1, rfl, rfl, _, rfl, ite2 (fun _ => ?_) (fun _ => ?_)⟩
    · refine ⟨.int (m : Nat), rfl, m, rfl, by omega, by omega, fun D nD => ?_⟩
      refine lc_range (PV p D H5 (n + 4)) (pv_start nD B5) (fun i H6 hi h6 => ?_) (fun H6 h6 => ?_)
      · refine ⟨rfl, yes_ite ?_⟩
        have h6' := h6
        obtain ⟨_, _, _, _, B6, _⟩ := h6'
        have st : ∀ x : Int, (x = 0 ∨ x = 1) → _ := fun x hx => pv_step (H4 := H6) nD (ne_new B5 nD) h6 (But.refl p H6) (B6.mono (by omega)) (by omega) hx
        refine ⟨.int r4, rfl, .int (1 + r3), rfl, _, rfl, _, _, rfl, rfl, .inl ⟨by omega, by omega⟩, _, _, rfl, rfl, .int (m : Nat), rfl, _, _, rfl, rfl, (show (0 : Int) < (m : Int) by omega), .int (c : Nat), rfl, _, _, rfl, rfl, .inr ⟨_, rfl, st _ b01⟩⟩
      · obtain ⟨rs, hl, hb, b6, B6, hD⟩ := h6
        refine ⟨D, _, rfl, .inl ⟨SqL.mk hD, fun l nl => ?_⟩⟩
        exact q _ l rs ((b5.trans b6).new nl) ((B6.new nl).mono (by omega)) upd_same (by omega) hb
    · refine ⟨.int (m : Nat), rfl, m, rfl, by omega, by omega, fun D nD => ?_⟩
      refine lc_range (PV p D H5 (n + 4)) (pv_start nD B5) (fun i H6 hi h6 => ?_) (fun H6 h6 => ?_)
      · refine ⟨rfl, yes_ite ?_⟩
        have h6' := h6
        obtain ⟨_, _, _, _, B6, _⟩ := h6'
        refine ⟨.ref p, rfl, p, 9, n + 4 + i, rfl, B6, by decide, by decide, by omega, fun H7 r7 b7 B7 l7 u7 => ⟨rfl, .inr ⟨_, rfl, ?_⟩⟩⟩
        exact pv_step nD (ne_new B5 nD) h6 b7 B7 (by omega) b01
      · obtain ⟨rs, hl, hb, b6, B6, hD⟩ := h6
        refine ⟨D, _, rfl, .inl ⟨SqL.mk hD, fun l nl => ?_⟩⟩
        exact q _ l rs ((b5.trans b6).new nl) ((B6.new nl).mono (by omega)) upd_same (by omega) hb
/-! where a number stands first -/
theorem flat_ints (xs : List Int) : (xs.map V.int).all flatV = true := by
  rw [List.all_eq_true]
  intro x hx
  obtain ⟨i, _, rfl⟩ := List.mem_map.mp hx
  rfl
theorem in_ints (xs : List Int) (k : Int) : inV (.int k) (xs.map V.int) = decide (k ∈ xs) := by
  unfold inV
  rw [Bool.eq_iff_iff, List.any_eq_true, decide_eq_true_iff]
  constructor
  · rintro ⟨y, hy, e⟩
    obtain ⟨i, hi, rfl⟩ := List.mem_map.mp hy
    have : i = k := by
      have e : (i == k) = true := e
      exact eq_of_beq e
    rw [← this]
    exact hi
  · intro h
    exact ⟨_, List.mem_map.mpr ⟨k, h, rfl⟩, show (k == k) = true from beq_self_eq_true k⟩
theorem first_of {xs : List Int} {k : Int} : k ∈ xs → ∃ j : Nat, xs[j]? = some k ∧ ∀ m, m < j → xs[m]? ≠ some k := by
  induction xs with
  | nil => intro h; cases h
  | cons x r ih =>
    intro h
    by_cases e : x = k
    · exact ⟨0, by rw [e]; rfl, fun m hm => by omega⟩
    · rcases List.mem_cons.mp h with h | h
      · exact absurd h.symm e
      · obtain ⟨j, h1, h2⟩ := ih h
        refine ⟨j + 1, h1, fun m hm => ?_⟩
        cases m with
        | zero => exact fun z => e (Option.some.inj z)
        | succ m => exact h2 m (by omega)
/-! two lists of the same numbers -/
theorem dp_ints {K : PySem.W.Frag} {H : Hp} : ∀ ns : List Int, DpAll K H (ns.map V.int) (ns.map PyData.int)
  | [] => .nil
  | x :: r => .cons (.int x) (dp_ints r)
theorem sh_ints (ns : List Int) : SeqAt.shaped (.list (ns.map PyData.int)) = true := by
  have h1 : PyData.canLayAll0 (ns.map PyData.int) = true := by
    induction ns with
    | nil => rfl
    | cons x r ih =>
      show (PyData.canLay0 (.int x) && PyData.canLayAll0 (r.map PyData.int)) = true
      rw [ih]
      rfl
  have h2 : PyData.depthAll (ns.map PyData.int) = 0 := by
    induction ns with
    | nil => rfl
    | cons x r ih =>
      show max (PyData.depth (.int x)) (PyData.depthAll (r.map PyData.int)) = 0
      rw [ih (by
        have : (PyData.canLay0 (.int x) && PyData.canLayAll0 (r.map PyData.int)) = true := h1
        exact (Bool.and_eq_true_iff.mp this).2)]
      rfl
  show (PyData.canLayAll0 (ns.map PyData.int) && decide (PyData.depthAll (ns.map PyData.int) + 1 ≤ 64)) = true
  rw [h1, h2]
  rfl
theorem eqv_ints (ns : List Int) : PyData.eqv (.list (ns.map PyData.int)) (.list (ns.map PyData.int)) = true := by
  have : PyData.eqvAll (ns.map PyData.int) (ns.map PyData.int) = true := by
    induction ns with
    | nil => rfl
    | cons x r ih =>
      show (PyData.eqv (.int x) (.int x) && PyData.eqvAll (r.map PyData.int) (r.map PyData.int)) = true
      rw [ih]
      show ((x == x) && true) = true
      simp
  exact this
theorem neL {K : PySem.W.Frag} {H : Hp} {a b : Addr} {ns ms : List Int} (ha : H a = some (.lst (ns.map V.int))) (hb : H b = some (.lst (ms.map V.int))) (e : ns = ms) {Q : VK} (q : Q (.bl false) H) : rNeD K (.ref a) (.ref b) H Q := by
  subst e
  refine ⟨_, _, .lst (SqL.mk ha) (dp_ints ns), .lst (SqL.mk hb) (dp_ints ns), sh_ints ns, sh_ints ns, ?_⟩
  rw [eqv_ints]
  exact q
theorem cut_from (ns : List Int) (m : Nat) : cutV (ns.map V.int) (some (m : Int)) none = (ns.drop m).map V.int := by
  unfold cutV
  rw [HT.sIx_nat, HT.sIx_none, List.length_map]
  by_cases h : m ≤ ns.length
  · rw [Nat.min_eq_left h, ← List.map_drop, List.take_of_length_le (by rw [List.length_map, List.length_drop]; omega)]
  · rw [Nat.min_eq_right (by omega), Nat.sub_self, List.take_zero, List.drop_of_length_le (by omega)]
    rfl
theorem filt_pos {p : Nat → Bool} {i : Nat} (h : p i = true) : (List.range (i + 1)).filter p = (List.range i).filter p ++ [i] := by
  rw [List.range_succ, List.filter_append, List.filter_cons_of_pos h]
  rfl
theorem filt_neg {p : Nat → Bool} {i : Nat} (h : p i = false) : (List.range (i + 1)).filter p = (List.range i).filter p := by
  rw [List.range_succ, List.filter_append, List.filter_cons_of_neg (by rw [h]; exact Bool.false_ne_true)]
  exact List.append_nil _
theorem filt_len (p : Nat → Bool) (i : Nat) : ((List.range i).filter p).length ≤ i := by
  have := List.length_filter_le p (List.range i)
  rw [List.length_range] at this
  exact this
theorem kIn {a b : String} {r : Bool} (h : kitB a b = some r) : PySem.W.kitOne K (.type a) (.type b) = some r := kit_ty h
theorem k_ib : kitB "int" "bool" = some false := by decide +kernel
theorem k_sb : kitB "str" "bool" = some false := by decide +kernel
theorem kst_t : PySem.W.kitAny K (.type "tuple") [.type "str", .type "tuple"] = some true := kitAny_cons (kit_ty (r := false) (by decide +kernel)) (fun _ => kitAny_cons (r := true) (kit_ty (r := true) (by decide +kernel)) (fun z => by cases z) (fun _ => rfl)) (fun z => by cases z)
theorem kst_s : PySem.W.kitAny K (.type "str") [.type "str", .type "tuple"] = some true := kitAny_cons (r := true) (kit_ty (r := true) (by decide +kernel)) (fun z => by cases z) (fun _ => rfl)
theorem neT {K : PySem.W.Frag} {H : Hp} {a b : Addr} {ns ms : List Int} (ha : H a = some (.tup (ns.map V.int))) (hb : H b = some (.tup (ms.map V.int))) (e : ns = ms) {Q : VK} (q : Q (.bl false) H) : rNeD K (.ref a) (.ref b) H Q := by
  subst e
  refine ⟨_, _, .tup (SqT.mk ha) (dp_ints ns), .tup (SqT.mk hb) (dp_ints ns), ?_, ?_, ?_⟩
  · exact sh_ints ns
  · exact sh_ints ns
  · have : PyData.eqv (.tuple (ns.map PyData.int)) (.tuple (ns.map PyData.int)) = true := eqv_ints ns
    rw [this]
    exact q
theorem neS {K : PySem.W.Frag} {H : Hp} {x : Str} {Q : VK} (hx : SeqAt.shaped (.str x) = true) (q : Q (.bl false) H) : rNeD K (.str x) (.str x) H Q := by
  refine ⟨_, _, .str x, .str x, hx, hx, ?_⟩
  have : PyData.eqv (.str x) (.str x) = true := by
    show (x == x) = true
    exact beq_self_eq_true x
  rw [this]
  exact q
theorem any_no (n : Nat) : (List.replicate n false).any id = false := by
  rw [List.any_replicate]
  simp
theorem nx_via {t u : TS} {D : Ends} {r : VK} {k c : L2.St → Hp → Prop} {σ : L2.St} {H : Hp} (R : L2.St → Hp → Prop) (h1 : ∀ N : L2.St → Hp → Prop, (∀ σ H, R σ H → N σ H) → t { D with nx := N } σ H) (h2 : ∀ σ H, R σ H → u D σ H) : Ends.nx { nx := tSeq t u D, rt := r, bk := k, ct := c } σ H := h1 _ h2
theorem seq_via {t u : TS} {D : Ends} {σ : L2.St} {H : Hp} (R : L2.St → Hp → Prop) (h1 : ∀ N : L2.St → Hp → Prop, (∀ σ H, R σ H → N σ H) → t { D with nx := N } σ H) (h2 : ∀ σ H, R σ H → u D σ H) : tSeq t u D σ H := h1 _ h2
def sp_refuse_no_one {K : PySem.W.Frag} {mg : Str → Option Value} (T : Defs K mg) : Sp := fun vs H Q E => ∃ (a : Addr) (ss : List Int), vs = [.ref a] ∧ H a = some (.tup (ss.map V.int)) ∧ (((1 : Int) ∈ ss ∧ Q .non H) ∨ ((1 : Int) ∉ ss ∧ E (.ref T.C_NoOne) none H))
theorem ok_refuse_no_one (T : Defs K mg) : FnOk P w K mg base (L2.CX P w) 1 T.f_refuse_no_one T.fd_refuse_no_one ["row"] (sp_refuse_no_one T) := by
  refine okX T.F_refuse_no_one sc_refuse_no_one (fun vs H Q E h => ?_) (fun cdv A outer s H vs Q E hr h => ?_)
  · obtain ⟨a, ss, rfl, ha, h⟩ := h
    rfl
  · obtain ⟨a, ss, rfl, ha, h⟩ := h
    refine ⟨_, (pss_one (ps_if (pt_cmpR op_notIn_seq pe_int (pv 0) rfl) (pss_one (ps_raise rfl (takes_of (E := E) rfl rfl rfl rfl) (pmk_own PySem.F.excBase_ValueError T.xi_NoOne T.g_NoOne T.xk_NoOne (raises_own T.xs_NoOne T.xt_NoOne) (by rfl)))) pss_nil)), ?_⟩
    refine ⟨.ref a, rfl, a, _, rfl, .inr (SqT.mk ha), rfl, flat_ints ss, _, rfl, ?_⟩
    rw [in_ints]
    rcases h with ⟨h, q⟩ | ⟨h, q⟩
    · rw [decide_eq_true h]
      exact iteF q
    · rw [decide_eq_false h]
      exact iteT q
def sp_kept_round {K : PySem.W.Frag} {mg : Str → Option Value} (T : Defs K mg) : Sp := fun vs H Q E => ∃ (a b : Addr) (rs ss : List Int), vs = [.ref a, .ref b] ∧ Two H a b rs ss ∧ rs.length ≤ 100000 ∧
  ((rs.length = ss.length ∧ (1 : Int) ∈ ss ∧ ∀ H' p, Same H H' → H p = none → H' p = some (.tup ((kpL (kh 0 rs ss ss.length) rs ss ss.length).map V.int)) → Q (.ref p) H') ∨ (rs.length ≠ ss.length ∧ ∀ H', Same H H' → E (.ref T.C_Unlike) none H') ∨ (rs.length = ss.length ∧ (1 : Int) ∉ ss ∧ ∀ H', Same H H' → E (.ref T.C_NoOne) none H'))
theorem ok_kept_round (T : Defs K mg) : FnOk P w K mg base (L2.CX P w) 3 T.f_kept_round T.fd_kept_round ["upper", "lower"] (sp_kept_round T) := by
  have G_refuse_unlike : FnOk P w K mg base (L2.CX P w) 1 T.f_refuse_unlike T.fd_refuse_unlike ["rows"] (sp_refuse_unlike T) := ok_refuse_unlike T
  have G_refuse_no_one : FnOk P w K mg base (L2.CX P w) 1 T.f_refuse_no_one T.fd_refuse_no_one ["row"] (sp_refuse_no_one T) := ok_refuse_no_one T
  have G_kept : FnOk P w K mg base (L2.CX P w) 2 T.f_kept T.fd_kept ["upper", "lower", "first"] (sp_kept T) := ok_kept T
  refine okX T.F_kept_round sc_kept_round (fun vs H Q E h => ?_) (fun cdv A outer s H vs Q E hr h => ?_)
  · obtain ⟨a, b, rs, ss, rfl, two, hz, h⟩ := h
    rfl
  · obtain ⟨a, b, rs, ss, rfl, two, hz, h⟩ := h
    refine ⟨_, (pss_cons (ps_expr (pe_call (E := E) G_refuse_unlike (hr.mono (by decide)) (by rfl) T.g_refuse_unlike T.F_refuse_unlike.kp T.b_refuse_unlike .nil (passes_call (takes_of rfl rfl rfl rfl) (fun _ _ _ _ h => h)) (pa_cons (pe_lst (pa_cons (pv 0) (pa_cons (pv 1) pa_nil))) pa_nil)))
    (pss_cons (ps_expr (pe_call (E := E) G_refuse_no_one (hr.mono (by decide)) (by rfl) T.g_refuse_no_one T.F_refuse_no_one.kp T.b_refuse_no_one .nil (passes_call (takes_of rfl rfl rfl rfl) (fun _ _ _ _ h => h)) (pa_cons (pv 1) pa_nil)))
    (pss_one (ps_ret (pe_call (E := E) G_kept (hr.mono (by decide)) (by rfl) T.g_kept T.F_kept.kp T.b_kept .nil (passes_call (takes_of rfl rfl rfl rfl) (fun _ _ _ _ h => h)) (pa_cons (pv 0) (pa_cons (pv 1) (pa_cons (pe_ix ix_tup (pe_call (E := E) G_kept (hr.mono (by decide)) (by rfl) T.g_kept T.F_kept.kp T.b_kept .nil (passes_call (takes_of rfl rfl rfl rfl) (fun _ _ _ _ h => h)) (pa_cons (pv 0) (pa_cons (pv 1) (pa_cons pe_int pa_nil)))) (pe_un un_neg pe_int) (fun _ _ => rfl)) pa_nil)))))))), ?_⟩
    have hsl : sizeLine = 16777216 := by decide
    refine ⟨.ref a, rfl, .ref b, rfl, (show 2 ≤ sizeLine by decide), fun l nl => ?_⟩
    have s1 : Same H (upd H l (.lst [.ref a, .ref b])) := same_upd nl
    have two1 := two.same s1
    refine ⟨l, [(a, rs.map V.int), (b, ss.map V.int)], rfl, upd_same, (show 2 ≤ 8 by decide), by simp, ?_, ?_⟩
    · intro p hp
      rcases List.mem_cons.mp hp with rfl | hp
      · exact two1.1
      · rw [List.mem_singleton.mp hp]
        exact two1.2.1
    by_cases hl : rs.length = ss.length
    rotate_left
    · refine .inr ⟨⟨(a, rs.map V.int), (b, ss.map V.int), List.mem_cons_self, List.mem_cons_of_mem _ List.mem_cons_self, ?_⟩, ?_⟩
      · show (rs.map V.int).length ≠ (ss.map V.int).length
        rw [List.length_map, List.length_map]
        exact hl
      · rcases h with ⟨e, _⟩ | ⟨_, q⟩ | ⟨e, _⟩
        · exact absurd e hl
        · exact q _ s1
        · exact absurd e hl
    refine .inl ⟨⟨rs.length, fun p hp => ?_⟩, ?_⟩
    · rcases List.mem_cons.mp hp with rfl | hp
      · exact List.length_map ..
      · rw [List.mem_singleton.mp hp, hl]
        exact List.length_map ..
    refine ⟨.ref b, rfl, b, ss, rfl, two1.2.1, ?_⟩
    rcases h with ⟨_, h1, q⟩ | ⟨e, _⟩ | ⟨_, h1, q⟩
    rotate_left
    · exact absurd hl e
    · exact .inr ⟨h1, q _ s1⟩
    refine .inl ⟨h1, ?_⟩
    refine ⟨.ref a, rfl, .ref b, rfl, .ref a, rfl, .ref b, rfl, a, b, rs, ss, 0, rfl, two1, hz, .inl ⟨hl, fun H2 p s2 np hp => ?_⟩⟩
    obtain ⟨k, hk⟩ : ∃ k, rs.length = k + 1 := ⟨rs.length - 1, by
      have := List.length_pos_of_mem h1
      omega⟩
    refine ⟨_, rfl, p, _, -1, .int (kh 0 rs ss rs.length), rfl, rfl, SqT.mk hp, ?_, a, b, rs, ss, _, rfl, two1.same s2, hz, .inl ⟨hl, fun H3 p3 s3 n3 hp3 => ?_⟩⟩
    · rw [hk, kpL_succ]
      exact atI_last _ _
    · refine q _ p3 (s1.trans (s2.trans s3)) (s1.free (s2.free n3)) ?_
      rw [hp3, hl]
theorem tk_pos {ss : List Int} {i : Nat} (h : ss.getD i 0 = 1) : tk ss (i + 1) = tk ss i ++ [i] := filt_pos (p := fun t => decide (ss.getD t 0 = 1)) (decide_eq_true h)
theorem tk_neg {ss : List Int} {i : Nat} (h : ¬ ss.getD i 0 = 1) : tk ss (i + 1) = tk ss i := filt_neg (p := fun t => decide (ss.getD t 0 = 1)) (decide_eq_false h)
theorem tk_len (ss : List Int) (i : Nat) : (tk ss i).length ≤ i := filt_len (fun t => decide (ss.getD t 0 = 1)) i
theorem fws_pos {ss : List Int} {p i : Nat} (h : ss.getD (fw ss p (i + 1)) 0 = 1) : fws ss p (i + 1) = fws ss p i ++ [i] := filt_pos (p := fun b => decide (ss.getD (fw ss p (b + 1)) 0 = 1)) (decide_eq_true h)
theorem fws_neg {ss : List Int} {p i : Nat} (h : ¬ ss.getD (fw ss p (i + 1)) 0 = 1) : fws ss p (i + 1) = fws ss p i := filt_neg (p := fun b => decide (ss.getD (fw ss p (b + 1)) 0 = 1)) (decide_eq_false h)
theorem fws_len (ss : List Int) (p i : Nat) : (fws ss p i).length ≤ i := filt_len (fun b => decide (ss.getD (fw ss p (b + 1)) 0 = 1)) i
theorem bit_at {rs : List Int} (h : Bits rs) (i : Nat) : rs.getD i 0 = 0 ∨ rs.getD i 0 = 1 := by
  rw [List.getD_eq_getElem?_getD]
  cases e : rs[i]? with
  | none => exact .inl rfl
  | some x => exact h x (List.mem_of_getElem? e)
def nI (F : List Nat) : List Int := F.map fun (b : Nat) => (b : Int)
theorem nI_len (F : List Nat) : (nI F).length = F.length := List.length_map ..
theorem nI_get (F : List Nat) (k : Nat) : ((nI F).map V.int)[k]? = (F[k]?).map fun (b : Nat) => V.int (b : Int) := by
  unfold nI
  rw [List.getElem?_map, List.getElem?_map, Option.map_map]
  rfl
theorem ends_V (F : List Nat) (n : Nat) (c : Int) (hc : c = ((F.getD 0 0 + n : Nat) : Int)) : ((nI F).drop 1).map V.int ++ [V.int c] = (nI (ends F n)).map V.int := by
  subst hc
  unfold nI ends
  simp
def sp_held_for {K : PySem.W.Frag} {mg : Str → Option Value} (T : Defs K mg) : Sp := fun vs H Q E => ∃ (a : Addr) (ss : List Int), vs = [.ref a] ∧ H a = some (.tup (ss.map V.int)) ∧ Bits ss ∧ ss.length ≤ 100000 ∧
  (((1 : Int) ∈ ss ∧ ∀ H' p, Same H H' → H p = none → H' p = some (.lst ((hf ss ss.length).map V.int)) → Q (.ref p) H') ∨ ((1 : Int) ∉ ss ∧ ∀ H', Same H H' → E (.ref T.C_NoOne) none H'))
theorem ok_held_for (T : Defs K mg) : FnOk P w K mg base (L2.CX P w) 2 T.f_held_for T.fd_held_for ["lower"] (sp_held_for T) := by
  have G_refuse_no_one : FnOk P w K mg base (L2.CX P w) 1 T.f_refuse_no_one T.fd_refuse_no_one ["row"] (sp_refuse_no_one T) := ok_refuse_no_one T
  refine okX T.F_held_for sc_held_for (fun vs H Q E h => ?_) (fun cdv A outer s H vs Q E hr h => ?_)
  · obtain ⟨a, ss, rfl, ha, bs, hz, h⟩ := h
    rfl
  · obtain ⟨a, ss, rfl, ha, bs, hz, h⟩ := h
    refine ⟨_, (pss_cons (ps_expr (pe_call (E := E) G_refuse_no_one (hr.mono (by decide)) (by rfl) T.g_refuse_no_one T.F_refuse_no_one.kp T.b_refuse_no_one .nil (passes_call (takes_of rfl rfl rfl rfl) (fun _ _ _ _ h => h)) (pa_cons (pv 0) pa_nil)))
    (pss_cons (ps_setLc (i := 1) (own := [("at", 3)]) (g := gName 3) rfl sc_held_for.nd rfl rfl (sw_true rfl rfl rfl (by decide +kernel)) (pi_range1 (by rfl) T.m_range (pa_cons (pe_callB call_len_seq (by rfl) T.m_len bt_len (pa_cons (pv 0) pa_nil)) pa_nil)) (blkOk_by (N := N_held_for) (sc := defScope s_held_for) (by decide +kernel)) (fun _ _ _ _ _ => (pg_name (i := 3) sc_held_for.nd rfl (.inl rfl))) (fun _ _ _ _ _ => pts_one (pt_cmpR op_eq (pe_ix (ixtK (K := K) rfl) (pv 0) (pv 3) (fun _ _ => rfl)) pe_int (nomark _))) (fun _ _ _ _ _ => (pv 3)))
    (pss_cons (ps_set (i := 2) sc_held_for.nd rfl (.inl rfl) (pe_op op_rep (pe_lst (pa_cons pe_int pa_nil)) (pe_callB call_len_seq (by rfl) T.m_len bt_len (pa_cons (pv 0) pa_nil))))
    (pss_cons (ps_for (passes_of rfl) rfl (RZ.pi_zipA (by rfl) T.m_zip (pa_cons (pv 1) (pa_cons (pe_op op_cat (pe_slice sl_list (pv 1) (po_some pe_int) po_none) (pe_lst (pa_cons (pe_op op_add (pe_ix ix_list (pv 1) pe_int (fun _ _ => rfl)) (pe_callB call_len_seq (by rfl) T.m_len bt_len (pa_cons (pv 0) pa_nil))) pa_nil))) pa_nil))) (pg_tup rfl (pgs_cons (pg_name (i := 3) sc_held_for.nd rfl (.inl rfl)) (pgs_cons (pg_name (i := 4) sc_held_for.nd rfl (.inl rfl)) pgs_nil))) (pss_one (ps_asg (pe_op op_sub (pv 4) (pv 3)) (pg_sub (pv 2) (pv 3) set_list))))
    (pss_one (ps_ret (pv 2))))))), ?_⟩
    have hsl : sizeLine = 16777216 := by decide
    refine ⟨.ref a, rfl, a, ss, rfl, ha, ?_⟩
    rcases h with ⟨h1, q⟩ | ⟨h1, q⟩
    rotate_left
    · exact .inr ⟨h1, q _ (Same.refl H)⟩
    refine .inl ⟨h1, ?_⟩
    refine ⟨.ref a, rfl, a, _, rfl, .inr (SqT.mk ha), ?_⟩
    rw [List.length_map]
    refine ⟨_, rfl, by omega, by omega, fun L nL => ?_⟩
    refine lc_range (n := ss.length) (fun k F => Same H F ∧ F L = some (.lst ((nI (tk ss k)).map V.int))) ⟨same_upd nL, upd_same⟩ (fun k F hk h => ?_) (fun F h => ?_)
    · obtain ⟨f, hL⟩ := h
      have hk : k < ss.length := by omega
      rw [Int.zero_add]
      refine ⟨rfl, ?_⟩
      refine ⟨.ref a, rfl, _, rfl, a, _, _, .int (ss.getD k 0), rfl, rfl, SqT.mk (f _ _ ha), atI_nat (by rw [List.getElem?_map, List.getElem?_eq_getElem hk, List.getD_eq_getElem?_getD, List.getElem?_eq_getElem hk]; rfl), rfl, _, rfl, ?_⟩
      refine ite2 (fun e => ?_) (fun e => ?_)
      · have e1 : ss.getD k 0 = 1 := V.int.inj (of_decide_eq_true e)
        refine ⟨_, rfl, _, hL, by rw [List.length_map, nI_len]; have := tk_len ss k; omega, same_newer f nL, ?_⟩
        rw [upd_same, tk_pos e1]
        unfold nI
        rw [List.map_append, List.map_append]
        rfl
      · have e1 : ¬ ss.getD k 0 = 1 := fun z => e (decide_eq_true (by rw [z]))
        exact ⟨f, by rw [tk_neg e1]; exact hL⟩
    obtain ⟨f, hL⟩ := h
    have m0 : 0 < (tk ss ss.length).length := by
      obtain ⟨t, ht, e, _⟩ := one_at h1
      exact List.length_pos_of_mem (tk_mem.mpr ⟨ht, e⟩)
    have lm := tk_len ss ss.length
    refine ⟨(show 1 ≤ sizeLine by decide), fun l0 n0 => ?_⟩
    have f1 := f.trans (same_upd n0 (o := .lst [.int 0]))
    refine ⟨.ref a, rfl, a, _, rfl, .inr (SqT.mk (f1 _ _ ha)), l0, _, _, rfl, rfl, upd_same, by rw [List.length_map]; omega, by rw [List.length_map]; omega, by rw [List.length_map, Int.toNat_natCast]; show 1 * ss.length ≤ _; omega, fun D nD => ?_⟩
    rw [List.length_map, Int.toNat_natCast, rep_one, ← hk_zero]
    have hL2 : (upd (upd F l0 (.lst [.int 0])) D (.lst ((hkL ss 0).map V.int))) L = some (.lst ((nI (tk ss ss.length)).map V.int)) := (same_upd nD) _ _ ((same_upd n0) _ _ hL)
    have f2 := f1.trans (same_upd nD (o := .lst ((hkL ss 0).map V.int)))
    have hD2 : (upd (upd F l0 (.lst [.int 0])) D (.lst ((hkL ss 0).map V.int))) D = some (.lst ((hkL ss 0).map V.int)) := upd_same
    have nDH : H D = none := f1.free nD
    have LD : L ≠ D := ne_of_none ((same_upd n0 (o := .lst [.int 0])) _ _ hL) nD
    generalize upd (upd F l0 (.lst [.int 0])) D (.lst ((hkL ss 0).map V.int)) = G at hL2 f2 hD2 ⊢
    clear f1 n0 nD hL f F
    refine ⟨.ref L, rfl, .ref L, rfl, 1, rfl, L, _, rfl, SqL.mk hL2, fun p1 n1 => ?_⟩
    have ec : cutV ((nI (tk ss ss.length)).map V.int) (some 1) none = ((nI (tk ss ss.length)).drop 1).map V.int := cut_from _ 1
    rw [ec]
    have g1 := same_upd n1 (o := .lst (((nI (tk ss ss.length)).drop 1).map V.int))
    have t0 : ((nI (tk ss ss.length)).map V.int)[0]? = some (.int (((tk ss ss.length).getD 0 0 : Nat) : Int)) := by
      rw [nI_get, List.getD_eq_getElem?_getD, List.getElem?_eq_getElem m0]
      rfl
    refine ⟨.ref L, rfl, L, _, 0, _, rfl, rfl, SqL.mk (g1 _ _ hL2), atI_nat (j := 0) t0, .ref a, rfl, a, _, rfl, .inr (SqT.mk (g1 _ _ (f2 _ _ ha))), _, _, rfl, rfl, (show 1 ≤ sizeLine by decide), fun p2 n2 => ?_⟩
    refine ⟨p1, p2, _, _, rfl, rfl, (same_upd n2) _ _ upd_same, upd_same, ?_, fun p3 n3 => ?_⟩
    · rw [List.length_map, List.length_drop, nI_len]
      show _ + 1 ≤ _
      omega
    rw [ends_V (tk ss ss.length) ss.length _ (by rw [List.length_map]; omega)]
    have g3 := (g1.trans (same_upd n2 (o := .lst [.int (((tk ss ss.length).getD 0 0 : Nat) + ((ss.map V.int).length : Nat))]))).trans (same_upd n3 (o := .lst ((nI (ends (tk ss ss.length) ss.length)).map V.int)))
    have pD : D ≠ p3 := ne_of_none ((same_upd n2) _ _ ((same_upd n1) _ _ hD2)) n3
    refine ⟨L, p3, _, _, rfl, .inl ⟨SqL.mk (g3 _ _ hL2), SqL.mk upd_same, for_it (walk_zip (n := (tk ss ss.length).length) (xs := (nI (tk ss ss.length)).map V.int) (ys := (nI (ends (tk ss ss.length) ss.length)).map V.int) (by rw [List.length_map, List.length_map, nI_len, nI_len, ends_len m0, Nat.min_self])) (fun k σ E => ∃ y3 y4, σ = [some (.ref a), some (.ref L), some (.ref D), y3, y4] ∧ Same H E ∧ E L = some (.lst ((nI (tk ss ss.length)).map V.int)) ∧ E p3 = some (.lst ((nI (ends (tk ss ss.length) ss.length)).map V.int)) ∧ E D = some (.lst ((hkL ss k).map V.int))) ⟨none, none, rfl, f2.trans g3, g3 _ _ hL2, upd_same, g3 _ _ hD2⟩ ?_ ?_ ?_⟩⟩
    · rintro k σ E hk ⟨y3, y4, rfl, sE, hL, h3, hD⟩
      exact ⟨SqL.mk hL, SqL.mk h3⟩
    · rintro k x σ E E2 hk0 ⟨y3, y4, rfl, sE, hL, h3, hD⟩ ⟨t, x1, x2, rfl, nt, rfl, e1, e2⟩
      have e1 : ((nI (tk ss ss.length)).map V.int)[k]? = some x1 := e1
      have e2 : ((nI (ends (tk ss ss.length) ss.length)).map V.int)[k]? = some x2 := e2
      rw [nI_get, List.getElem?_eq_getElem hk0] at e1
      rw [nI_get, ends_at hk0] at e2
      cases e1
      cases e2
      have tkl := (tk_at hk0).1
      refine ⟨t, _, rfl, SqT.mk upd_same, rfl, _, _, rfl, _, _, rfl, rfl, ?_⟩
      have sE2 := same_upd nt (o := .tup [.int ((tk ss ss.length)[k] : Nat), .int (((tk ss ss.length)[k] + wt ss (tk ss ss.length)[k] : Nat) : Int)])
      generalize upd E t (.tup [.int ((tk ss ss.length)[k] : Nat), .int (((tk ss ss.length)[k] + wt ss (tk ss ss.length)[k] : Nat) : Int)]) = E2 at sE2 ⊢
      refine ⟨_, rfl, _, rfl, _, _, rfl, rfl, .ref D, rfl, _, rfl, D, _, _, _, rfl, rfl, sE2 _ _ hD, ixn (by rw [List.length_map, hk_len]; exact tkl), ?_⟩
      refine ⟨_, _, rfl, same_newer (sE.trans sE2) nDH, ?_, ?_, ?_⟩
      · rw [upd_ne LD]
        exact sE2 _ _ hL
      · rw [upd_ne (Ne.symm pD)]
        exact sE2 _ _ h3
      · have ew : (((tk ss ss.length)[k] + wt ss (tk ss ss.length)[k] : Nat) : Int) - ((tk ss ss.length)[k] : Nat) = (wt ss (tk ss ss.length)[k] : Nat) := by omega
        rw [upd_same]
        try dsimp only
        rw [ew, ← List.map_set, hk_succ hk0]
    · rintro σ E ⟨y3, y4, rfl, sE, hL, h3, hD⟩
      refine ⟨.ref D, rfl, q _ D sE nDH ?_⟩
      rw [hD, hk_all (bit_at bs)]
def sp__law_two (_ : PySem.W.Frag) : Sp := fun vs H Q _ => ∃ (p : Addr) (M : Int) (n : Nat), vs = [.ref p, .int M] ∧ Bx H p n ∧ 1 ≤ M ∧ M ≤ 4096 ∧ n < 100000000 ∧
  ∀ H' t a b (rs ss : List Int), But p H H' → Bx H' p (n + 10001) → H' t = some (.tup [.ref a, .ref b]) → Two H' a b rs ss → rs.length = ss.length → 1 ≤ rs.length → (rs.length : Int) ≤ M → Q (.ref t) H'
theorem ok__law_two (T : Defs K mg) : FnOk P w K mg base CX0 3 T.f__law_two T.fd__law_two ["_law_box_here", "_law_most"] (sp__law_two K) := by
  have G__law_take : FnOk P w K mg base CX0 1 T.f__law_take T.fd__law_take ["_law_box_here", "_law_many"] (sp__law_take K) := ok__law_take T
  have G__law_row : FnOk P w K mg base CX0 2 T.f__law_row T.fd__law_row ["_law_box_here", "_law_many"] (sp__law_row K) := ok__law_row T
  refine T.F__law_two.ok sc__law_two (fun vs H Q E h => ?_) (fun cdv A outer s H vs Q E hr h => ?_)
  · obtain ⟨p, M, n, rfl, hB, h1, h2, hn, q⟩ := h
    rfl
  · obtain ⟨p, M, n, rfl, hB, h1, h2, hn, q⟩ := h
    refine ⟨_, PSs.nox (pss_cons (ps_set (i := 2) sc__law_two.nd rfl (.inl rfl) (pe_op op_add pe_int (pe_call G__law_take (hr.mono (by decide)) (by rfl) T.g__law_take T.F__law_take.kp T.b__law_take .nil pass0 (pa_cons (pv 0) (pa_cons (pv 1) pa_nil)))))
    (pss_one (ps_ret (pe_tup (pa_cons (pe_call G__law_row (hr.mono (by decide)) (by rfl) T.g__law_row T.F__law_row.kp T.b__law_row .nil pass0 (pa_cons (pv 0) (pa_cons (pv 2) pa_nil))) (pa_cons (pe_call G__law_row (hr.mono (by decide)) (by rfl) T.g__law_row T.F__law_row.kp T.b__law_row .nil pass0 (pa_cons (pv 0) (pa_cons (pv 2) pa_nil))) pa_nil)))))), ?_⟩
    refine ⟨.ref p, rfl, .int M, rfl, p, M, n, rfl, hB, by omega, by omega, by omega, fun H1 r1 b1 B1 l1 u1 => ⟨_, _, rfl, rfl, ?_⟩⟩
    obtain ⟨m, hm⟩ : ∃ m : Nat, 1 + r1 = (m : Nat) := Int.eq_ofNat_of_zero_le (by omega)
    try dsimp only
    rw [hm]
    refine ⟨.ref p, rfl, .int (m : Nat), rfl, p, m, _, rfl, B1, by omega, by omega, by omega, fun H2 a rs b2 B2 ha la ba => ?_⟩
    refine ⟨.ref p, rfl, .int (m : Nat), rfl, p, m, _, rfl, B2, by omega, by omega, by omega, fun H3 b ss b3 B3 hb lb bb => ?_⟩
    refine ⟨(show 2 ≤ sizeLine by decide), fun t nt => ?_⟩
    have s3 := same_upd nt (o := .tup [.ref a, .ref b])
    exact q _ t a b rs ss ((b1.trans (b2.trans b3)).new nt) ((B3.new nt).mono (by omega)) upd_same ⟨s3 _ _ (b3 _ _ (B2.ne_tup ha) ha), s3 _ _ hb, ba, bb⟩ (by omega) (by omega) (by omega)
theorem none_of4 {t c1 c2 c3 c4 : Value} (h1 : PySem.W.kitOne K t c1 = some false) (h2 : PySem.W.kitOne K t c2 = some false) (h3 : PySem.W.kitOne K t c3 = some false) (h4 : PySem.W.kitOne K t c4 = some false) : PySem.W.kitAny K t [c1, c2, c3, c4] = some false :=
  kitAny_cons h1 (fun _ => kitAny_cons h2 (fun _ => kitAny_cons h3 (fun _ => kitAny_cons h4 (fun _ => rfl) (fun z => by cases z)) (fun z => by cases z)) (fun z => by cases z)) (fun z => by cases z)
theorem Two.but {H H' : Hp} {p a b : Addr} {n : Nat} {rs ss : List Int} (h : Two H a b rs ss) (B : Bx H p n) (s : But p H H') : Two H' a b rs ss := ⟨s _ _ (B.ne_tup h.1) h.1, s _ _ (B.ne_tup h.2.1) h.2.1, h.2.2⟩
def sp__law_refusal {K : PySem.W.Frag} {mg : Str → Option Value} (T : Defs K mg) : Sp := fun vs H Q _ => ∃ e : Addr, vs = [.ref e] ∧ H e = some (ExK (.ref T.C_NoOne) none e) ∧ ∀ H', Same H H' → Q (.str "noone") H'
theorem ok__law_refusal (T : Defs K mg) : FnOk P w K mg base CX0 1 T.f__law_refusal T.fd__law_refusal ["_law_caught"] (sp__law_refusal T) := by
  refine T.F__law_refusal.ok sc__law_refusal (fun vs H Q E h => ?_) (fun cdv A outer s H vs Q E hr h => ?_)
  · obtain ⟨e, rfl, he, q⟩ := h
    rfl
  · obtain ⟨e, rfl, he, q⟩ := h
    refine ⟨_, PSs.nox (pss_cons (ps_if (PW.pt (pw_or (pt_not (pt_val (pe_callB call_isK (by rfl) T.m_isinstance bt_isinstance (pa_cons (pv 0) (pa_cons (pe_bltn (v := .ty "ValueError") (by rfl) T.m_ValueError bt_ValueError rfl) pa_nil))))) (pw_or1 (pt_val (pe_callB call_isKT (by rfl) T.m_isinstance bt_isinstance (pa_cons (pv 0) (pa_cons (pe_tup (pa_cons (pe_glob (v := .ref T.C_BadSheet) (by rfl) T.g_BadSheet rfl) (pa_cons (pe_glob (v := .ref T.C_BadText) (by rfl) T.g_BadText rfl) (pa_cons (pe_glob (v := .ref T.C_NoRound) (by rfl) T.g_NoRound rfl) (pa_cons (pe_glob (v := .ref T.C_NoSuch) (by rfl) T.g_NoSuch rfl) pa_nil))))) pa_nil))))))) (pss_one (ps_ret pe_str)) pss_nil)
    (pss_cons (ps_if (pt_cmpR op_eq (pe_callB call_isK (by rfl) T.m_isinstance bt_isinstance (pa_cons (pv 0) (pa_cons (pe_glob (v := .ref T.C_Unlike) (by rfl) T.g_Unlike rfl) pa_nil))) (pe_callB call_isK (by rfl) T.m_isinstance bt_isinstance (pa_cons (pv 0) (pa_cons (pe_glob (v := .ref T.C_NoOne) (by rfl) T.g_NoOne rfl) pa_nil))) (nomark _)) (pss_one (ps_ret pe_str)) pss_nil)
    (pss_one (ps_ret (pe_ifExp (pt_val (pe_callB call_isK (by rfl) T.m_isinstance bt_isinstance (pa_cons (pv 0) (pa_cons (pe_glob (v := .ref T.C_Unlike) (by rfl) T.g_Unlike rfl) pa_nil)))) pe_str pe_str))))), ?_⟩
    refine ⟨.ref e, rfl, e, T.C_NoOne, _, _, true, rfl, he, T.xc_NoOne, .ty "ValueError", T.xv_NoOne, _, rfl, ?_⟩
    refine iteF ?_
    refine ⟨.ref e, rfl, (show 4 ≤ sizeLine by decide), fun t nt => ?_⟩
    have s1 := same_upd nt (o := .tup [.ref T.C_BadSheet, .ref T.C_BadText, .ref T.C_NoRound, .ref T.C_NoSuch])
    have he1 := s1 _ _ he
    refine ⟨e, T.C_NoOne, t, _, _, false, rfl, he1, T.xc_NoOne, upd_same, .cons (.own _) (.cons (.own _) (.cons (.own _) (.cons (.own _) .nil))), none_of4 T.xo_NoOne_BadSheet T.xo_NoOne_BadText T.xo_NoOne_NoRound T.xo_NoOne_NoSuch, _, rfl, ?_⟩
    refine iteF ?_
    refine ⟨.ref e, rfl, e, T.C_NoOne, _, _, false, rfl, he1, T.xc_NoOne, .own _, T.xo_NoOne_Unlike, .ref e, rfl, e, T.C_NoOne, _, _, true, rfl, he1, T.xc_NoOne, .own _, T.xo_NoOne_NoOne, rfl, _, rfl, ?_⟩
    refine iteF ?_
    refine ⟨.ref e, rfl, e, T.C_NoOne, _, _, false, rfl, he1, T.xc_NoOne, .own _, T.xo_NoOne_Unlike, _, rfl, ?_⟩
    exact iteF (q _ s1)
def TellH (ss : List Int) (H : Hp) (Q : VK) : Prop :=
  ((1 : Int) ∈ ss ∧ ∀ H' p, Same H H' → H p = none → H' p = some (.lst ((hf ss ss.length).map V.int)) → Q (.ref p) H') ∨ ((1 : Int) ∉ ss ∧ ∀ H', Same H H' → Q (.str "noone") H')
def sp__law_told {K : PySem.W.Frag} {mg : Str → Option Value} (_ : Defs K mg) : Sp := fun vs H Q _ => ∃ (a : Addr) (ss : List Int), vs = [.ref a] ∧ H a = some (.tup (ss.map V.int)) ∧ Bits ss ∧ ss.length ≤ 100000 ∧ TellH ss H Q
theorem ok__law_told (T : Defs K mg) : FnOk P w K mg base CX0 3 T.f__law_told T.fd__law_told ["_law_lower"] (sp__law_told T) := by
  have G_held_for : FnOk P w K mg base (L2.CX P w) 2 T.f_held_for T.fd_held_for ["lower"] (sp_held_for T) := ok_held_for T
  have G__law_refusal : FnOk P w K mg base CX0 1 T.f__law_refusal T.fd__law_refusal ["_law_caught"] (sp__law_refusal T) := ok__law_refusal T
  refine T.F__law_told.ok sc__law_told (fun vs H Q E h => ?_) (fun cdv A outer s H vs Q E hr h => ?_)
  · obtain ⟨a, ss, rfl, ha, bs, hz, h⟩ := h
    rfl
  · obtain ⟨a, ss, rfl, ha, bs, hz, h⟩ := h
    refine ⟨_, PSs.nox (pss_cons (ps_asg (pe_tup (pa_cons pe_non (pa_cons pe_non pa_nil))) (pg_tup rfl (pgs_cons (pg_name (i := 1) sc__law_told.nd rfl (.inl rfl)) (pgs_cons (pg_name (i := 2) sc__law_told.nd rfl (.inl rfl)) pgs_nil))))
    (pss_cons (ps_try_held (i := 3) rfl rfl rfl sc__law_told.nd rfl rfl ⟨by rfl, by decide, .inl T.g_OnesError⟩ takes0 (fun W pn xe tk pa => (pss_one (ps_set (i := 2) sc__law_told.nd rfl (.inl rfl) (pe_callS G_held_for (hr.mono (by decide)) (by rfl) T.g_held_for T.F_held_for.kp T.b_held_for (fun σ => passAt tk σ) (pa_cons (pv 0) pa_nil))))) (fun a oe cls d pn hz hf => (pss_one (ps_set (i := 1) sc__law_told.nd rfl (.inl rfl) (pv 3)))))
    (pss_one (ps_ret (pe_ifExp (pt_cmpR op_isN (pv 1) pe_non (nomark _)) (pv 2) (pe_call G__law_refusal (hr.mono (by decide)) (by rfl) T.g__law_refusal T.F__law_refusal.kp T.b__law_refusal .nil pass0 (pa_cons (pv 1) pa_nil))))))), ?_⟩
    refine ⟨(show 2 ≤ sizeLine by decide), fun t nt => ⟨t, _, rfl, SqT.mk upd_same, rfl, _, _, rfl, _, _, rfl, rfl, ?_⟩⟩
    have s1 := same_upd nt (o := .tup [.non, .non])
    generalize upd H t (.tup [.non, .non]) = H1 at s1 ⊢
    refine ⟨.ref a, rfl, a, ss, rfl, s1 _ _ ha, bs, hz, ?_⟩
    rcases h with ⟨h1, q⟩ | ⟨h1, q⟩
    · refine .inl ⟨h1, fun H2 p s2 np hp => ?_⟩
      refine ⟨.non, rfl, rfl, _, rfl, iteT ?_⟩
      exact ⟨.ref p, rfl, q _ p (s1.trans s2) (s1.free np) hp⟩
    · refine .inr ⟨h1, fun H2 s2 => ?_⟩
      refine ⟨true, T.xm_NoOne, fun z => (by cases z), fun _ e ne => ?_⟩
      refine ⟨.ref e, rfl, ?_⟩
      have s3 : Same H (upd H2 e (ExK (.ref T.C_NoOne) none e)) := s1.trans (s2.trans (same_upd ne))
      refine ⟨.ref e, rfl, rfl, _, rfl, iteF ?_⟩
      exact ⟨.ref e, rfl, e, rfl, upd_same, fun H4 s4 => q _ (s3.trans s4)⟩
theorem fw_ix {ss : List Int} {p b : Nat} (hp : p < ss.length) : atI (ss.map V.int) (((p : Int) + (b : Int)) % (ss.length : Int)) = some (.int (ss.getD (fw ss p b) 0)) := by
  have h1 := Int.emod_nonneg ((p : Int) + b) (show (ss.length : Int) ≠ 0 by omega)
  have h2 := Int.emod_lt_of_pos ((p : Int) + b) (show (0 : Int) < (ss.length : Int) by omega)
  unfold fw
  obtain ⟨j, hj⟩ := Int.eq_ofNat_of_zero_le h1
  rw [hj] at h2 ⊢
  have hj2 : j < ss.length := by omega
  refine atI_nat ?_
  rw [List.getElem?_map, List.getElem?_eq_getElem hj2, Int.toNat_natCast, List.getD_eq_getElem?_getD, List.getElem?_eq_getElem hj2]
  rfl
theorem bit_bd {x : Int} (h : x = 0 ∨ x = 1) : -(2 ^ 64) < x ∧ x < 2 ^ 64 := by omega
def sI (F : List Nat) : List Int := F.map fun (b : Nat) => ((b : Int) + 1)
def sp__law_due (_ : PySem.W.Frag) : Sp := fun vs H Q _ => ∃ (a : Addr) (ss : List Int), vs = [.ref a] ∧ H a = some (.tup (ss.map V.int)) ∧ Bits ss ∧ ss.length ≤ 100000 ∧ TellH ss H Q
theorem ok__law_due (T : Defs K mg) : FnOk P w K mg base CX0 1 T.f__law_due T.fd__law_due ["_law_lower"] (sp__law_due K) := by
  refine T.F__law_due.ok sc__law_due (fun vs H Q E h => ?_) (fun cdv A outer s H vs Q E hr h => ?_)
  · obtain ⟨b, ss, rfl, hb, bs, hz, h⟩ := h
    rfl
  · obtain ⟨b, ss, rfl, hb, bs, hz, h⟩ := h
    refine ⟨_, PSs.nox (pss_cons (ps_if (pt_cmpR op_notIn_seq pe_int (pv 0) rfl) (pss_one (ps_ret pe_str)) pss_nil)
    (pss_cons (ps_asg (pe_tup (pa_cons (pe_lst pa_nil) (pa_cons (pe_callB call_len_seq (by rfl) T.m_len bt_len (pa_cons (pv 0) pa_nil)) pa_nil))) (pg_tup rfl (pgs_cons (pg_name (i := 1) sc__law_due.nd rfl (.inl rfl)) (pgs_cons (pg_name (i := 2) sc__law_due.nd rfl (.inr rfl)) pgs_nil))))
    (pss_cons (ps_for PassesOwn.never rfl (pi_enumT (by rfl) T.m_enumerate (pa_cons (pv 0) pa_nil)) (pg_tup rfl (pgs_cons (pg_name (i := 3) sc__law_due.nd rfl (.inr rfl)) (pgs_cons (pg_name (i := 4) sc__law_due.nd rfl (.inl rfl)) pgs_nil))) (pss_cons (ps_setLc (i := 5) (own := [("_law_by", 6)]) (g := gName 6) rfl sc__law_due.nd rfl rfl (sw_true rfl rfl rfl (by decide +kernel)) (pi_range2 (by rfl) T.m_range (pa_cons pe_int (pa_cons (pe_op op_add (pv 2) pe_int) pa_nil))) (blkOk_by (N := N__law_due) (sc := defScope s__law_due) (by decide +kernel)) (fun _ _ _ _ _ => (pg_name (i := 6) sc__law_due.nd rfl (.inl rfl))) (fun _ _ _ _ _ => pts_one (pt_cmpR op_eq (pe_ix (ixtK (K := K) rfl) (pv 0) (pe_op op_mod (pe_op op_add (pv 3) (pv 6)) (pv 2)) (fun _ _ => rfl)) pe_int (nomark _))) (fun _ _ _ _ _ => (pv 6)))
    (pss_one (ps_expr (pe_bm PySem.F.plainAttrs_list PySem.F.slot_list_append PySem.F.type_list_append mt_append (pv 1) (pa_cons (pe_op op_mul (pe_ix ix_list (pv 5) pe_int (fun _ _ => rfl)) (pv 4)) pa_nil))))))
    (pss_one (ps_ret (pv 1)))))), ?_⟩
    have hsl : sizeLine = 16777216 := by decide
    refine ⟨.ref b, rfl, b, _, rfl, .inr (SqT.mk hb), rfl, flat_ints ss, _, rfl, ?_⟩
    rw [in_ints]
    rcases h with ⟨h1, q⟩ | ⟨h1, q⟩
    rotate_left
    · rw [decide_eq_false h1]
      exact iteT (q _ (Same.refl H))
    rw [decide_eq_true h1]
    refine iteF ?_
    refine ⟨(show 0 ≤ sizeLine by decide), fun D nD => ?_⟩
    have s1 : Same H (upd H D (.lst [])) := same_upd nD
    refine ⟨.ref b, rfl, b, _, rfl, .inr (SqT.mk (s1 _ _ hb)), (show 2 ≤ sizeLine by decide), fun t nt => ⟨t, _, rfl, SqT.mk upd_same, rfl, _, _, rfl, _, _, rfl, rfl, ?_⟩⟩
    rw [List.length_map]
    have s2 : Same H (upd (upd H D (.lst [])) t (.tup [.ref D, .int (ss.length : Nat)])) := s1.trans (same_upd nt)
    have hD2 : (upd (upd H D (.lst [])) t (.tup [.ref D, .int (ss.length : Nat)])) D = some (.lst []) := (same_upd nt) _ _ upd_same
    generalize upd (upd H D (.lst [])) t (.tup [.ref D, .int (ss.length : Nat)]) = H2 at s2 hD2 ⊢
    refine ⟨.ref b, rfl, b, _, rfl, SqT.mk (s2 _ _ hb), for_it (walk_enumT (xs := ss.map V.int)) (fun i σ G => ∃ y3 y4 y5, σ = [some (.ref b), some (.ref D), some (.int (ss.length : Nat)), y3, y4, y5, none] ∧ Same H G ∧ G D = some (.lst ((hf ss i).map V.int))) ⟨none, none, none, rfl, s2, hD2⟩ ?_ ?_ ?_⟩
    · rintro i σ G hi ⟨y3, y4, y5, rfl, sG, hD⟩
      exact SqT.mk (sG _ _ hb)
    rotate_left
    · rintro σ G ⟨y3, y4, y5, rfl, sG, hD⟩
      rw [List.length_map] at hD
      exact ⟨.ref D, rfl, q _ D sG nD hD⟩
    rintro i x σ G G2 hi ⟨y3, y4, y5, rfl, sG, hD⟩ ⟨t, x1, x2, rfl, nt, rfl, e1, e2⟩
    rw [List.length_map] at hi
    have ex1 : x1 = .int (i : Nat) := (Option.some.inj e1).symm
    obtain ⟨rfl, _⟩ := get_of e2
    subst ex1
    have sG2 : Same H (upd G t (.tup [.int (i : Nat), .int (ss.getD i 0)])) := sG.trans (same_upd nt)
    have hD2 := (same_upd nt (o := .tup [.int (i : Nat), .int (ss.getD i 0)])) _ _ hD
    refine ⟨t, _, rfl, SqT.mk upd_same, rfl, _, _, rfl, _, _, rfl, rfl, ?_⟩
    generalize upd G t (.tup [.int (i : Nat), .int (ss.getD i 0)]) = G2 at sG2 hD2 ⊢
    have en : ((ss.length : Int) + 1 - 1).toNat = ss.length := by omega
    refine ⟨.int (ss.length : Nat), rfl, _, _, rfl, rfl, 1, _, rfl, ⟨by decide, by decide, by omega, by omega⟩, fun L nL => ?_⟩
    rw [en]
    refine lc_range (lo := 1) (n := ss.length) (fun k F => Same G2 F ∧ F L = some (.lst ((sI (fws ss i k)).map V.int))) ⟨same_upd nL, upd_same⟩ (fun k F hk h => ?_) (fun F h => ?_)
    · obtain ⟨f, hL⟩ := h
      refine ⟨rfl, ?_⟩
      have ek : (1 : Int) + (k : Int) = ((k + 1 : Nat) : Int) := by omega
      rw [ek]
      refine ⟨.ref b, rfl, _, rfl, _, rfl, _, _, rfl, rfl, .int (ss.length : Nat), rfl, _, _, rfl, rfl, (show (0 : Int) < (ss.length : Int) by omega), b, _, _, _, rfl, rfl, SqT.mk (f _ _ (sG2 _ _ hb)), fw_ix hi, rfl, _, rfl, ?_⟩
      refine ite2 (fun e => ?_) (fun e => ?_)
      · have e1 : ss.getD (fw ss i (k + 1)) 0 = 1 := V.int.inj (of_decide_eq_true e)
        refine ⟨_, rfl, _, hL, by rw [List.length_map]; unfold sI; rw [List.length_map]; have := fws_len ss i k; omega, same_newer f nL, ?_⟩
        rw [upd_same, fws_pos e1]
        unfold sI
        rw [List.map_append, List.map_append]
        rfl
      · have e1 : ¬ ss.getD (fw ss i (k + 1)) 0 = 1 := fun z => e (decide_eq_true (by rw [z]))
        exact ⟨f, by rw [fws_neg e1]; exact hL⟩
    obtain ⟨f, hL⟩ := h
    obtain ⟨b0, hb0, hw⟩ := fws_head hi h1
    have sF := sG2.trans f
    have hDF := f _ _ hD2
    have hg : ((sI (fws ss i ss.length)).map V.int)[0]? = some (.int (wt ss i : Nat)) := by
      unfold sI
      rw [List.getElem?_map, List.getElem?_map, hb0, hw]
      rfl
    refine ⟨.ref D, rfl, .inl ⟨rfl, _, SqL.mk hDF⟩, .ref L, rfl, L, _, 0, _, rfl, rfl, SqL.mk hL, atI_nat (j := 0) hg, _, rfl, _, _, rfl, rfl, .inr (bit_bd (bit_at bs i)), D, _, _, rfl, rfl, hDF, by rw [List.length_map, hf_len]; omega, ?_⟩
    refine ⟨_, _, _, rfl, same_newer sF nD, ?_⟩
    rw [upd_same, hf_succ, List.map_append]
    rfl
def sp__law_long_right {K : PySem.W.Frag} {mg : Str → Option Value} (_ : Defs K mg) : Sp := fun vs H Q _ => ∃ (p : Addr) (n : Nat), vs = [.ref p] ∧ Bx H p n ∧ n < 100000000 ∧
  ∀ H', But p H H' → Bx H' p (n + 10) → Q (.bl true) H'
theorem rep0V (n : Nat) (x : Int) : (List.replicate n [V.int x]).flatten = (List.replicate n x).map V.int := rep_one n x
theorem ok__law_long_right (T : Defs K mg) : FnOk P w K mg base CX0 4 T.f__law_long_right T.fd__law_long_right ["_law_box_here"] (sp__law_long_right T) := by
  have G__law_take : FnOk P w K mg base CX0 1 T.f__law_take T.fd__law_take ["_law_box_here", "_law_many"] (sp__law_take K) := ok__law_take T
  have G__law_told : FnOk P w K mg base CX0 3 T.f__law_told T.fd__law_told ["_law_lower"] (sp__law_told T) := ok__law_told T
  have G_kept_round : FnOk P w K mg base (L2.CX P w) 3 T.f_kept_round T.fd_kept_round ["upper", "lower"] (sp_kept_round T) := ok_kept_round T
  refine T.F__law_long_right.ok sc__law_long_right (fun vs H Q E h => ?_) (fun cdv A outer s H vs Q E hr h => ?_)
  · obtain ⟨p, n0, rfl, hB, hn, q⟩ := h
    rfl
  · obtain ⟨p, n0, rfl, hB, hn, q⟩ := h
    refine ⟨_, PSs.nox (pss_cons (ps_par3 (i := 1) (j := 2) (l := 3) (by rfl) sc__law_long_right.nd rfl rfl rfl (by decide) (by decide) (by decide) rfl rfl rfl (pa_cons (pe_op op_sub pe_int (pe_call G__law_take (hr.mono (by decide)) (by rfl) T.g__law_take T.F__law_take.kp T.b__law_take .nil pass0 (pa_cons (pv 0) (pa_cons pe_int pa_nil)))) (pa_cons (pe_call G__law_take (hr.mono (by decide)) (by rfl) T.g__law_take T.F__law_take.kp T.b__law_take .nil pass0 (pa_cons (pv 0) (pa_cons pe_int pa_nil))) (pa_cons (pe_op op_add pe_int (pe_call G__law_take (hr.mono (by decide)) (by rfl) T.g__law_take T.F__law_take.kp T.b__law_take .nil pass0 (pa_cons (pv 0) (pa_cons pe_int pa_nil)))) pa_nil))) (by rfl))
    (pss_cons (ps_par (i := 4) (j := 5) (by rfl) sc__law_long_right.nd rfl rfl (by decide) rfl rfl (pa_cons (pe_op op_rep (pe_lst (pa_cons pe_int pa_nil)) (pv 1)) (pa_cons (pe_op op_rep (pe_lst (pa_cons pe_int pa_nil)) (pv 1)) pa_nil)) (by rfl))
    (pss_cons (ps_asg (pe_tup (pa_cons (pv 1) (pa_cons (pe_op op_sub (pv 3) (pv 2)) pa_nil))) (pg_tup rfl (pgs_cons (pg_sub (pv 4) (pv 2) set_list) (pgs_cons (pg_sub (pv 5) (pv 2) set_list) pgs_nil))))
    (pss_cons (ps_asg (pe_op op_sub (pv 1) (pe_ix ix_list (pv 5) (pv 2) (fun _ _ => rfl))) (pg_sub (pv 5) (pv 3) set_list))
    (pss_cons (ps_for PassesOwn.never rfl (pi_tup (pe_tup (pa_cons (pe_op op_rep (pe_lst (pa_cons pe_int pa_nil)) (pv 1)) (pa_cons (pv 4) (pa_cons (pv 5) pa_nil))))) (pg_name (i := 6) sc__law_long_right.nd rfl (.inl rfl)) (pss_cons (ps_set (i := 7) sc__law_long_right.nd rfl (.inl rfl) (pe_callTy call_tuple_of (by rfl) T.m_tuple bt_tuple (pa_cons (pe_lc (own := [("_law_number", 8)]) (g := gName 8) (tt := tYes) rfl sc__law_long_right.nd (pi_list (pv 6)) (blkOk_by (N := N__law_long_right) (sc := defScope s__law_long_right) (by decide +kernel)) (fun _ _ _ _ _ => (pg_name (i := 8) sc__law_long_right.nd rfl (.inl rfl))) (fun _ _ _ _ _ => pts_nil) (fun _ _ _ _ _ => (pe_callTy call_int1 (by rfl) T.m_int bt_int (pa_cons (pe_cmpR op_gt (pv 8) pe_int (nomark _)) pa_nil)))) pa_nil)))
    (pss_one (ps_if (PW.pt (pw_or (pt_cmpR (op_neD hr.units) (pe_call G__law_told (hr.mono (by decide)) (by rfl) T.g__law_told T.F__law_told.kp T.b__law_told .nil pass0 (pa_cons (pv 7) pa_nil)) (pv 6) (nomark _)) (pw_or1 (pt_cmpR (op_neD hr.units) (pe_call G_kept_round (hr.mono (by decide)) (by rfl) T.g_kept_round T.F_kept_round.kp T.b_kept_round .nil passL (pa_cons (pe_op op_repB (pe_tup (pa_cons pe_int pa_nil)) (pv 1)) (pa_cons (pv 7) pa_nil))) (pe_op op_repB (pe_tup (pa_cons pe_int pa_nil)) (pv 1)) (nomark _))))) (pss_one (ps_ret pe_bl)) pss_nil))))
    (pss_one (ps_ret pe_bl))))))), ?_⟩
    have hsl : sizeLine = 16777216 := by decide
    refine ⟨.ref p, rfl, p, 90, _, rfl, hB, by decide, by decide, by omega, fun H1 r1 b1 B1 l1 u1 => ⟨_, _, rfl, rfl, ?_⟩⟩
    refine ⟨.ref p, rfl, p, 2000, _, rfl, B1, by decide, by decide, by omega, fun H2 r2 b2 B2 l2 u2 => ?_⟩
    refine ⟨.ref p, rfl, p, 2000, _, rfl, B2, by decide, by decide, by omega, fun H3 r3 b3 B3 l3 u3 => ⟨_, _, rfl, rfl, _, _, _, rfl, ?_⟩⟩
    obtain ⟨n, hN⟩ : ∃ n : Nat, 4096 - r1 = (n : Nat) := Int.eq_ofNat_of_zero_le (by omega)
    obtain ⟨x, rfl⟩ := Int.eq_ofNat_of_zero_le l2
    obtain ⟨y, hY⟩ : ∃ y : Nat, 2000 + r3 = (y : Nat) := Int.eq_ofNat_of_zero_le (by omega)
    try dsimp only
    rw [hN, hY]
    have bX := b1.trans (b2.trans b3)
    clear b1 b2 b3 B1 B2
    -- two lists of noughts
    refine ⟨(show 1 ≤ sizeLine by decide), fun l nl => ⟨.int (n : Nat), rfl, l, _, _, rfl, rfl, upd_same, by omega, by omega, by rw [Int.toNat_natCast]; show 1 * n ≤ _; omega, fun D1 n1 => ?_⟩⟩
    rw [Int.toNat_natCast, rep0V]
    have g1 : Same H3 (upd (upd H3 l (.lst [.int 0])) D1 (.lst ((List.replicate n 0).map V.int))) := (same_upd nl).trans (same_upd n1)
    have h1 : (upd (upd H3 l (.lst [.int 0])) D1 (.lst ((List.replicate n 0).map V.int))) D1 = some (.lst ((List.replicate n 0).map V.int)) := upd_same
    have f1 : H3 D1 = none := (same_upd nl).free n1
    generalize upd (upd H3 l (.lst [.int 0])) D1 (.lst ((List.replicate n 0).map V.int)) = G1 at g1 h1 ⊢
    refine ⟨(show 1 ≤ sizeLine by decide), fun l' nl' => ⟨.int (n : Nat), rfl, l', _, _, rfl, rfl, upd_same, by omega, by omega, by rw [Int.toNat_natCast]; show 1 * n ≤ _; omega, fun D2 n2 => ?_⟩⟩
    rw [Int.toNat_natCast, rep0V]
    have g2 : Same G1 (upd (upd G1 l' (.lst [.int 0])) D2 (.lst ((List.replicate n 0).map V.int))) := (same_upd nl').trans (same_upd n2)
    have h2 : (upd (upd G1 l' (.lst [.int 0])) D2 (.lst ((List.replicate n 0).map V.int))) D2 = some (.lst ((List.replicate n 0).map V.int)) := upd_same
    have h12 := g2 _ _ h1
    have f2 : G1 D2 = none := (same_upd nl').free n2
    have D12 : D1 ≠ D2 := ne_of_none h1 f2
    have f2' : H3 D2 = none := g1.free f2
    generalize upd (upd G1 l' (.lst [.int 0])) D2 (.lst ((List.replicate n 0).map V.int)) = G2 at g2 h2 h12 ⊢
    have s2 := g1.trans g2
    clear g1 g2 h1 nl nl' n1 n2 f2
    refine ⟨_, _, rfl, ?_⟩
    -- their numbers
    refine ⟨.int (n : Nat), rfl, .int (y : Nat), rfl, .int (x : Nat), rfl, _, _, rfl, rfl, (show 2 ≤ sizeLine by decide), fun t nt => ?_⟩
    have lr : ((List.replicate n (0 : Int)).map V.int).length = n := by rw [List.length_map, List.length_replicate]
    refine ⟨t, _, rfl, SqT.mk upd_same, rfl, _, _, rfl, .ref D1, rfl, .int (x : Nat), rfl, D1, _, _, x, rfl, rfl, (same_upd nt) _ _ h12, ixn (by rw [lr]; omega), _, _, rfl, .ref D2, rfl, .int (x : Nat), rfl, D2, _, _, x, rfl, rfl, ?_, ixn (by rw [lr]; omega), rfl, ?_⟩
    · rw [upd_ne (Ne.symm D12)]
      exact (same_upd nt) _ _ h2
    try dsimp only
    obtain ⟨X1, sX, k1, k2⟩ : ∃ X1, Same H3 X1 ∧ X1 D1 = some (.lst (((List.replicate n 0).set x (n : Int)).map V.int)) ∧ X1 D2 = some (.lst (((List.replicate n 0).set x ((y : Int) - (x : Int))).map V.int)) ∧ X1 = upd (upd (upd G2 t (.tup [.int (n : Nat), .int ((y : Int) - (x : Int))])) D1 (.lst (((List.replicate n 0).map V.int).set x (.int (n : Nat))))) D2 (.lst (((List.replicate n 0).map V.int).set x (.int ((y : Int) - (x : Int))))) := by
      refine ⟨_, ?_, ?_, ?_, rfl⟩
      · exact same_newer (same_newer (s2.trans (same_upd nt)) f1) f2'
      · rw [upd_ne D12, upd_same, List.map_set]
      · rw [upd_same, List.map_set]
    obtain ⟨k2, eX⟩ := k2
    rw [← eX]
    clear eX h2 h12 nt s2
    have l2' : (((List.replicate n (0 : Int)).set x ((y : Int) - (x : Int))).map V.int).length = n := by rw [List.length_map, List.length_set, List.length_replicate]
    refine ⟨.int (n : Nat), rfl, .ref D2, rfl, .int (x : Nat), rfl, D2, _, _, .int ((y : Int) - (x : Int)), rfl, rfl, SqL.mk k2, atI_nat ?_, _, _, rfl, rfl, .ref D2, rfl, .int (y : Nat), rfl, D2, _, _, y, rfl, rfl, k2, ixn (by rw [l2']; omega), ?_⟩
    · rw [List.getElem?_map, List.getElem?_set, if_pos rfl, List.length_replicate, if_pos (by omega)]
      rfl
    try dsimp only
    rw [← List.map_set]
    have sX2 : Same H3 (upd X1 D2 (.lst ((((List.replicate n 0).set x ((y : Int) - (x : Int))).set y ((n : Int) - ((y : Int) - (x : Int)))).map V.int))) := same_newer sX f2'
    have m2 : (upd X1 D2 (.lst ((((List.replicate n 0).set x ((y : Int) - (x : Int))).set y ((n : Int) - ((y : Int) - (x : Int)))).map V.int))) D2 = some (.lst ((((List.replicate n 0).set x ((y : Int) - (x : Int))).set y ((n : Int) - ((y : Int) - (x : Int)))).map V.int)) := upd_same
    have m1 : (upd X1 D2 (.lst ((((List.replicate n 0).set x ((y : Int) - (x : Int))).set y ((n : Int) - ((y : Int) - (x : Int)))).map V.int))) D1 = some (.lst (((List.replicate n 0).set x (n : Int)).map V.int)) := by
      rw [upd_ne D12]
      exact k1
    generalize upd X1 D2 (.lst ((((List.replicate n 0).set x ((y : Int) - (x : Int))).set y ((n : Int) - ((y : Int) - (x : Int)))).map V.int)) = X2 at sX2 m1 m2 ⊢
    -- the three
    refine ⟨(show 1 ≤ sizeLine by decide), fun l nl => ⟨.int (n : Nat), rfl, l, _, _, rfl, rfl, upd_same, by omega, by omega, by rw [Int.toNat_natCast]; show 1 * n ≤ _; omega, fun D3 n3 => ?_⟩⟩
    rw [Int.toNat_natCast, rep0V]
    have s3 : Same X2 (upd (upd X2 l (.lst [.int 1])) D3 (.lst ((List.replicate n 1).map V.int))) := (same_upd nl).trans (same_upd n3)
    have m3 : (upd (upd X2 l (.lst [.int 1])) D3 (.lst ((List.replicate n 1).map V.int))) D3 = some (.lst ((List.replicate n 1).map V.int)) := upd_same
    generalize upd (upd X2 l (.lst [.int 1])) D3 (.lst ((List.replicate n 1).map V.int)) = X3 at s3 m3 ⊢
    refine ⟨.ref D1, rfl, .ref D2, rfl, (show 3 ≤ sizeLine by decide), fun tp ntp => ?_⟩
    have s4 : Same X2 (upd X3 tp (.tup [.ref D3, .ref D1, .ref D2])) := s3.trans (same_upd ntp)
    have hall : ∀ v, v ∈ [V.ref D3, V.ref D1, V.ref D2] → ∃ (E : Addr) (d ss : List Int), v = .ref E ∧ (upd X3 tp (.tup [.ref D3, .ref D1, .ref D2])) E = some (.lst (d.map V.int)) ∧ GoodD d ss ∧ ss.length = n := fun v hv => by
      rcases List.mem_cons.mp hv with rfl | hv
      · exact ⟨D3, _, _, rfl, (same_upd ntp) _ _ m3, good1 (by omega), List.length_replicate⟩
      rcases List.mem_cons.mp hv with rfl | hv
      · exact ⟨D1, _, _, rfl, s4 _ _ m1, good2 (by omega), by rw [List.length_set, List.length_replicate]⟩
      rw [List.mem_singleton.mp hv]
      exact ⟨D2, _, _, rfl, s4 _ _ m2, good3 (by omega) (by omega), by rw [List.length_set, List.length_set, List.length_replicate]⟩
    have htp : (upd X3 tp (.tup [.ref D3, .ref D1, .ref D2])) tp = some (.tup [.ref D3, .ref D1, .ref D2]) := upd_same
    have S4 := sX2.trans s4
    generalize upd X3 tp (.tup [.ref D3, .ref D1, .ref D2]) = X4 at s4 hall htp S4 ⊢
    have B4 := B3.same S4
    have bX4 := bX.trans (same_but S4)
    clear s3 m3 m1 m2 k1 k2 sX sX2 B3 bX s4 S4 nl n3 ntp
    refine ⟨tp, rfl, ⟨_, SqT.mk htp⟩, for_tup (xs := [V.ref D3, V.ref D1, V.ref D2]) (fun _ σ G => ∃ y6 y7, σ = [some (.ref p), some (.int (n : Nat)), some (.int (x : Nat)), some (.int (y : Nat)), some (.ref D1), some (.ref D2), y6, y7, none] ∧ Same X4 G) ⟨none, none, rfl, Same.refl X4⟩ ?_ ?_ ?_⟩
    · rintro j σ G hj ⟨y6, y7, rfl, sG⟩
      exact SqT.mk (sG _ _ htp)
    rotate_left
    · rintro σ G ⟨y6, y7, rfl, sG⟩
      exact q _ (bX4.trans (same_but sG)) ((B4.same sG).mono (by omega))
    rintro j v σ G hv ⟨y6, y7, rfl, sG⟩
    obtain ⟨D, d, ss, rfl, hd, ⟨bs, one, ed, es⟩, ls⟩ := hall v (List.mem_of_getElem? hv)
    have hdG := sG _ _ hd
    have ld : d.length = n := by rw [ed, hf_len, ls]
    refine ⟨.ref D, rfl, D, rfl, ⟨_, SqL.mk hdG⟩, fun L nL => ?_⟩
    refine lc_list (xs := d.map V.int) (fun i F => Same G F ∧ F L = some (.lst (((d.take i).map fun v => if 0 < v then (1 : Int) else 0).map V.int))) ⟨same_upd nL, upd_same⟩ (fun i F _ h => SqL.mk (h.1 _ _ hdG)) (fun i w F hw h => ?_) (fun F h => ?_)
    · obtain ⟨f, hL⟩ := h
      rw [List.getElem?_map] at hw
      obtain ⟨v0, hv0, rfl⟩ := Option.map_eq_some_iff.mp hw
      have hi := (List.getElem?_eq_some_iff.mp hv0).1
      refine ⟨rfl, yes_ite ?_⟩
      refine ⟨_, rfl, _, _, rfl, rfl, .inr ⟨_, rfl, ?_⟩⟩
      refine ⟨_, hL, by rw [List.length_map, List.length_map, List.length_take]; omega, same_newer f nL, ?_⟩
      rw [upd_same, List.take_add_one, hv0, List.map_append, List.map_append]
      simp only [Option.toList_some, List.map_cons, List.map_nil, decide_eq_true_eq, gt_iff_lt]
    obtain ⟨f, hL⟩ := h
    rw [List.length_map, List.take_length, ← es] at hL
    refine ⟨L, _, rfl, .inl ⟨SqL.mk hL, fun lo nlo => ?_⟩⟩
    have f2 := f.trans (same_upd nlo (o := .tup (ss.map V.int)))
    have hlo : (upd F lo (.tup (ss.map V.int))) lo = some (.tup (ss.map V.int)) := upd_same
    generalize upd F lo (.tup (ss.map V.int)) = F2 at f2 hlo ⊢
    refine ⟨.ref lo, rfl, lo, ss, rfl, hlo, bs, by omega, .inl ⟨one, fun F3 p3 f3 np3 hp3 => ?_⟩⟩
    rw [← ed] at hp3
    refine ⟨.ref D, rfl, neL hp3 (f3 _ _ (f2 _ _ hdG)) rfl ⟨_, rfl, iteF ?_⟩⟩
    refine ⟨(show 1 ≤ sizeLine by decide), fun t1 n1 => ⟨.int (n : Nat), rfl, rep_go (k := n) rfl upd_same (by omega) fun F4 p4 f4 hp4 => ?_⟩⟩
    have f34 := f3.trans ((same_upd n1).trans f4)
    refine ⟨.ref lo, rfl, p4, lo, List.replicate n 1, ss, rfl, ⟨hp4, f34 _ _ hlo, rp_bits (.inr rfl), bs⟩, by rw [List.length_replicate]; omega, .inl ⟨by rw [List.length_replicate, ls], one, fun F5 p5 f5 np5 hp5 => ?_⟩⟩
    have ek := kp_ones one
    rw [ls] at ek
    rw [ls, ek] at hp5
    refine ⟨(show 1 ≤ sizeLine by decide), fun t2 n2 => ⟨.int (n : Nat), rfl, rep_go (k := n) rfl upd_same (by omega) fun F6 p6 f6 hp6 => ?_⟩⟩
    refine neT (f6 _ _ ((same_upd n2) _ _ hp5)) hp6 rfl ⟨_, rfl, iteF ?_⟩
    exact ⟨_, _, rfl, sG.trans (f2.trans (f34.trans (f5.trans ((same_upd n2).trans f6))))⟩
/-! sum(tuple) -/
theorem preSum_take (ns : List Int) : ∀ k, preSum (fun i => ns.getD i 0) k = (ns.take k).sum
  | 0 => rfl
  | k + 1 => by
    show preSum (fun i => ns.getD i 0) k + ns.getD k 0 = _
    rw [preSum_take ns k, List.take_add_one, List.getD_eq_getElem?_getD]
    cases ns[k]? with
    | none => simp
    | some x => simp
def rSumT (K : PySem.W.Frag) : List V → Hp → VK → Prop := fun vs H Q => ∃ (a : Addr) (ns : List Int), vs = [V.ref a] ∧ SqT K H a (ns.map V.int) ∧ Q (.int ns.sum) H
theorem cr_sumT {X : Cx} (hc : X.calm = true) : CallR X (.builtin "sum") (rSumT X.K) := by
  intro pins s σ H vs us Q I r h
  obtain ⟨a, ns, rfl, hs, q⟩ := h
  obtain ⟨its, rv, ht, _⟩ := I.tuple hs
  rw [Vals.ref1 r]
  have hh := I.ok.hd hc
  have lta : a < s.heap.objs.size := by
    obtain ⟨o, ho, _⟩ := ht
    exact Heap.lt_size ho
  have hl := rv.length
  rw [List.length_map] at hl
  refine call_sum_walkG (wpAny_pyIter_tuple (show s.heap.IsTuple a its.toArray from ht) ⟨s.heap.objs.size, _, _, _, _, _, fun i => ns.getD i 0, rfl, Walks.tuple (A := X.A.in1) hh s.heap.objs.size a (Nat.ne_of_lt lta) its.toArray, ⟨⟨_, Heap.get?_push_size _ rfl, rfl, rfl⟩, (show s.heap.IsTuple a its.toArray from ht).at fun o e => Heap.get?_push_of_some _ e⟩, fun b hb => ?_, fun i v hv => ?_, fun h' tk t' hk => ?_⟩)
  · show b < (s.heap.push _).objs.size
    rw [Heap.size_push]
    rcases List.mem_cons.mp hb with z | z
    · rw [z]
      exact Nat.lt_succ_self _
    · rw [List.mem_singleton.mp z]
      exact Nat.lt_succ_of_lt lta
  · have hv2 : its[i]? = some v := by simpa using hv
    have hi : i < ns.length := by
      have := (List.getElem?_eq_some_iff.mp hv2).1
      omega
    obtain ⟨u, hu, ru⟩ := rv.get (show (ns.map V.int)[i]? = some (V.int ns[i]) by rw [List.getElem?_map, List.getElem?_eq_getElem hi]; rfl)
    rw [hv2] at hu
    cases hu
    obtain ⟨t, rfl⟩ := (show ∃ t, v = Value.int ns[i] t from ru)
    exact ⟨t, by
      show Value.int ns[i] t = Value.int (ns.getD i 0) t
      rw [List.getD_eq_getElem?_getD, List.getElem?_eq_getElem hi]
      rfl⟩
  · rw [preSum_take, List.take_of_length_le (by rw [List.size_toArray]; omega)]
    refine ⟨.int _, H, I.kept fun b o e => hk b o (fun z => ?_) (Heap.get?_push_of_some _ e), ⟨_, rfl⟩, q⟩
    rw [List.mem_singleton] at z
    rw [z] at e
    exact Nat.lt_irrefl _ (Heap.lt_size e)
theorem sumTK {X : Cx} {K : PySem.W.Frag} (h : X.K = K) (hc : X.calm = true) : CallR X (.builtin "sum") (rSumT K) := by
  subst h
  exact cr_sumT hc
theorem ksl_l : PySem.W.kitAny K (.type "list") [.type "str", .type "list"] = some true := kitAny_cons (kit_ty (r := false) (by decide +kernel)) (fun _ => kitAny_cons (r := true) (kit_ty (r := true) (by decide +kernel)) (fun z => by cases z) (fun _ => rfl)) (fun z => by cases z)
theorem ksl_s : PySem.W.kitAny K (.type "str") [.type "str", .type "list"] = some true := kitAny_cons (r := true) (kit_ty (r := true) (by decide +kernel)) (fun z => by cases z) (fun _ => rfl)
theorem k_ll : kitB "list" "list" = some true := by decide +kernel
theorem k_sl : kitB "str" "list" = some false := by decide +kernel
theorem pi_ls {X : Cx} {tg l : Expr} {tl : TE} (hl : PE X l tl) : PI X tg l (fun σ H R => iList X.K tl σ H R ∨ iStr tl σ H R) := ⟨fun pins s σ H R I h => h.elim (fun h => (pi_list hl).run pins s σ H R I h) (fun h => (pi_str hl).run pins s σ H R I h)⟩
theorem hu_len (us ls : List Int) (i : Nat) : (hu us ls i).length = i := by
  unfold hu
  rw [List.length_map, List.length_range]
def sp_law {K : PySem.W.Frag} {mg : Str → Option Value} (_ : Defs K mg) : Sp := fun vs H Q _ => ∃ (a : Addr) (ns : List Int), vs = [.ref a] ∧ SqL K H a (ns.map V.int) ∧ ns.length ≤ 63 ∧ True ∧ ∀ H', Q (.bl true) H'
theorem ok_law (T : Defs K mg) : FnOk P w K mg base CX0 5 T.f_law T.fd_law ["_law_script"] (sp_law T) := by
  have G__law_folded : FnOk P w K mg base CX0 1 T.f__law_folded T.fd__law_folded ["_law_script", "_law_many"] (sp__law_folded K) := ok__law_folded T
  have G__law_box : FnOk P w K mg base CX0 1 T.f__law_box T.fd__law_box ["_law_script", "_law_k"] (sp__law_box K) := ok__law_box T
  have G__law_two : FnOk P w K mg base CX0 3 T.f__law_two T.fd__law_two ["_law_box_here", "_law_most"] (sp__law_two K) := ok__law_two T
  have G__law_due : FnOk P w K mg base CX0 1 T.f__law_due T.fd__law_due ["_law_lower"] (sp__law_due K) := ok__law_due T
  have G__law_take : FnOk P w K mg base CX0 1 T.f__law_take T.fd__law_take ["_law_box_here", "_law_many"] (sp__law_take K) := ok__law_take T
  have G__law_long_right : FnOk P w K mg base CX0 4 T.f__law_long_right T.fd__law_long_right ["_law_box_here"] (sp__law_long_right T) := ok__law_long_right T
  have G__law_told : FnOk P w K mg base CX0 3 T.f__law_told T.fd__law_told ["_law_lower"] (sp__law_told T) := ok__law_told T
  have G_kept_round : FnOk P w K mg base (L2.CX P w) 3 T.f_kept_round T.fd_kept_round ["upper", "lower"] (sp_kept_round T) := ok_kept_round T
  refine T.F_law.ok sc_law (fun vs H Q E h => ?_) (fun cdv A outer s H vs Q E hr h => ?_)
  · obtain ⟨a, ns, rfl, hS, hlen, _, q⟩ := h
    rfl
  · obtain ⟨a, ns, rfl, hS, hlen, _, q⟩ := h
    refine ⟨_, PSs.nox (pss_cons (ps_set (i := 1) sc_law.nd rfl (.inl rfl) (pe_call G__law_folded (hr.mono (by decide)) (by rfl) T.g__law_folded T.F__law_folded.kp T.b__law_folded .nil pass0 (pa_cons (pv 0) (pa_cons pe_int pa_nil))))
    (pss_cons (ps_for PassesOwn.never rfl (pi_range1 (by rfl) T.m_range (pa_cons (pe_callB (call_max2 rfl) (by rfl) T.m_max bt_max (pa_cons pe_int (pa_cons (pe_callB call_len_seq (by rfl) T.m_len bt_len (pa_cons (pv 1) pa_nil)) pa_nil))) pa_nil)) (pg_name (i := 2) sc_law.nd rfl (.inl rfl)) (pss_cons (ps_set (i := 3) sc_law.nd rfl (.inl rfl) (pe_call G__law_box (hr.mono (by decide)) (by rfl) T.g__law_box T.F__law_box.kp T.b__law_box .nil pass0 (pa_cons (pv 1) (pa_cons (pv 2) pa_nil))))
    (pss_cons (ps_if (PW.pt (pw_and (pt_cmpR op_eq (pe_call G__law_take (hr.mono (by decide)) (by rfl) T.g__law_take T.F__law_take.kp T.b__law_take .nil pass0 (pa_cons (pv 3) (pa_cons pe_int pa_nil))) pe_int (nomark _)) (pw_and1 (pt_not (pt_val (pe_call G__law_long_right (hr.mono (by decide)) (by rfl) T.g__law_long_right T.F__law_long_right.kp T.b__law_long_right .nil pass0 (pa_cons (pv 3) pa_nil))))))) (pss_one (ps_ret pe_bl)) pss_nil)
    (pss_one (ps_for PassesOwn.never rfl (pi_range1 (by rfl) T.m_range (pa_cons pe_int pa_nil)) (pg_name (i := 4) sc_law.nd rfl (.inl rfl)) (pss_cons (ps_asg (pe_call G__law_two (hr.mono (by decide)) (by rfl) T.g__law_two T.F__law_two.kp T.b__law_two .nil pass0 (pa_cons (pv 3) (pa_cons pe_int pa_nil))) (pg_tup rfl (pgs_cons (pg_name (i := 5) sc_law.nd rfl (.inl rfl)) (pgs_cons (pg_name (i := 6) sc_law.nd rfl (.inl rfl)) pgs_nil))))
    (pss_cons (ps_if (pt_cmpR op_eq (pe_call G__law_take (hr.mono (by decide)) (by rfl) T.g__law_take T.F__law_take.kp T.b__law_take .nil pass0 (pa_cons (pv 3) (pa_cons pe_int pa_nil))) pe_int (nomark _)) (pss_one (ps_set (i := 6) sc_law.nd rfl (.inl rfl) (pe_op op_repB (pe_tup (pa_cons pe_int pa_nil)) (pe_callB call_len_seq (by rfl) T.m_len bt_len (pa_cons (pv 6) pa_nil))))) pss_nil)
    (pss_cons (ps_set (i := 7) sc_law.nd rfl (.inl rfl) (pe_call G__law_due (hr.mono (by decide)) (by rfl) T.g__law_due T.F__law_due.kp T.b__law_due .nil pass0 (pa_cons (pv 6) pa_nil)))
    (pss_cons (ps_for PassesOwn.never rfl (pi_range1 (by rfl) T.m_range (pa_cons pe_int pa_nil)) (pg_name (i := 8) sc_law.nd rfl (.inl rfl)) (pss_cons (ps_set (i := 9) sc_law.nd rfl (.inl rfl) (pe_call G__law_told (hr.mono (by decide)) (by rfl) T.g__law_told T.F__law_told.kp T.b__law_told .nil pass0 (pa_cons (pv 6) pa_nil)))
    (pss_cons (ps_if (PW.pt (pw_or (pt_not (pt_val (pe_callB call_isiT (by rfl) T.m_isinstance bt_isinstance (pa_cons (pv 9) (pa_cons (pe_tup (pa_cons (pe_bltn (v := .ty "str") (by rfl) T.m_str bt_str rfl) (pa_cons (pe_bltn (v := .ty "list") (by rfl) T.m_list bt_list rfl) pa_nil))) pa_nil))))) (pw_or (pt_cmpR (op_neD hr.units) (pv 9) (pv 7) (nomark _)) (pw_or1 (pt_val (pe_callB (cr_any rfl) (by rfl) T.m_any bt_any (pa_cons (pe_lc (own := [("_law_one", 11)]) (g := gName 11) (tt := tYes) rfl sc_law.nd (pi_ls (pv 9)) (blkOk_by (N := N_law) (sc := defScope s_law) (by decide +kernel)) (fun _ _ _ _ _ => (pg_name (i := 11) sc_law.nd rfl (.inl rfl))) (fun _ _ _ _ _ => pts_nil) (fun _ _ _ _ _ => (pe_callB (isiK (K := K) rfl) (by rfl) T.m_isinstance bt_isinstance (pa_cons (pv 11) (pa_cons (pe_bltn (v := .ty "bool") (by rfl) T.m_bool bt_bool rfl) pa_nil))))) pa_nil))))))) (pss_one (ps_ret pe_bl)) pss_nil)
    (pss_one (ps_if (pt_val (pe_callB call_isi (by rfl) T.m_isinstance bt_isinstance (pa_cons (pv 9) (pa_cons (pe_bltn (v := .ty "list") (by rfl) T.m_list bt_list rfl) pa_nil)))) (pss_one (ps_expr (pe_bm PySem.F.plainAttrs_list PySem.F.slot_list_append PySem.F.type_list_append mt_append (pv 9) (pa_cons pe_int pa_nil)))) pss_nil)))))
    (pss_one (ps_if (pt_val (pe_callB call_isi (by rfl) T.m_isinstance bt_isinstance (pa_cons (pv 7) (pa_cons (pe_bltn (v := .ty "list") (by rfl) T.m_list bt_list rfl) pa_nil)))) (pss_cons (ps_set (i := 10) sc_law.nd rfl (.inl rfl) (pe_callB (cr_sum rfl) (by rfl) T.m_sum bt_sum (pa_cons (pe_lc (own := [("_law_one", 11), ("_law_bit", 12)]) (g := gTup K 2 (gCons (gName 11) (gCons (gName 12) gNil))) (tt := tYes) rfl sc_law.nd (pi_zipM (by rfl) T.m_zip (pa_cons (pv 7) (pa_cons (pv 5) pa_nil))) (blkOk_by (N := N_law) (sc := defScope s_law) (by decide +kernel)) (fun _ _ _ _ _ => (pg_tupK (K := K) rfl rfl (pgs_cons (pg_name (i := 11) sc_law.nd rfl (.inl rfl)) (pgs_cons (pg_name (i := 12) sc_law.nd rfl (.inl rfl)) pgs_nil)))) (fun _ _ _ _ _ => pts_nil) (fun _ _ _ _ _ => (pe_op op_mul (pv 11) (pv 12)))) pa_nil)))
    (pss_one (ps_if (PW.pt (pw_or (pt_cmpR op_ne (pe_callB (cr_sum rfl) (by rfl) T.m_sum bt_sum (pa_cons (pv 7) pa_nil)) (pe_callB call_len_seq (by rfl) T.m_len bt_len (pa_cons (pv 6) pa_nil)) (nomark _)) (pw_or1 (pt_cmpR op_ne (pe_callB (cr_sumT rfl) (by rfl) T.m_sum bt_sum (pa_cons (pe_call G_kept_round (hr.mono (by decide)) (by rfl) T.g_kept_round T.F_kept_round.kp T.b_kept_round .nil passL (pa_cons (pv 5) (pa_cons (pv 6) pa_nil))) pa_nil)) (pv 10) (nomark _))))) (pss_one (ps_ret pe_bl)) pss_nil))) pss_nil)))))))))))
    (pss_one (ps_ret pe_bl)))), ?_⟩
    have hsl : sizeLine = 16777216 := by decide
    refine ⟨.ref a, rfl, a, ns, 4, rfl, hS, hlen, by decide, by decide, fun H1 c cs s1 nc hc lc => ?_⟩
    have hn : (if (((cs.map V.int).length : Nat) : Int) > 2 then (((cs.map V.int).length : Nat) : Int) else 2) ≤ 4 ∧ 0 ≤ (if (((cs.map V.int).length : Nat) : Int) > 2 then (((cs.map V.int).length : Nat) : Int) else 2) := by
      rw [List.length_map]
      split <;> omega
    refine ⟨.ref c, rfl, c, _, rfl, .inl (SqL.mk hc), _, _, rfl, _, rfl, by omega, by omega, for_range (fun i σ H2 => ∃ y2 y3 y4 y5 y6 y7 y8 y9 y10, σ = [some (.ref a), some (.ref c), y2, y3, y4, y5, y6, y7, y8, y9, y10, none, none] ∧ Same H1 H2) ⟨none, none, none, none, none, none, none, none, none, rfl, Same.refl H1⟩ ?_ ?_⟩
    rotate_left
    · rintro σ H2 ⟨y2, y3, y4, y5, y6, y7, y8, y9, y10, rfl, s2⟩
      exact q _
    rintro i σ H2 hi ⟨y2, y3, y4, y5, y6, y7, y8, y9, y10, rfl, s2⟩
    have hi2 : i < 1000 := by omega
    refine ⟨.ref c, rfl, .int (0 + (i : Int)), rfl, c, cs, i, by rw [Int.zero_add]; rfl, SqL.mk (s2 _ _ hc), hi2, fun H3 b s3 nb hB => ?_⟩
    have nb1 : H1 b = none := s2.free nb
    have s13 := s2.trans s3
    refine nx_via (fun σ G => σ = [some (.ref a), some (.ref c), some (.int (0 + (i : Int))), some (.ref b), y4, y5, y6, y7, y8, y9, y10, none, none] ∧ But b H3 G ∧ Bx G b 100) (fun N key => ?_) ?_
    · refine ⟨.ref b, rfl, b, 16, _, rfl, hB, by decide, by decide, by omega, fun F1 r1 c1 B1 l1 u1 => ⟨rfl, _, rfl, ite2 (fun e => ?_) (fun e => ?_)⟩⟩
      rotate_left
      · exact iteF (key _ _ ⟨rfl, c1, B1.mono (by omega)⟩)
      refine ⟨.ref b, rfl, b, _, rfl, B1, by omega, fun F2 c2 B2 => ⟨_, rfl, iteF ?_⟩⟩
      exact key _ _ ⟨rfl, c1.trans c2, B2.mono (by omega)⟩
    rintro σ G0 ⟨rfl, bG0, BG0⟩
    refine ⟨8, rfl, by decide, by decide, for_range (n := 8) (fun j σ G => ∃ y4 y5 y6 y7 y8 y9 y10, σ = [some (.ref a), some (.ref c), some (.int (0 + (i : Int))), some (.ref b), y4, y5, y6, y7, y8, y9, y10, none, none] ∧ But b H3 G ∧ Bx G b (100 + 20000 * j)) ⟨_, _, _, _, _, _, _, rfl, bG0, BG0⟩ ?_ ?_⟩
    rotate_left
    · rintro σ G ⟨y4, y5, y6, y7, y8, y9, y10, rfl, bG, BG⟩
      exact ⟨_, _, _, _, _, _, _, _, _, rfl, But.same nb1 s13 bG⟩
    clear bG0 BG0
    rintro j σ G hj ⟨y4, y5, y6, y7, y8, y9, y10, rfl, bG, BG⟩
    refine ⟨.ref b, rfl, b, 60, _, rfl, BG, by decide, by decide, by omega, fun G1 t u l rs ss c1 B1 ht two hl h1 h60 => ?_⟩
    refine ⟨t, _, rfl, SqT.mk ht, rfl, _, _, rfl, _, _, rfl, rfl, ?_⟩
    have b1 := bG.trans c1
    clear ht c1 bG BG
    refine nx_via (fun σ G => ∃ l ss, σ = [some (.ref a), some (.ref c), some (.int (0 + (i : Int))), some (.ref b), some (.int (0 + (j : Int))), some (.ref u), some (.ref l), y7, y8, y9, y10, none, none] ∧ But b H3 G ∧ Bx G b (100 + 20000 * j + 16000) ∧ Two G u l rs ss ∧ rs.length = ss.length) (fun N key => ?_) ?_
    · refine ⟨.ref b, rfl, b, 5, _, rfl, B1, by decide, by decide, by omega, fun G2 r2 c2 B2 l2 u2 => ⟨rfl, _, rfl, ite2 (fun e => ?_) (fun e => ?_)⟩⟩
      rotate_left
      · exact key _ _ ⟨l, ss, rfl, b1.trans c2, B2.mono (by omega), two.but B1 c2, hl⟩
      have two2 := two.but B1 c2
      refine ⟨(show 1 ≤ sizeLine by decide), fun t1 n1 => ?_⟩
      have two5 := two2.same (same_upd n1 (o := .tup [.int 0]))
      refine ⟨.ref l, rfl, l, _, rfl, .inr (SqT.mk two5.2.1), rep_go (k := ss.length) (by rw [List.length_map]) upd_same (by omega) fun G5 p1 s5 hp1 => ?_⟩
      have s25 := (same_upd n1 (o := .tup [.int 0])).trans s5
      exact key _ _ ⟨p1, List.replicate ss.length 0, rfl, b1.trans (c2.trans (same_but s25)), (B2.same s25).mono (by omega), ⟨(two2.same s25).1, hp1, two.2.2.1, rp_bits (.inl rfl)⟩, by rw [List.length_replicate]; exact hl⟩
    clear two B1 b1 hl
    rintro σ G3 ⟨l, ss, rfl, b3, B3, two, hl⟩
    refine ⟨.ref l, rfl, l, ss, rfl, two.2.1, two.2.2.2, by omega, ?_⟩
    by_cases one : (1 : Int) ∈ ss
    rotate_left
    · refine .inr ⟨one, fun G4 s4 => ?_⟩
      refine ⟨2, rfl, by decide, by decide, for_range (n := 2) (fun _ σ G => ∃ y8 y9, σ = [some (.ref a), some (.ref c), some (.int (0 + (i : Int))), some (.ref b), some (.int (0 + (j : Int))), some (.ref u), some (.ref l), some (.str "noone"), y8, y9, y10, none, none] ∧ Same G3 G) ⟨_, _, rfl, s4⟩ ?_ ?_⟩
      · rintro k σ G hk ⟨y8, y9, rfl, sG⟩
        refine ⟨.ref l, rfl, l, ss, rfl, (two.same sG).2.1, two.2.2.2, by omega, .inr ⟨one, fun F1 s1 => ?_⟩⟩
        refine ⟨.str "noone", rfl, (show 2 ≤ sizeLine by decide), fun tp np => ?_⟩
        have s2 := same_upd np (o := .tup [.ty "str", .ty "list"])
        refine ⟨_, tp, _, _, _, _, rfl, upd_same, .cons (.ty "str") (.cons (.ty "list") .nil), .base (.str "noone"), ksl_s, _, rfl, iteF ?_⟩
        generalize upd F1 tp (.tup [.ty "str", .ty "list"]) = F2 at s2 ⊢
        refine ⟨.str "noone", rfl, .str "noone", rfl, neS (by decide +kernel) ⟨_, rfl, iteF ?_⟩⟩
        refine .inr ⟨.str "noone", rfl, _, rfl, fun D nD => ?_⟩
        refine lc_it (walk_str (z := "noone")) (fun i G => Same F2 G ∧ G D = some (.lst ((List.replicate i false).map V.bl))) ⟨same_upd nD, upd_same⟩ (fun _ _ _ _ => trivial) ?_ ?_
        · rintro n x E1 E2 hn ⟨e1, hD⟩ ⟨rfl, ch, hch, rfl⟩
          refine ⟨rfl, yes_ite ?_⟩
          refine ⟨_, rfl, _, _, _, _, _, rfl, .ty "bool", .base (.str _), kIn k_sb, ?_⟩
          have hn : n < 100000 := Nat.lt_of_lt_of_le hn (by decide)
          refine ⟨_, hD, by rw [List.length_map, List.length_replicate]; omega, same_newer e1 nD, ?_⟩
          rw [upd_same, List.replicate_succ', List.map_append]
          rfl
        · rintro E1 ⟨e1, hD⟩
          refine ⟨D, _, rfl, SqL.mk hD, _, rfl, ?_⟩
          rw [any_no]
          refine iteF ?_
          refine ⟨.str "noone", rfl, _, _, _, _, _, rfl, .ty "list", .base (.str _), kIn k_sl, _, rfl, iteF ?_⟩
          exact ⟨_, _, rfl, sG.trans (s1.trans (s2.trans e1))⟩
      · rintro σ G ⟨y8, y9, rfl, sG⟩
        refine ⟨.str "noone", rfl, _, _, _, _, _, rfl, .ty "list", .base (.str _), kIn k_sl, _, rfl, iteF ?_⟩
        exact ⟨_, _, _, _, _, _, _, rfl, b3.trans (same_but sG), (B3.same sG).mono (by omega)⟩
    refine .inl ⟨one, fun G4 d s4 nd hd => ?_⟩
    refine ⟨2, rfl, by decide, by decide, for_range (n := 2) (fun _ σ G => ∃ y8 y9, σ = [some (.ref a), some (.ref c), some (.int (0 + (i : Int))), some (.ref b), some (.int (0 + (j : Int))), some (.ref u), some (.ref l), some (.ref d), y8, y9, y10, none, none] ∧ Same G4 G) ⟨_, _, rfl, Same.refl G4⟩ ?_ ?_⟩
    · rintro k σ G hk ⟨y8, y9, rfl, sG⟩
      refine ⟨.ref l, rfl, l, ss, rfl, ((two.same s4).same sG).2.1, two.2.2.2, by omega, .inl ⟨one, fun F1 p s1 np hp => ?_⟩⟩
      refine ⟨.ref p, rfl, (show 2 ≤ sizeLine by decide), fun tp ntp => ?_⟩
      have s2 := same_upd ntp (o := .tup [.ty "str", .ty "list"])
      refine ⟨_, tp, _, _, _, _, rfl, upd_same, .cons (.ty "str") (.cons (.ty "list") .nil), .base (.lst (s2 _ _ hp)), ksl_l, _, rfl, iteF ?_⟩
      generalize upd F1 tp (.tup [.ty "str", .ty "list"]) = F2 at s2 ⊢
      have hp2 := s2 _ _ hp
      refine ⟨.ref p, rfl, .ref d, rfl, neL hp2 (s2 _ _ (s1 _ _ (sG _ _ hd))) rfl ⟨_, rfl, iteF ?_⟩⟩
      refine .inl ⟨.ref p, rfl, p, rfl, ⟨_, SqL.mk hp2⟩, fun D nD => ?_⟩
      refine lc_list (xs := (hf ss ss.length).map V.int) (fun i G => Same F2 G ∧ G D = some (.lst ((List.replicate i false).map V.bl))) ⟨same_upd nD, upd_same⟩ (fun _ _ _ h => SqL.mk (h.1 _ _ hp2)) ?_ ?_
      · rintro n x E1 hx ⟨e1, hD⟩
        obtain ⟨rfl, hn⟩ := get_of hx
        rw [hf_len] at hn
        refine ⟨rfl, yes_ite ?_⟩
        refine ⟨_, rfl, _, _, _, _, _, rfl, .ty "bool", .base (.int _), kIn k_ib, ?_⟩
        refine ⟨_, hD, by rw [List.length_map, List.length_replicate]; omega, same_newer e1 nD, ?_⟩
        rw [upd_same, List.replicate_succ', List.map_append]
        rfl
      · rintro E1 ⟨e1, hD⟩
        refine ⟨D, _, rfl, SqL.mk hD, _, rfl, ?_⟩
        rw [any_no]
        refine iteF ?_
        have hp3 := e1 _ _ hp2
        refine ⟨.ref p, rfl, _, _, _, _, _, rfl, .ty "list", .base (.lst hp3), kIn k_ll, _, rfl, iteT ?_⟩
        refine ⟨.ref p, rfl, .inl ⟨rfl, _, SqL.mk hp3⟩, p, _, _, rfl, rfl, hp3, by rw [List.length_map, hf_len]; omega, ?_⟩
        exact ⟨_, _, rfl, sG.trans (same_newer (s1.trans (s2.trans e1)) np)⟩
    rintro σ G ⟨y8, y9, rfl, sG⟩
    have s34 := s4.trans sG
    have twoG := two.same s34
    have hdG := sG _ _ hd
    have bt := bit_at two.2.2.2
    refine ⟨.ref d, rfl, _, _, _, _, _, rfl, .ty "list", .base (.lst hdG), kIn k_ll, _, rfl, iteT ?_⟩
    refine ⟨.ref d, rfl, .ref u, rfl, d, u, _, _, rfl, SqL.mk hdG, SqT.mk twoG.1, fun D nD => ?_⟩
    refine lc_it (walk_zipM (xs := (hf ss ss.length).map V.int) (ys := rs.map V.int) (by rw [List.length_map, List.length_map, hf_len, hl])) (fun i E => Same G E ∧ E D = some (.lst ((hu rs ss i).map V.int))) ⟨same_upd nD, upd_same⟩ (fun _ _ _ h => ⟨SqL.mk (h.1 _ _ hdG), SqT.mk (h.1 _ _ twoG.1)⟩) ?_ ?_
    · rintro n x E1 E2 hn ⟨e1, hD⟩ ⟨t, x1, x2, rfl, nt, rfl, g1, g2⟩
      obtain ⟨rfl, hn1⟩ := get_of g1
      obtain ⟨rfl, hn2⟩ := get_of g2
      rw [hf_len] at hn1
      rw [hf_getD hn1]
      refine ⟨t, _, rfl, SqT.mk upd_same, rfl, _, _, rfl, _, _, rfl, rfl, rfl, yes_ite ?_⟩
      refine ⟨_, rfl, _, rfl, _, _, rfl, rfl, .inr (bit_bd (bit_at two.2.2.1 n)), ?_⟩
      have e2 := same_upd nt (o := .tup [.int ((wt ss n : Int) * ss.getD n 0), .int (rs.getD n 0)])
      refine ⟨_, e2 _ _ hD, by rw [List.length_map, hu_len]; omega, same_newer (e1.trans e2) nD, ?_⟩
      rw [upd_same, hu_succ, List.map_append]
      rfl
    rintro E1 ⟨e1, hD⟩
    rw [List.length_map, hf_len] at hD
    refine ⟨D, _, rfl, SqL.mk hD, ?_⟩
    have hd1 := e1 _ _ hdG
    have two1 := twoG.same e1
    refine ⟨.ref d, rfl, d, _, rfl, SqL.mk hd1, .ref l, rfl, l, _, rfl, .inr (SqT.mk two1.2.1), rfl, _, rfl, ?_⟩
    rw [List.length_map, hf_all bt one, decide_eq_true rfl]
    refine iteF ?_
    refine ⟨.ref u, rfl, .ref l, rfl, u, l, rs, ss, rfl, two1, by omega, .inl ⟨hl, one, fun E2 p2 e2 n2 hp2 => ?_⟩⟩
    refine ⟨p2, _, rfl, SqT.mk hp2, _, rfl, rfl, _, rfl, ?_⟩
    rw [kp_all bt one, decide_eq_true rfl]
    refine iteF ?_
    have sE := s34.trans (e1.trans e2)
    exact ⟨_, _, _, _, _, _, _, rfl, b3.trans (same_but sE), (B3.same sE).mono (by omega)⟩
end
def d_refuse_unlike : He.DefD := ⟨("refuse_unlike", none), "refuse_unlike", "refuse_unlike", defArgs s_refuse_unlike, defBody s_refuse_unlike, defScope s_refuse_unlike, [], []⟩
def d_kept : He.DefD := ⟨("kept", none), "kept", "kept", defArgs s_kept, defBody s_kept, defScope s_kept, [], []⟩
def d_refuse_no_one : He.DefD := ⟨("refuse_no_one", none), "refuse_no_one", "refuse_no_one", defArgs s_refuse_no_one, defBody s_refuse_no_one, defScope s_refuse_no_one, [], []⟩
def d_kept_round : He.DefD := ⟨("kept_round", none), "kept_round", "kept_round", defArgs s_kept_round, defBody s_kept_round, defScope s_kept_round, [], []⟩
def d_held_for : He.DefD := ⟨("held_for", none), "held_for", "held_for", defArgs s_held_for, defBody s_held_for, defScope s_held_for, [], []⟩
def d__law_box : He.DefD := ⟨("_law_box", none), "_law_box", "_law_box", defArgs s__law_box, defBody s__law_box, defScope s__law_box, [], []⟩
def d__law_take : He.DefD := ⟨("_law_take", none), "_law_take", "_law_take", defArgs s__law_take, defBody s__law_take, defScope s__law_take, [], []⟩
def d__law_folded : He.DefD := ⟨("_law_folded", none), "_law_folded", "_law_folded", defArgs s__law_folded, defBody s__law_folded, defScope s__law_folded, [], []⟩
def d__law_row : He.DefD := ⟨("_law_row", none), "_law_row", "_law_row", defArgs s__law_row, defBody s__law_row, defScope s__law_row, [], []⟩
def d__law_two : He.DefD := ⟨("_law_two", none), "_law_two", "_law_two", defArgs s__law_two, defBody s__law_two, defScope s__law_two, [], []⟩
def d__law_refusal : He.DefD := ⟨("_law_refusal", none), "_law_refusal", "_law_refusal", defArgs s__law_refusal, defBody s__law_refusal, defScope s__law_refusal, [], []⟩
def d__law_told : He.DefD := ⟨("_law_told", none), "_law_told", "_law_told", defArgs s__law_told, defBody s__law_told, defScope s__law_told, [], []⟩
def d__law_due : He.DefD := ⟨("_law_due", none), "_law_due", "_law_due", defArgs s__law_due, defBody s__law_due, defScope s__law_due, [], []⟩
def d__law_long_right : He.DefD := ⟨("_law_long_right", none), "_law_long_right", "_law_long_right", defArgs s__law_long_right, defBody s__law_long_right, defScope s__law_long_right, [], []⟩
def d_law : He.DefD := ⟨("law", none), "law", "law", defArgs s_law, defBody s_law, defScope s_law, [], []⟩
def hfn : List He.DefD := [d_refuse_unlike, d_kept, d_refuse_no_one, d_kept_round, d_held_for, d__law_box, d__law_take, d__law_folded, d__law_row, d__law_two, d__law_refusal, d__law_told, d__law_due, d__law_long_right, d_law]
def hfa : List He.Fa := [.glo "refuse_unlike", .glo "kept", .glo "refuse_no_one", .glo "kept_round", .glo "held_for", .glo "_law_box", .glo "_law_take", .glo "_law_folded", .glo "_law_row", .glo "_law_two", .glo "_law_refusal", .glo "_law_told", .glo "_law_due", .glo "_law_long_right", .glo "law", .free "ValueError", .free "abs", .free "any", .free "bool", .free "divmod", .free "enumerate", .free "int", .free "isinstance", .free "len", .free "list", .free "max", .free "range", .free "str", .free "sum", .free "tuple", .free "zip", .glo "OnesError", .glo "Unlike", .glo "NoSuch", .glo "NoOne", .glo "NoRound", .glo "BadText", .glo "BadSheet", .exc "Unlike", .exm "Unlike" "OnesError" true, .exc "NoOne", .exm "NoOne" "OnesError" true]
def htf : List He.Defn := []
abbrev Hex (K : PySem.W.Frag) : Prop := (PySem.W.findIn K (.ref (He.ga K "Unlike")) "__getattribute__" = some (some (.builtin "BaseException.__getattribute__"))) ∧ (PySem.W.findIn K (.ref (He.ga K "Unlike")) "__getattr__" = some none) ∧ (PySem.W.subIn K (.ref (He.ga K "Unlike")) (.type "BaseException") = some true) ∧ (PySem.W.hasDictIn K (He.ga K "Unlike") = true) ∧ (PySem.W.findIn K (.ref (He.ga K "Unlike")) "__class__" = some (some (.builtin "object.__class__"))) ∧ (PySem.W.specialIn K (.builtin "object.__class__") "__get__" = some (some (.builtin "getset_descriptor.__get__"))) ∧ (PySem.W.takesIn K (.builtin "object.__class__") = some true) ∧ (PySem.W.mroIn K (He.ga K "Unlike") (.type "object") = some true) ∧ (PySem.W.kitOne K (.ref (He.ga K "Unlike")) (.ref (He.ga K "OnesError")) = some true) ∧ (PySem.W.kitOne K (.ref (He.ga K "Unlike")) (.ref (He.ga K "Unlike")) = some true) ∧ (PySem.W.kitOne K (.ref (He.ga K "Unlike")) (.ref (He.ga K "NoSuch")) = some false) ∧ (PySem.W.kitOne K (.ref (He.ga K "Unlike")) (.ref (He.ga K "NoOne")) = some false) ∧ (PySem.W.kitOne K (.ref (He.ga K "Unlike")) (.ref (He.ga K "NoRound")) = some false) ∧ (PySem.W.kitOne K (.ref (He.ga K "Unlike")) (.ref (He.ga K "BadText")) = some false) ∧ (PySem.W.kitOne K (.ref (He.ga K "Unlike")) (.ref (He.ga K "BadSheet")) = some false) ∧ (PySem.W.kitOne K (.ref (He.ga K "Unlike")) (.type "ValueError") = some true) ∧ (PySem.W.findIn K (.ref (He.ga K "NoOne")) "__getattribute__" = some (some (.builtin "BaseException.__getattribute__"))) ∧ (PySem.W.findIn K (.ref (He.ga K "NoOne")) "__getattr__" = some none) ∧ (PySem.W.subIn K (.ref (He.ga K "NoOne")) (.type "BaseException") = some true) ∧ (PySem.W.hasDictIn K (He.ga K "NoOne") = true) ∧ (PySem.W.findIn K (.ref (He.ga K "NoOne")) "__class__" = some (some (.builtin "object.__class__"))) ∧ (PySem.W.specialIn K (.builtin "object.__class__") "__get__" = some (some (.builtin "getset_descriptor.__get__"))) ∧ (PySem.W.takesIn K (.builtin "object.__class__") = some true) ∧ (PySem.W.mroIn K (He.ga K "NoOne") (.type "object") = some true) ∧ (PySem.W.kitOne K (.ref (He.ga K "NoOne")) (.ref (He.ga K "OnesError")) = some true) ∧ (PySem.W.kitOne K (.ref (He.ga K "NoOne")) (.ref (He.ga K "Unlike")) = some false) ∧ (PySem.W.kitOne K (.ref (He.ga K "NoOne")) (.ref (He.ga K "NoSuch")) = some false) ∧ (PySem.W.kitOne K (.ref (He.ga K "NoOne")) (.ref (He.ga K "NoOne")) = some true) ∧ (PySem.W.kitOne K (.ref (He.ga K "NoOne")) (.ref (He.ga K "NoRound")) = some false) ∧ (PySem.W.kitOne K (.ref (He.ga K "NoOne")) (.ref (He.ga K "BadText")) = some false) ∧ (PySem.W.kitOne K (.ref (He.ga K "NoOne")) (.ref (He.ga K "BadSheet")) = some false) ∧ (PySem.W.kitOne K (.ref (He.ga K "NoOne")) (.type "ValueError") = some true)
instance (K : PySem.W.Frag) : Decidable (Hex K) := inferInstance
def hex : PySem.W.Frag → Bool := fun K => decide (Hex K)
abbrev R : PySem.W.OpenRow := PySem.W.OpenLaw.row PySem.Challenge.rw_shareones_k42_held_for_how_long
abbrev hk : PySem.W.Hook := He.hookX 4 hfa hfn [] htf hex
def ob (s : PySem.W.SharedT) : He.AlX := He.obsX 4 hfa hfn [] htf hex (HandSHeadRun.getT s)
theorem ob_eq (s : PySem.W.SharedT) : ob s = hk.obs s.abs := He.obsX_eq (HandSHeadRun.getT_eq s)
def loose : List Str := "refuse_unlike" :: "kept" :: "refuse_no_one" :: "kept_round" :: "held_for" :: "_law_box" :: "_law_take" :: "_law_folded" :: "_law_row" :: "_law_two" :: "_law_refusal" :: "_law_told" :: "_law_due" :: "_law_long_right" :: "OnesError" :: "Unlike" :: "NoSuch" :: "NoOne" :: "NoRound" :: "BadText" :: "BadSheet" :: []
theorem run (w : World) : HandSHeadRun.RunEq R (PySem.W.view R.prog [25]) hk ob 6000 loose w := by
  intro os
  kernel_rfl
theorem facts {l : PySem.W.OpenLaw} {w : World} {K : PySem.W.Frag} {h : Heap} {mg : Str → Option Value} {f : Addr} (X : K.In h) (G : h.Ns mainGlobals mg) (hfa_ : mg ("law" : Str) = some (.ref f)) (cc : He.SaysX hfa hfn [] htf hex w h K) :
    LamX.LawAtS l w K CX0 5 63 "_law_script" mg f h := by
  have c : He.SaysD hfa hfn K := congrArg (fun z : He.AlT => z.1) cc.t
  obtain ⟨fd_refuse_unlike, F_refuse_unlike⟩ := c.def_ 0 (d := d_refuse_unlike) rfl
  obtain ⟨fd_kept, F_kept⟩ := c.def_ 1 (d := d_kept) rfl
  obtain ⟨fd_refuse_no_one, F_refuse_no_one⟩ := c.def_ 2 (d := d_refuse_no_one) rfl
  obtain ⟨fd_kept_round, F_kept_round⟩ := c.def_ 3 (d := d_kept_round) rfl
  obtain ⟨fd_held_for, F_held_for⟩ := c.def_ 4 (d := d_held_for) rfl
  obtain ⟨fd__law_box, F__law_box⟩ := c.def_ 5 (d := d__law_box) rfl
  obtain ⟨fd__law_take, F__law_take⟩ := c.def_ 6 (d := d__law_take) rfl
  obtain ⟨fd__law_folded, F__law_folded⟩ := c.def_ 7 (d := d__law_folded) rfl
  obtain ⟨fd__law_row, F__law_row⟩ := c.def_ 8 (d := d__law_row) rfl
  obtain ⟨fd__law_two, F__law_two⟩ := c.def_ 9 (d := d__law_two) rfl
  obtain ⟨fd__law_refusal, F__law_refusal⟩ := c.def_ 10 (d := d__law_refusal) rfl
  obtain ⟨fd__law_told, F__law_told⟩ := c.def_ 11 (d := d__law_told) rfl
  obtain ⟨fd__law_due, F__law_due⟩ := c.def_ 12 (d := d__law_due) rfl
  obtain ⟨fd__law_long_right, F__law_long_right⟩ := c.def_ 13 (d := d__law_long_right) rfl
  obtain ⟨fd_law, F_law⟩ := c.def_ 14 (d := d_law) rfl
  have e := hfa_.symm.trans (He.glo_ok X G (c.fact 14 (f := .glo "law") rfl))
  cases e
  have b := FunD.bindsA (ps := ["_law_script"]) F_law fun _ _ _ _ _ _ us hl => match us, hl with | [_], _ => rfl
  have hm : Hex K := of_decide_eq_true cc.more
  obtain ⟨h0, h1, h2, h3, h4, h5, h6, h7, h8, h9, h10, h11, h12, h13, h14, h15, h16, h17, h18, h19, h20, h21, h22, h23, h24, h25, h26, h27, h28, h29, h30, h31⟩ := hm
  let T : Defs K mg := ⟨_, fd_refuse_unlike, F_refuse_unlike, (He.glo_ok X G (c.fact 0 (f := .glo "refuse_unlike") rfl)), (FunD.bindsN F_refuse_unlike fun _ _ _ _ _ _ us hl => match us, hl with | [_], _ => rfl), _, fd_kept, F_kept, (He.glo_ok X G (c.fact 1 (f := .glo "kept") rfl)), (FunD.bindsN F_kept fun _ _ _ _ _ _ us hl => match us, hl with | [_, _, _], _ => rfl), _, fd_refuse_no_one, F_refuse_no_one, (He.glo_ok X G (c.fact 2 (f := .glo "refuse_no_one") rfl)), (FunD.bindsN F_refuse_no_one fun _ _ _ _ _ _ us hl => match us, hl with | [_], _ => rfl), _, fd_kept_round, F_kept_round, (He.glo_ok X G (c.fact 3 (f := .glo "kept_round") rfl)), (FunD.bindsN F_kept_round fun _ _ _ _ _ _ us hl => match us, hl with | [_, _], _ => rfl), _, fd_held_for, F_held_for, (He.glo_ok X G (c.fact 4 (f := .glo "held_for") rfl)), (FunD.bindsN F_held_for fun _ _ _ _ _ _ us hl => match us, hl with | [_], _ => rfl), _, fd__law_box, F__law_box, (He.glo_ok X G (c.fact 5 (f := .glo "_law_box") rfl)), (FunD.bindsN F__law_box fun _ _ _ _ _ _ us hl => match us, hl with | [_, _], _ => rfl), _, fd__law_take, F__law_take, (He.glo_ok X G (c.fact 6 (f := .glo "_law_take") rfl)), (FunD.bindsN F__law_take fun _ _ _ _ _ _ us hl => match us, hl with | [_, _], _ => rfl), _, fd__law_folded, F__law_folded, (He.glo_ok X G (c.fact 7 (f := .glo "_law_folded") rfl)), (FunD.bindsN F__law_folded fun _ _ _ _ _ _ us hl => match us, hl with | [_, _], _ => rfl), _, fd__law_row, F__law_row, (He.glo_ok X G (c.fact 8 (f := .glo "_law_row") rfl)), (FunD.bindsN F__law_row fun _ _ _ _ _ _ us hl => match us, hl with | [_, _], _ => rfl), _, fd__law_two, F__law_two, (He.glo_ok X G (c.fact 9 (f := .glo "_law_two") rfl)), (FunD.bindsN F__law_two fun _ _ _ _ _ _ us hl => match us, hl with | [_, _], _ => rfl), _, fd__law_refusal, F__law_refusal, (He.glo_ok X G (c.fact 10 (f := .glo "_law_refusal") rfl)), (FunD.bindsN F__law_refusal fun _ _ _ _ _ _ us hl => match us, hl with | [_], _ => rfl), _, fd__law_told, F__law_told, (He.glo_ok X G (c.fact 11 (f := .glo "_law_told") rfl)), (FunD.bindsN F__law_told fun _ _ _ _ _ _ us hl => match us, hl with | [_], _ => rfl), _, fd__law_due, F__law_due, (He.glo_ok X G (c.fact 12 (f := .glo "_law_due") rfl)), (FunD.bindsN F__law_due fun _ _ _ _ _ _ us hl => match us, hl with | [_], _ => rfl), _, fd__law_long_right, F__law_long_right, (He.glo_ok X G (c.fact 13 (f := .glo "_law_long_right") rfl)), (FunD.bindsN F__law_long_right fun _ _ _ _ _ _ us hl => match us, hl with | [_], _ => rfl), _, fd_law, F_law, (He.glo_ok X G (c.fact 14 (f := .glo "law") rfl)), (FunD.bindsN F_law fun _ _ _ _ _ _ us hl => match us, hl with | [_], _ => rfl), _, (He.glo_ok X G (c.fact 31 (f := .glo "OnesError") rfl)), _, (He.glo_ok X G (c.fact 32 (f := .glo "Unlike") rfl)), _, (He.glo_ok X G (c.fact 33 (f := .glo "NoSuch") rfl)), _, (He.glo_ok X G (c.fact 34 (f := .glo "NoOne") rfl)), _, (He.glo_ok X G (c.fact 35 (f := .glo "NoRound") rfl)), _, (He.glo_ok X G (c.fact 36 (f := .glo "BadText") rfl)), _, (He.glo_ok X G (c.fact 37 (f := .glo "BadSheet") rfl)), (He.exc_ok (c.fact 38 (f := .exc "Unlike") rfl)).1, (He.exc_ok (c.fact 38 (f := .exc "Unlike") rfl)).2.1, (He.exc_ok (c.fact 38 (f := .exc "Unlike") rfl)).2.2.1, (He.exc_ok (c.fact 38 (f := .exc "Unlike") rfl)).2.2.2, ⟨h0, h1, h2, h3, h4, h5, h6, h7⟩, (He.exm_ok (c.fact 39 (f := .exm "Unlike" "OnesError" true) rfl)), h8, h9, h10, h11, h12, h13, h14, h15, (He.exc_ok (c.fact 40 (f := .exc "NoOne") rfl)).1, (He.exc_ok (c.fact 40 (f := .exc "NoOne") rfl)).2.1, (He.exc_ok (c.fact 40 (f := .exc "NoOne") rfl)).2.2.1, (He.exc_ok (c.fact 40 (f := .exc "NoOne") rfl)).2.2.2, ⟨h16, h17, h18, h19, h20, h21, h22, h23⟩, (He.exm_ok (c.fact 41 (f := .exm "NoOne" "OnesError" true) rfl)), h24, h25, h26, h27, h28, h29, h30, h31, (He.free_ok X G (c.fact 15 (f := .free "ValueError") rfl)), (He.free_ok X G (c.fact 16 (f := .free "abs") rfl)), (He.free_ok X G (c.fact 17 (f := .free "any") rfl)), (He.free_ok X G (c.fact 18 (f := .free "bool") rfl)), (He.free_ok X G (c.fact 19 (f := .free "divmod") rfl)), (He.free_ok X G (c.fact 20 (f := .free "enumerate") rfl)), (He.free_ok X G (c.fact 21 (f := .free "int") rfl)), (He.free_ok X G (c.fact 22 (f := .free "isinstance") rfl)), (He.free_ok X G (c.fact 23 (f := .free "len") rfl)), (He.free_ok X G (c.fact 24 (f := .free "list") rfl)), (He.free_ok X G (c.fact 25 (f := .free "max") rfl)), (He.free_ok X G (c.fact 26 (f := .free "range") rfl)), (He.free_ok X G (c.fact 27 (f := .free "str") rfl)), (He.free_ok X G (c.fact 28 (f := .free "sum") rfl)), (He.free_ok X G (c.fact 29 (f := .free "tuple") rfl)), (He.free_ok X G (c.fact 30 (f := .free "zip") rfl))⟩
  refine ⟨fd_law, htf.map (He.cT K), sp_law T, fun p hp => ?_, fun p hp => ?_, fun p hp => ?_, fun s v => b s [v] rfl, fun H a ns hl _ hH hS => ⟨a, ns, rfl, hS, hl, ?_, fun _ => rfl⟩, fun base _ _ TB => ok_law T⟩
  · obtain ⟨q, hq, rfl⟩ := List.mem_map.mp hp
    exact cc.empty q hq
  · obtain ⟨q, hq, rfl⟩ := List.mem_map.mp hp
    exact cc.out q hq
  · obtain ⟨q, hq, rfl⟩ := List.mem_map.mp hp
    exact PySem.W.codeHd_of_K X (cc.hd q hq)
  · exact trivial
end Fq
open PySem PySem.W PySem.Calls PyProof.Rows
set_option maxHeartbeats 0 in
theorem PySem.Challenge.cw_shareones_k42_held_for_how_long_holds : PySem.Challenge.rw_shareones_k42_held_for_how_long.Holds := by
  w_on; o_law
  refine HandSHeadRun.head_any (r := OpenLaw.row PySem.Challenge.rw_shareones_k42_held_for_how_long) (q := view (OpenLaw.row PySem.Challenge.rw_shareones_k42_held_for_how_long).prog [25]) (H := Fq.hk) (ob := Fq.ob) (M := 6000) (loose := Fq.loose) (d := HandSHeadRun.topDef (OpenLaw.row PySem.Challenge.rw_shareones_k42_held_for_how_long).prog 25) (kwd := []) Fq.ob_eq
    (by kernel_rfl) (fun s => by kernel_rfl) Fq.run (by kernel_rfl) (by kernel_rfl) (by kernel_rfl) (by rfl) (by first | assumption | decide +kernel) (by decide +kernel) ⟨rfl, rfl, rfl, rfl, rfl, by decide +kernel⟩ ?hw ?hc
  case hw => w_witness2
  case hc =>
    refine LamX.walk_ofTsE (l := PySem.Challenge.rw_shareones_k42_held_for_how_long) (n := 63) (k := 5) (x := "_law_script") (CX := fun _ => L2.CX0) rfl (by decide) (by kernel_rfl) ⟨rfl, by decide, by decide⟩ ?F (fun _ _ _ _ _ z => z)
    intro w mg fa h Y G hmg0
    obtain ⟨K, KX, c⟩ := Y
    have hmg : mg ("law" : PySem.Str) = some (.ref fa) := by
      have e : (HandSHeadRun.topDef (OpenLaw.row PySem.Challenge.rw_shareones_k42_held_for_how_long).prog 25).name = ("law" : PySem.Str) := by kernel_rfl
      rw [← e]
      exact hmg0
    exact ⟨K, KX, Fq.facts KX G hmg c⟩
