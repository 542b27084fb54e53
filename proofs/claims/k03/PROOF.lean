import PyProof.Rows.All
import Wide.All
import OpenK.AllK
import Wide.FinOn
import KE.KStateDown
import Lean
import HandS.ForMost
import HandS.Wide
import HandS.WideBits
import HandS.IsInst
import HandS.Walk
import HandS.Evl
import HandS.Style
import HandS.NoneIn
import HandS.Defaults
import HandS.Head0
import HandS.Head1
import HandS.Head2
import HandS.HeadEnd
import HandS.HeadHook1
import HandS.HeadHook2
import HandS.AnyAll
import HandS.Comp
import HandS.Conv
import HandS.Dict
import HandS.DictComp
import HandS.EndTab
import HandS.Exc
import HandS.ExcIs
import HandS.ExcOwn
import HandS.Flow
import HandS.GenBody
import HandS.GenList
import HandS.GenOver
import HandS.HeadHook3
import HandS.HeadHook4
import HandS.HeadWalk
import HandS.More
import HandS.Set
import HandS.SetBool
import HandS.SetFor
import HandS.Small
import HandS.SortInts
import HandS.SortKw
import HandS.Strs
import HandS.Style
import HandS.TryOnly
import HandS.TupAny
import HandS.TupMul
import HandS.WordsExc
import HandS.Zip
import KE.DataMinMax
import KE.GoesEnum
import KE.GoesMore
import KE.GoesSet
import KE.GoesZip
import KE.KDictWalk
import KE.KNest
import PyProof.ConsumeS
import PyProof.GenArm
import PyProof.GenComp
import PyProof.GenCompT
import PyProof.GenQ
import PyProof.ReprLen
import PyProof.ReprRoads
import PyProof.Rows.MatchSeqLen
import PyProof.RulesMatch
import PyProof.RulesMatchSeq
import PyProof.TupleOfGen
import PySem.Challenge.RW_shareones_k03_rows_or_not
set_option Elab.async false
set_option pp.maxSteps 250
set_option linter.all false
set_option maxRecDepth 100000
set_option maxHeartbeats 4000000
namespace Fq
open PySem PySem.Spec PyProof.Rows L2
section
variable {P : Program} {w : World} {K : PySem.W.Frag} {mg : Str → Option Value} {base : Heap}
def topS (i : Nat) : Stmt := PySem.Challenge.pw_shareones_k03_rows_or_not.main.body.getD i (.Pass ⟨0, 0, 0, 0⟩)
abbrev FnP (K : PySem.W.Frag) (x : Str) (st : Stmt) (f : Addr) (fd : FuncData) : Prop := FunD K x x (defArgs st) (defBody st) (defScope st) [] [] f fd
abbrev s_is_number : Stmt := topS 1
abbrev N_is_number : List Str := ["thing"]
theorem sc_is_number : FnScope N_is_number ["thing"] (defScope s_is_number) := ⟨rfl, rfl, rfl, by decide +kernel, rfl, by decide +kernel, by decide +kernel⟩
abbrev s_is_within : Stmt := topS 2
abbrev N_is_within : List Str := ["thing", "least", "greatest"]
theorem sc_is_within : FnScope N_is_within ["thing", "least", "greatest"] (defScope s_is_within) := ⟨rfl, rfl, rfl, by decide +kernel, rfl, by decide +kernel, by decide +kernel⟩
abbrev s_common_divisor : Stmt := topS 3
abbrev N_common_divisor : List Str := ["one", "other"]
theorem sc_common_divisor : FnScope N_common_divisor ["one", "other"] (defScope s_common_divisor) := ⟨rfl, rfl, rfl, by decide +kernel, rfl, by decide +kernel, by decide +kernel⟩
abbrev s_fraction : Stmt := topS 4
abbrev N_fraction : List Str := ["top", "bottom", "divisor"]
theorem sc_fraction : FnScope N_fraction ["top", "bottom"] (defScope s_fraction) := ⟨rfl, rfl, rfl, by decide +kernel, rfl, by decide +kernel, by decide +kernel⟩
abbrev s_is_bit : Stmt := topS 7
abbrev N_is_bit : List Str := ["thing"]
theorem sc_is_bit : FnScope N_is_bit ["thing"] (defScope s_is_bit) := ⟨rfl, rfl, rfl, by decide +kernel, rfl, by decide +kernel, by decide +kernel⟩
abbrev s_is_row : Stmt := topS 8
abbrev N_is_row : List Str := ["thing", "bit"]
theorem sc_is_row : FnScope N_is_row ["thing"] (defScope s_is_row) := ⟨rfl, rfl, rfl, by decide +kernel, rfl, by decide +kernel, by decide +kernel⟩
abbrev s_ones : Stmt := topS 9
abbrev N_ones : List Str := ["row"]
theorem sc_ones : FnScope N_ones ["row"] (defScope s_ones) := ⟨rfl, rfl, rfl, by decide +kernel, rfl, by decide +kernel, by decide +kernel⟩
abbrev s_share_of : Stmt := topS 10
abbrev N_share_of : List Str := ["row"]
theorem sc_share_of : FnScope N_share_of ["row"] (defScope s_share_of) := ⟨rfl, rfl, rfl, by decide +kernel, rfl, by decide +kernel, by decide +kernel⟩
abbrev s__law_box : Stmt := topS 12
abbrev N__law_box : List Str := ["_law_script", "_law_k", "_law_cell"]
theorem sc__law_box : FnScope N__law_box ["_law_script", "_law_k"] (defScope s__law_box) := ⟨rfl, rfl, rfl, by decide +kernel, rfl, by decide +kernel, by decide +kernel⟩
abbrev s__law_take : Stmt := topS 13
abbrev N__law_take : List Str := ["_law_box_here", "_law_many", "_law_found", "_law_once"]
theorem sc__law_take : FnScope N__law_take ["_law_box_here", "_law_many"] (defScope s__law_take) := ⟨rfl, rfl, rfl, by decide +kernel, rfl, by decide +kernel, by decide +kernel⟩
abbrev s__law_folded : Stmt := topS 14
abbrev N__law_folded : List Str := ["_law_script", "_law_many", "_law_cells", "_law_k", "_law_cell"]
theorem sc__law_folded : FnScope N__law_folded ["_law_script", "_law_many"] (defScope s__law_folded) := ⟨rfl, rfl, rfl, by decide +kernel, rfl, by decide +kernel, by decide +kernel⟩
abbrev s__law_row : Stmt := topS 15
abbrev N__law_row : List Str := ["_law_box_here", "_law_long_here", "_law_way", "_law_at", "_law_bit", "_law_every", "_law_first", "_law_place"]
theorem sc__law_row : FnScope N__law_row ["_law_box_here", "_law_long_here"] (defScope s__law_row) := ⟨rfl, rfl, rfl, by decide +kernel, rfl, by decide +kernel, by decide +kernel⟩
abbrev s__law_long : Stmt := topS 16
abbrev N__law_long : List Str := ["_law_box_here"]
theorem sc__law_long : FnScope N__law_long ["_law_box_here"] (defScope s__law_long) := ⟨rfl, rfl, rfl, by decide +kernel, rfl, by decide +kernel, by decide +kernel⟩
abbrev s__law_otherwise : Stmt := topS 17
abbrev N__law_otherwise : List Str := ["_law_box_here", "_law_row_here", "_law_way", "_law_at", "_law_odd"]
theorem sc__law_otherwise : FnScope N__law_otherwise ["_law_box_here", "_law_row_here"] (defScope s__law_otherwise) := ⟨rfl, rfl, rfl, by decide +kernel, rfl, by decide +kernel, by decide +kernel⟩
abbrev s__law_due : Stmt := topS 18
abbrev N__law_due : List Str := ["_law_thing", "_law_bit"]
theorem sc__law_due : FnScope N__law_due ["_law_thing"] (defScope s__law_due) := ⟨rfl, rfl, rfl, by decide +kernel, rfl, by decide +kernel, by decide +kernel⟩
abbrev s__law_counted : Stmt := topS 19
abbrev N__law_counted : List Str := ["_law_row_here", "_law_many", "_law_bottom", "_law_bit"]
theorem sc__law_counted : FnScope N__law_counted ["_law_row_here"] (defScope s__law_counted) := ⟨rfl, rfl, rfl, by decide +kernel, rfl, by decide +kernel, by decide +kernel⟩
abbrev s_law : Stmt := topS 20
abbrev N_law : List Str := ["_law_script", "_law_cells", "_law_k", "_law_box_here", "_law_long_here", "_law_row_here", "_law_turn", "_law_thing", "_law_elder", "_law_found"]
theorem sc_law : FnScope N_law ["_law_script"] (defScope s_law) := ⟨rfl, rfl, rfl, by decide +kernel, rfl, by decide +kernel, by decide +kernel⟩
/-- the code object of the def at f is the one at c -/
def CodeAt (K : PySem.W.Frag) (f c : Addr) : Prop := ∀ (oc : Value) (od : Option Addr) (fd : FuncData) (osl : Array (Option Value)), K.lookup f = some ⟨oc, od, .func fd, osl⟩ → ∀ b, fd.code = .ref b → b = c
theorem okC {P : Program} {w : World} {K : PySem.W.Frag} {mg : Str → Option Value} {base : Heap} {x : Str} {st : Stmt} {f c : Addr} {fd : FuncData} {N ps : List Str} {k : Nat} {sp : Sp} (F : FnP K x st f fd) (hc : CodeAt K f c) (S : FnScope N ps (defScope st)) (len : ∀ vs H Q E, sp vs H Q E → vs.length = ps.length)
    (hb : ∀ (A : Around) (outer : List Env) (s : Shared) (H : Hp) (vs : List V) (Q : VK) (E : XK), Room k (A.deeper (envOfC x (defScope st) s.heap.objs.size f (.ref c))) → sp vs H Q E →
      ∃ t, PSs (cxOf CX0 P w K mg base N x (defScope st) f (.ref c) A outer s H E) (defBody st) t ∧ t { nx := fun _ H' => Q .non H', rt := Q } (L2.start N vs) H) : FnOk P w K mg base CX0 (k + 1) f fd ps sp := by
  obtain ⟨oc, od, dV, kV, doc, pm, an, cdv, ct, osl, rfl, lk, hcd, _, _⟩ := F.ex
  obtain ⟨b, rfl⟩ := He.codeIn_ref hcd
  have e := hc oc od _ osl lk b rfl
  subst e
  exact fn_of lk hcd S len hb
theorem pe_globI {X : Cx} {x : Str} {i : Int} {pos : Pos} (hg : Gl X x) (hm : ∃ t, X.mg x = some (.int i t)) (hd : (x == ("__debug__" : Str)) = false := by decide) : PE X (.Name x pos) (tC (.int i)) := by
  obtain ⟨t, h⟩ := hm
  exact pe_glob hg h ⟨_, rfl⟩ hd
structure Defs (K : PySem.W.Frag) (mg : Str → Option Value) where
  f_is_number : Addr
  fd_is_number : FuncData
  F_is_number : FnP K "is_number" s_is_number f_is_number fd_is_number
  g_is_number : mg "is_number" = some (.ref f_is_number)
  b_is_number : Binds K fd_is_number ["thing"] []
  f_is_within : Addr
  fd_is_within : FuncData
  F_is_within : FnP K "is_within" s_is_within f_is_within fd_is_within
  g_is_within : mg "is_within" = some (.ref f_is_within)
  b_is_within : Binds K fd_is_within ["thing", "least", "greatest"] []
  f_common_divisor : Addr
  fd_common_divisor : FuncData
  F_common_divisor : FnP K "common_divisor" s_common_divisor f_common_divisor fd_common_divisor
  g_common_divisor : mg "common_divisor" = some (.ref f_common_divisor)
  b_common_divisor : Binds K fd_common_divisor ["one", "other"] []
  f_fraction : Addr
  fd_fraction : FuncData
  F_fraction : FnP K "fraction" s_fraction f_fraction fd_fraction
  g_fraction : mg "fraction" = some (.ref f_fraction)
  b_fraction : Binds K fd_fraction ["top", "bottom"] []
  f_is_bit : Addr
  fd_is_bit : FuncData
  F_is_bit : FnP K "is_bit" s_is_bit f_is_bit fd_is_bit
  g_is_bit : mg "is_bit" = some (.ref f_is_bit)
  b_is_bit : Binds K fd_is_bit ["thing"] []
  f_is_row : Addr
  fd_is_row : FuncData
  F_is_row : FnP K "is_row" s_is_row f_is_row fd_is_row
  g_is_row : mg "is_row" = some (.ref f_is_row)
  b_is_row : Binds K fd_is_row ["thing"] []
  f_ones : Addr
  fd_ones : FuncData
  F_ones : FnP K "ones" s_ones f_ones fd_ones
  g_ones : mg "ones" = some (.ref f_ones)
  b_ones : Binds K fd_ones ["row"] []
  f_share_of : Addr
  fd_share_of : FuncData
  F_share_of : FnP K "share_of" s_share_of f_share_of fd_share_of
  g_share_of : mg "share_of" = some (.ref f_share_of)
  b_share_of : Binds K fd_share_of ["row"] []
  f__law_box : Addr
  fd__law_box : FuncData
  F__law_box : FnP K "_law_box" s__law_box f__law_box fd__law_box
  g__law_box : mg "_law_box" = some (.ref f__law_box)
  b__law_box : Binds K fd__law_box ["_law_script", "_law_k"] []
  f__law_take : Addr
  fd__law_take : FuncData
  F__law_take : FnP K "_law_take" s__law_take f__law_take fd__law_take
  g__law_take : mg "_law_take" = some (.ref f__law_take)
  b__law_take : Binds K fd__law_take ["_law_box_here", "_law_many"] []
  f__law_folded : Addr
  fd__law_folded : FuncData
  F__law_folded : FnP K "_law_folded" s__law_folded f__law_folded fd__law_folded
  g__law_folded : mg "_law_folded" = some (.ref f__law_folded)
  b__law_folded : Binds K fd__law_folded ["_law_script", "_law_many"] []
  f__law_row : Addr
  fd__law_row : FuncData
  F__law_row : FnP K "_law_row" s__law_row f__law_row fd__law_row
  g__law_row : mg "_law_row" = some (.ref f__law_row)
  b__law_row : Binds K fd__law_row ["_law_box_here", "_law_long_here"] []
  f__law_long : Addr
  fd__law_long : FuncData
  F__law_long : FnP K "_law_long" s__law_long f__law_long fd__law_long
  g__law_long : mg "_law_long" = some (.ref f__law_long)
  b__law_long : Binds K fd__law_long ["_law_box_here"] []
  f__law_otherwise : Addr
  fd__law_otherwise : FuncData
  F__law_otherwise : FnP K "_law_otherwise" s__law_otherwise f__law_otherwise fd__law_otherwise
  g__law_otherwise : mg "_law_otherwise" = some (.ref f__law_otherwise)
  b__law_otherwise : Binds K fd__law_otherwise ["_law_box_here", "_law_row_here"] []
  f__law_due : Addr
  fd__law_due : FuncData
  F__law_due : FnP K "_law_due" s__law_due f__law_due fd__law_due
  g__law_due : mg "_law_due" = some (.ref f__law_due)
  b__law_due : Binds K fd__law_due ["_law_thing"] []
  f__law_counted : Addr
  fd__law_counted : FuncData
  F__law_counted : FnP K "_law_counted" s__law_counted f__law_counted fd__law_counted
  g__law_counted : mg "_law_counted" = some (.ref f__law_counted)
  b__law_counted : Binds K fd__law_counted ["_law_row_here"] []
  f_law : Addr
  fd_law : FuncData
  F_law : FnP K "law" s_law f_law fd_law
  g_law : mg "law" = some (.ref f_law)
  b_law : Binds K fd_law ["_law_script"] []
  c_is_row : Addr
  P_is_row : Addr
  k_is_row : CodeAt K f_is_row c_is_row
  m_abs : mg "abs" = none
  m_all : mg "all" = none
  m_bool : mg "bool" = none
  m_divmod : mg "divmod" = none
  m_enumerate : mg "enumerate" = none
  m_int : mg "int" = none
  m_isinstance : mg "isinstance" = none
  m_len : mg "len" = none
  m_list : mg "list" = none
  m_max : mg "max" = none
  m_range : mg "range" = none
  m_repr : mg "repr" = none
  m_str : mg "str" = none
  m_sum : mg "sum" = none
  m_tuple : mg "tuple" = none
  i_LONGEST : ∃ t, mg "LONGEST" = some (.int 4096 t)
structure Tabs {K : PySem.W.Frag} {mg : Str → Option Value} (T : Defs K mg) (base : Heap) : Prop where
  t_is_row : GxR.TabB base mg T.c_is_row T.P_is_row
theorem bt_abs : bootBuiltins "abs" = some (.builtin "abs") := by decide +kernel
theorem bt_all : bootBuiltins "all" = some (.builtin "all") := by decide +kernel
theorem bt_bool : bootBuiltins "bool" = some (.type "bool") := by decide +kernel
theorem bt_divmod : bootBuiltins "divmod" = some (.builtin "divmod") := by decide +kernel
theorem bt_enumerate : bootBuiltins "enumerate" = some (.type "enumerate") := by decide +kernel
theorem bt_int : bootBuiltins "int" = some (.type "int") := by decide +kernel
theorem bt_isinstance : bootBuiltins "isinstance" = some (.builtin "isinstance") := by decide +kernel
theorem bt_len : bootBuiltins "len" = some (.builtin "len") := by decide +kernel
theorem bt_list : bootBuiltins "list" = some (.type "list") := by decide +kernel
theorem bt_max : bootBuiltins "max" = some (.builtin "max") := by decide +kernel
theorem bt_range : bootBuiltins "range" = some (.type "range") := by decide +kernel
theorem bt_repr : bootBuiltins "repr" = some (.builtin "repr") := by decide +kernel
theorem bt_str : bootBuiltins "str" = some (.type "str") := by decide +kernel
theorem bt_sum : bootBuiltins "sum" = some (.builtin "sum") := by decide +kernel
theorem bt_tuple : bootBuiltins "tuple" = some (.type "tuple") := by decide +kernel
def frT (t b : Int) : Int := (b.sign * t) / (Int.gcd t b : Int)
def frB (t b : Int) : Int := (b.natAbs : Int) / (Int.gcd t b : Int)
theorem fr_ex (t : Int) {b : Int} (hb : b ≠ 0) : ∃ (g : Nat) (x y : Int), 0 < g ∧ Int.gcd t b = g ∧ t = (g : Int) * x ∧ b = (g : Int) * y ∧ y ≠ 0 ∧ Int.gcd x y = 1 := by
  have hg : 0 < Int.gcd t b := Int.gcd_pos_of_ne_zero_right t hb
  obtain ⟨x, hx⟩ := Int.gcd_dvd_left t b
  obtain ⟨y, hy⟩ := Int.gcd_dvd_right t b
  refine ⟨Int.gcd t b, x, y, hg, rfl, hx, hy, fun e => hb (by rw [hy, e, Int.mul_zero]), ?_⟩
  generalize eg : Int.gcd t b = g at hg hx hy
  have e : g = g * Int.gcd x y := by
    rw [← eg]
    conv => lhs; rw [hx, hy, Int.gcd_mul_left]
    rw [Int.natAbs_natCast, eg]
  exact Nat.eq_of_mul_eq_mul_left hg (by rw [← e, Nat.mul_one])
theorem sgn {b : Int} {g : Nat} {y : Int} (hg : 0 < g) (hb : b = (g : Int) * y) : b.sign = y.sign := by
  rw [hb, Int.sign_mul, Int.sign_eq_one_of_pos (by omega), Int.one_mul]
theorem fr_vals {t b : Int} {g : Nat} {x y : Int} (hg : 0 < g) (eg : Int.gcd t b = g) (ht : t = (g : Int) * x) (hb : b = (g : Int) * y) : frT t b = y.sign * x ∧ frB t b = (y.natAbs : Int) := by
  have g0 : (g : Int) ≠ 0 := by omega
  constructor
  · unfold frT
    rw [eg, sgn hg hb, ht, show y.sign * ((g : Int) * x) = (g : Int) * (y.sign * x) by rw [Int.mul_left_comm]]
    exact Int.mul_ediv_cancel_left _ g0
  · unfold frB
    rw [eg, hb, Int.natAbs_mul, Int.natAbs_natCast, Int.natCast_mul]
    exact Int.mul_ediv_cancel_left _ g0
theorem sgn_abs {y : Int} (hy : y ≠ 0) : y.sign.natAbs = 1 := Int.natAbs_sign_of_ne_zero hy
theorem fr_pos (t : Int) {b : Int} (hb : b ≠ 0) : 0 < frB t b := by
  obtain ⟨g, x, y, hg, eg, ht, hy, hy0, h1⟩ := fr_ex t hb
  rw [(fr_vals hg eg ht hy).2]
  omega
theorem fr_gcd (t : Int) {b : Int} (hb : b ≠ 0) : Int.gcd (frT t b) (frB t b) = 1 := by
  obtain ⟨g, x, y, hg, eg, ht, hy, hy0, h1⟩ := fr_ex t hb
  rw [(fr_vals hg eg ht hy).1, (fr_vals hg eg ht hy).2]
  show Nat.gcd (y.sign * x).natAbs ((y.natAbs : Int)).natAbs = 1
  rw [Int.natAbs_mul, sgn_abs hy0, Nat.one_mul, Int.natAbs_natCast]
  exact h1
theorem fr_eq (t : Int) {b : Int} (hb : b ≠ 0) : frT t b * b = t * frB t b := by
  obtain ⟨g, x, y, hg, eg, ht, hy, hy0, h1⟩ := fr_ex t hb
  rw [(fr_vals hg eg ht hy).1, (fr_vals hg eg ht hy).2]
  rw [ht, hy]
  have e : y * y.sign = (y.natAbs : Int) := Int.mul_sign_self y
  rw [← e]
  simp only [Int.mul_comm, Int.mul_left_comm, Int.mul_assoc]
theorem fr_absT (t : Int) {b : Int} (hb : b ≠ 0) : (frT t b).natAbs ≤ t.natAbs := by
  obtain ⟨g, x, y, hg, eg, ht, hy, hy0, h1⟩ := fr_ex t hb
  rw [(fr_vals hg eg ht hy).1, ht, Int.natAbs_mul, sgn_abs hy0, Nat.one_mul, Int.natAbs_mul, Int.natAbs_natCast]
  exact Nat.le_mul_of_pos_left _ hg
theorem fr_absB (t : Int) {b : Int} (hb : b ≠ 0) : (frB t b).natAbs ≤ b.natAbs := by
  obtain ⟨g, x, y, hg, eg, ht, hy, hy0, h1⟩ := fr_ex t hb
  rw [(fr_vals hg eg ht hy).2, hy, Int.natAbs_mul, Int.natAbs_natCast, Int.natAbs_natCast]
  exact Nat.le_mul_of_pos_left _ hg
theorem fr_negT (t b : Int) : frT (-t) (-b) = frT t b := by
  unfold frT
  rw [Int.sign_neg, Int.neg_mul_neg, Int.gcd_neg, Int.neg_gcd]
theorem fr_negB (t b : Int) : frB (-t) (-b) = frB t b := by
  unfold frB
  rw [Int.natAbs_neg, Int.gcd_neg, Int.neg_gcd]
/-- what the program's two ways reckon -/
theorem fd_pos {g : Nat} {x : Int} (hg : 0 < g) : ((g : Int) * x).fdiv (g : Int) = x := by
  rw [Int.fdiv_eq_ediv_of_nonneg _ (by omega)]
  exact Int.mul_ediv_cancel_left _ (by omega)
theorem fd_neg {g : Nat} {x : Int} (hg : 0 < g) : ((g : Int) * x).fdiv (-(g : Int)) = -x := by
  rw [show (g : Int) * x = -(g : Int) * (-x) by rw [Int.neg_mul_neg]]
  exact Int.mul_fdiv_cancel_left _ (by omega)
theorem fr_lt (t : Int) {b : Int} (hb : b < 0) : t.fdiv (-(Int.gcd t b : Int)) = frT t b ∧ b.fdiv (-(Int.gcd t b : Int)) = frB t b := by
  obtain ⟨g, x, y, hg, eg, ht, hy, hy0, h1⟩ := fr_ex t (show b ≠ 0 by omega)
  rw [(fr_vals hg eg ht hy).1, (fr_vals hg eg ht hy).2, eg]
  have yn : y < 0 := by
    rw [hy] at hb
    exact Int.neg_of_mul_neg_right hb (by omega)
  constructor
  · conv => lhs; rw [ht]
    rw [fd_neg hg, Int.sign_eq_neg_one_of_neg yn]
    omega
  · conv => lhs; rw [hy]
    rw [fd_neg hg]
    omega
theorem fr_ge (t : Int) {b : Int} (hb : 0 < b) : t.fdiv (Int.gcd t b : Int) = frT t b ∧ b.fdiv (Int.gcd t b : Int) = frB t b := by
  obtain ⟨g, x, y, hg, eg, ht, hy, hy0, h1⟩ := fr_ex t (show b ≠ 0 by omega)
  rw [(fr_vals hg eg ht hy).1, (fr_vals hg eg ht hy).2, eg]
  have yn : 0 < y := by
    rw [hy] at hb
    exact Int.pos_of_mul_pos_right hb (by omega)
  constructor
  · conv => lhs; rw [ht]
    rw [fd_pos hg, Int.sign_eq_one_of_pos yn]
    omega
  · conv => lhs; rw [hy]
    rw [fd_pos hg]
    omega
/-! sizes -/
def S (n : Nat) (x : Int) : Prop := x.natAbs < 2 ^ n
theorem S.mono {n m : Nat} {x : Int} (h : S n x) (l : n ≤ m) : S m x := Nat.lt_of_lt_of_le h (Nat.pow_le_pow_right (by decide) l)
theorem S.mul {n m : Nat} {x y : Int} (h : S n x) (k : S m y) : S (n + m) (x * y) := by
  unfold S at *
  rw [Int.natAbs_mul, Nat.pow_add]
  exact Nat.mul_lt_mul'' h k
theorem S.add {n : Nat} {x y : Int} (h : S n x) (k : S n y) : S (n + 1) (x + y) := by
  unfold S at *
  rw [Nat.pow_succ]
  omega
theorem S.sub {n : Nat} {x y : Int} (h : S n x) (k : S n y) : S (n + 1) (x - y) := by
  unfold S at *
  rw [Nat.pow_succ]
  omega
theorem S.frT {n : Nat} {t b : Int} (h : S n t) (hb : b ≠ 0) : S n (frT t b) := Nat.lt_of_le_of_lt (fr_absT t hb) h
theorem S.frB {n : Nat} {t b : Int} (h : S n b) (hb : b ≠ 0) : S n (frB t b) := Nat.lt_of_le_of_lt (fr_absB t hb) h
theorem abs_eq (i : Int) : (if i < 0 then -i else i) = (i.natAbs : Int) := by
  split <;> omega
/-! the same rules with the written part by its name: for the inside of comprehensions -/
theorem pg_tupK {X : Cx} {K : PySem.W.Frag} {es : List Expr} {k n : Nat} {pos : Pos} {t : TGs} (h : X.K = K) (hc : X.calm = true) (hg : PGs X es t) (hn : (assignEach es X.env).length = n := by rfl) (hst : (assignEach es X.env).findIdx? (·.1) = none := by rfl) : PG X (.Tuple es k pos) (gTup K n t) := by
  subst h
  exact pg_tup hc hg hn hst
theorem isiK {X : Cx} {K : PySem.W.Frag} (h : X.K = K) : CallR X (.builtin "isinstance") (rIsi K) := by
  subst h
  exact call_isi
theorem ixlK {X : Cx} {K : PySem.W.Frag} (h : X.K = K) : IxR X (rIxL K) := by
  subst h
  exact ix_list
theorem ixtK {X : Cx} {K : PySem.W.Frag} (h : X.K = K) : IxR X (rIxT K) := by
  subst h
  exact ix_tup
theorem lenK {X : Cx} {K : PySem.W.Frag} (h : X.K = K) : CallR X (.builtin "len") (fun xs H Q => ∃ p ys, xs = [.ref p] ∧ (SqL K H p ys ∨ SqT K H p ys) ∧ Q (.int ys.length) H) := by
  subst h
  exact call_len_seq
theorem sumK {X : Cx} {K : PySem.W.Frag} (h : X.K = K) (hc : X.calm = true) : CallR X (.builtin "sum") (rSum K) := by
  subst h
  exact cr_sum hc
theorem yes_ite {σ : L2.St} {H : Hp} {A B : Hp → Prop} (h : A H) : tYes σ H (fun b H3 => if b = true then A H3 else B H3) := by
  show if true = true then A H else B H
  rw [if_pos rfl]
  exact h
/-! heaps -/
theorem same_upd {H : Hp} {p : Addr} {o : HO} (h : H p = none) : Same H (upd H p o) := fun b x e => by
  rw [upd_ne (ne_of_none e h)]
  exact e
def But (p : Addr) (H H' : Hp) : Prop := ∀ b o, b ≠ p → H b = some o → H' b = some o
theorem But.trans {p : Addr} {H H1 H2 : Hp} (a : But p H H1) (b : But p H1 H2) : But p H H2 := fun c o n e => b c o n (a c o n e)
theorem But.refl (p : Addr) (H : Hp) : But p H H := fun _ _ _ e => e
theorem But.put {p : Addr} {H H' : Hp} {o : HO} (a : But p H H') : But p H (L2.upd H' p o) := fun c x n e => by
  rw [upd_ne n]
  exact a c x n e
theorem same_but {p : Addr} {H H' : Hp} (a : Same H H') : But p H H' := fun c x _ e => a c x e
theorem But.new {p q : Addr} {H H' : Hp} {o : HO} (a : But p H H') (n : H' q = none) : But p H (upd H' q o) := fun c x hn e => by
  have e2 := a c x hn e
  rw [upd_ne (ne_of_none e2 n)]
  exact e2
/-- objects made since H may change: what H has stays -/
theorem same_newer {H H' : Hp} {q : Addr} {o : HO} (a : Same H H') (n : H q = none) : Same H (upd H' q o) := fun c x e => by
  rw [upd_ne (ne_of_none e n)]
  exact a c x e
theorem But.same {p : Addr} {H H1 H2 : Hp} (n : H p = none) (a : Same H H1) (b : But p H1 H2) : Same H H2 := fun c x e =>
  b c x (ne_of_none e n) (a c x e)
/-- the box: a rest, a begin, how often -/
def Bx (H : Hp) (p : Addr) (n : Nat) : Prop := ∃ a b c : Int, H p = some (.lst [.int a, .int b, .int c]) ∧ 0 ≤ a ∧ 0 ≤ b ∧ b < 2147483647 ∧ 0 ≤ c ∧ c ≤ n
theorem Bx.same {H H' : Hp} {p : Addr} {n : Nat} (h : Bx H p n) (s : Same H H') : Bx H' p n := by
  obtain ⟨a, b, c, hp, r⟩ := h
  exact ⟨a, b, c, s _ _ hp, r⟩
theorem Bx.mono {H : Hp} {p : Addr} {n m : Nat} (h : Bx H p n) (l : n ≤ m) : Bx H p m := by
  obtain ⟨a, b, c, hp, h1, h2, h3, h4, h5⟩ := h
  exact ⟨a, b, c, hp, h1, h2, h3, h4, by omega⟩
theorem Bx.new {H : Hp} {p q : Addr} {n : Nat} {o : HO} (h : Bx H p n) (nq : H q = none) : Bx (L2.upd H q o) p n := h.same (same_upd nq)
theorem Bx.ne_tup {H : Hp} {p q : Addr} {n : Nat} {xs : List V} (h : Bx H p n) (e : H q = some (.tup xs)) : q ≠ p := by
  obtain ⟨a, b, c, hp, _⟩ := h
  exact ne_of e hp (fun z => by cases z)
/-- an item of a menu of numbers -/
theorem at_menu {Pr : Int → Prop} {xs : List Int} {r : Int} (h0 : 0 ≤ r) (h1 : r < xs.length) (hx : ∀ x, x ∈ xs → Pr x) : ∃ v, atI (xs.map V.int) r = some (V.int v) ∧ Pr v := by
  obtain ⟨j, rfl⟩ := Int.eq_ofNat_of_zero_le h0
  have hj : j < xs.length := by omega
  refine ⟨xs[j], atI_nat (by rw [List.getElem?_map, List.getElem?_eq_getElem hj]; rfl), hx _ (List.getElem_mem hj)⟩
theorem SqL.mk {K : PySem.W.Frag} {H : Hp} {a : Addr} {xs : List V} (h : H a = some (.lst xs)) : SqL K H a xs := .inl (.inl h)
theorem SqT.mk {K : PySem.W.Frag} {H : Hp} {a : Addr} {xs : List V} (h : H a = some (.tup xs)) : SqT K H a xs := .inl (.inl h)
theorem same_tup {K : PySem.W.Frag} {H H' : Hp} {a : Addr} {xs : List V} (e : Same H H') (h : SqT K H a xs) : SqT K H' a xs := by
  rcases h with (h | ⟨o, h⟩) | h
  · exact .inl (.inl (e _ _ h))
  · exact .inl (.inr ⟨o, e _ _ h⟩)
  · exact .inr h
theorem ixn {n j : Nat} (hj : j < n) : ixN n (j : Int) = some j := by
  unfold ixN
  rw [if_pos (by omega), if_pos (by omega)]
  simp
theorem cdivP {a m : Int} (h0 : 0 < m) (h1 : m < 2 ^ 60) : CDivP a m := ⟨h0, PyProof.noPylong_of_log2 (wide_div (i := a) (b := 60) h0 (by omega) (by decide) (by decide)).2⟩
theorem i01 {c : Prop} [Decidable c] : -(2 ^ 64) < (if c then (1 : Int) else 0) ∧ (if c then (1 : Int) else 0) < 2 ^ 64 := by
  split <;> decide
theorem i01n {c : Prop} [Decidable c] : 0 ≤ (if c then (1 : Int) else 0) := by
  split <;> decide
theorem absn (i : Int) : 0 ≤ (if i < 0 then -i else i) := by
  split <;> omega
/-! the box of a cell -/
def sp__law_box (K : PySem.W.Frag) : Sp := fun vs H Q _ => ∃ (a : Addr) (ns : List Int) (k : Nat), vs = [.ref a, .int (k : Nat)] ∧ SqL K H a (ns.map V.int) ∧ k < 1000 ∧
  ∀ H' p, Same H H' → H p = none → Bx H' p 0 → Q (.ref p) H'
theorem ok__law_box (T : Defs K mg) (TT : Tabs T base) : FnOk P w K mg base CX0 1 T.f__law_box T.fd__law_box ["_law_script", "_law_k"] (sp__law_box K) := by
  refine T.F__law_box.ok sc__law_box (fun vs H Q E h => ?_) (fun cdv A outer s H vs Q E hr h => ?_)
  · obtain ⟨a, ns, k, rfl, hS, hk, q⟩ := h
    rfl
  · obtain ⟨a, ns, k, rfl, hS, hk, q⟩ := h
    refine ⟨_, PSs.nox (pss_cons (ps_set (i := 2) sc__law_box.nd rfl (.inl rfl) pe_int)
    (pss_cons (ps_if (pt_cmpR op_lt (pv 1) (pe_callB call_len_seq (by rfl) T.m_len bt_len (pa_cons (pv 0) pa_nil)) (nomark _)) (pss_one (ps_set (i := 2) sc__law_box.nd rfl (.inl rfl) (pe_ix ix_list (pv 0) (pv 1) (fun _ _ => rfl)))) pss_nil)
    (pss_one (ps_ret (pe_lst (pa_cons (pe_op op_mul (pe_callB call_abs (by rfl) T.m_abs bt_abs (pa_cons (pv 2) pa_nil)) (pe_callTy call_int1 (by rfl) T.m_int bt_int (pa_cons (pe_cmpR op_ge (pe_callB call_abs (by rfl) T.m_abs bt_abs (pa_cons (pv 2) pa_nil)) (pe_op op_pow pe_int pe_int) (nomark _)) pa_nil))) (pa_cons (pe_op op_mod (pe_op op_add (pv 2) (pe_op op_mul (pe_op op_mul pe_int (pv 1)) (pv 1))) pe_int) (pa_cons pe_int pa_nil)))))))), ?_⟩
    refine ⟨.int k, rfl, .ref a, rfl, a, _, rfl, .inl hS, _, _, rfl, rfl, _, rfl, ite2 (fun e => ?_) (fun e => ?_)⟩
    · have hl : (k : Int) < ((ns.map V.int).length : Nat) := of_decide_eq_true e
      rw [List.length_map] at hl
      have hj : k < ns.length := by omega
      refine ⟨.ref a, rfl, .int k, rfl, a, _, _, .int ns[k], rfl, rfl, hS, atI_nat (by rw [List.getElem?_map, List.getElem?_eq_getElem hj]; rfl), ?_⟩
      refine ⟨_, rfl, _, rfl, _, rfl, _, rfl, _, _, rfl, rfl, ⟨by decide, by decide, by decide⟩, _, _, rfl, rfl, .inr ⟨_, rfl, _, _, rfl, rfl, .inr i01, _, rfl, .int k, rfl, _, _, rfl, rfl, .inl ⟨by decide, by decide⟩, .int k, rfl, _, _, rfl, rfl, .inr ⟨by omega, by omega⟩, _, _, rfl, rfl, _, _, rfl, rfl, (show (0 : Int) < 2147483647 by decide), (show 3 ≤ sizeLine by decide), fun p np => ?_⟩⟩
      refine q _ p (same_upd np) np ⟨_, _, _, upd_same, ?_, Int.emod_nonneg _ (by decide), Int.emod_lt_of_pos _ (by decide), Int.le_refl 0, Int.le_refl 0⟩
      exact Int.mul_nonneg (absn _) i01n
    · refine ⟨_, rfl, _, rfl, _, rfl, _, rfl, _, _, rfl, rfl, ⟨by decide, by decide, by decide⟩, _, _, rfl, rfl, .inr ⟨_, rfl, _, _, rfl, rfl, .inr i01, _, rfl, .int k, rfl, _, _, rfl, rfl, .inl ⟨by decide, by decide⟩, .int k, rfl, _, _, rfl, rfl, .inr ⟨by omega, by omega⟩, _, _, rfl, rfl, _, _, rfl, rfl, (show (0 : Int) < 2147483647 by decide), (show 3 ≤ sizeLine by decide), fun p np => ?_⟩⟩
      refine q _ p (same_upd np) np ⟨_, _, _, upd_same, ?_, Int.emod_nonneg _ (by decide), Int.emod_lt_of_pos _ (by decide), Int.le_refl 0, Int.le_refl 0⟩
      exact Int.mul_nonneg (absn _) i01n
/-! one number taken -/
def sp__law_take (K : PySem.W.Frag) : Sp := fun vs H Q _ => ∃ (p : Addr) (m : Int) (n : Nat), vs = [.ref p, .int m] ∧ Bx H p n ∧ 0 < m ∧ m < 2 ^ 60 ∧ n < 1000000000000 ∧
  ∀ H' r, But p H H' → Bx H' p (n + 1) → 0 ≤ r → r < m → Q (.int r) H'
theorem ok__law_take (T : Defs K mg) (TT : Tabs T base) : FnOk P w K mg base CX0 1 T.f__law_take T.fd__law_take ["_law_box_here", "_law_many"] (sp__law_take K) := by
  refine T.F__law_take.ok sc__law_take (fun vs H Q E h => ?_) (fun cdv A outer s H vs Q E hr h => ?_)
  · obtain ⟨p, m, n, rfl, ⟨a, b, c, hp, ha, hb, hb2, hc, hc2⟩, h0, h1, hn, q⟩ := h
    rfl
  · obtain ⟨p, m, n, rfl, ⟨a, b, c, hp, ha, hb, hb2, hc, hc2⟩, h0, h1, hn, q⟩ := h
    refine ⟨_, PSs.nox (pss_cons (ps_if (pt_cmpR op_gt (pe_ix ix_list (pv 0) pe_int (fun _ _ => rfl)) pe_int (nomark _)) (pss_cons (ps_asg (pe_callB call_divmodW (by rfl) T.m_divmod bt_divmod (pa_cons (pe_ix ix_list (pv 0) pe_int (fun _ _ => rfl)) (pa_cons (pv 1) pa_nil))) (pg_tup rfl (pgs_cons (pg_sub (pv 0) pe_int set_list) (pgs_cons (pg_name (i := 2) sc__law_take.nd rfl (.inl rfl)) pgs_nil))))
    (pss_one (ps_ret (pv 2)))) pss_nil)
    (pss_cons (ps_asg (pe_op op_add (pe_ix ix_list (pv 0) pe_int (fun _ _ => rfl)) pe_int) (pg_sub (pv 0) pe_int set_list))
    (pss_cons (ps_set (i := 3) sc__law_take.nd rfl (.inl rfl) (pe_op op_mod (pe_op op_pow (pe_op op_add (pe_ix ix_list (pv 0) pe_int (fun _ _ => rfl)) (pe_op op_mul pe_int (pe_ix ix_list (pv 0) pe_int (fun _ _ => rfl)))) pe_int) pe_int))
    (pss_one (ps_ret (pe_op op_mod (pe_op op_fdiv (pe_op op_mod (pe_op op_add (pe_op op_mul (pv 3) pe_int) (pe_op op_mul (pe_op op_mul (pe_ix ix_list (pv 0) pe_int (fun _ _ => rfl)) (pe_ix ix_list (pv 0) pe_int (fun _ _ => rfl))) pe_int)) pe_int) pe_int) (pv 1))))))), ?_⟩
    have SQ : SqL K H p [.int a, .int b, .int c] := SqL.mk hp
    refine ⟨.ref p, rfl, p, _, 0, _, rfl, rfl, SQ, atI_nat (j := 0) rfl, _, _, rfl, rfl, _, rfl, ite2 (fun e => ?_) (fun e => ?_)⟩
    · refine ⟨.ref p, rfl, p, _, 0, _, rfl, rfl, SQ, atI_nat (j := 0) rfl, .int m, rfl, a, m, rfl, cdivP h0 h1, fun t nt => ?_⟩
      have hp1 : (upd H t (.tup [.int (a / m), .int (a % m)])) p = some (.lst [.int a, .int b, .int c]) := by
        rw [upd_ne (ne_of_none hp nt)]
        exact hp
      refine ⟨t, _, rfl, SqT.mk upd_same, rfl, _, _, rfl, .ref p, rfl, p, _, 0, 0, rfl, rfl, hp1, rfl, _, _, rfl, rfl, _, rfl, ?_⟩
      refine q _ _ ((But.refl p H).new nt).put ⟨_, _, _, upd_same, Int.ediv_nonneg ha (by omega), hb, hb2, hc, by omega⟩ (Int.emod_nonneg _ (by omega)) (Int.emod_lt_of_pos _ h0)
    · refine ⟨.ref p, rfl, p, _, 2, _, rfl, rfl, SQ, atI_nat (j := 2) rfl, _, _, rfl, rfl, .ref p, rfl, p, _, 2, 2, rfl, rfl, hp, rfl, ?_⟩
      have SQ1 : SqL K (upd H p (.lst [.int a, .int b, .int (c + 1)])) p [.int a, .int b, .int (c + 1)] := SqL.mk upd_same
      refine ⟨.ref p, rfl, p, _, 1, _, rfl, rfl, SQ1, atI_nat (j := 1) rfl, .ref p, rfl, p, _, 2, _, rfl, rfl, SQ1, atI_nat (j := 2) rfl, _, _, rfl, rfl, .inl ⟨by decide, by decide⟩, _, _, rfl, rfl, _, _, rfl, rfl, ⟨by decide, by decide, by omega⟩, _, _, rfl, rfl, (show (0 : Int) < 2147483647 by decide), ?_⟩
      refine ⟨_, rfl, _, _, rfl, rfl, .inr ⟨by decide, by decide⟩, .ref p, rfl, p, _, 2, _, rfl, rfl, SQ1, atI_nat (j := 2) rfl, .ref p, rfl, p, _, 2, _, rfl, rfl, SQ1, atI_nat (j := 2) rfl, _, _, rfl, rfl, .inl ⟨by omega, by omega⟩, _, _, rfl, rfl, .inr ⟨by decide, by decide⟩, _, _, rfl, rfl, _, _, rfl, rfl, (show (0 : Int) < 2147483629 by decide), _, _, rfl, rfl, ⟨by decide, by decide⟩, .int m, rfl, _, _, rfl, rfl, h0, ?_⟩
      refine q _ _ (But.refl p H).put ⟨_, _, _, upd_same, ha, hb, hb2, by omega, by omega⟩ (Int.emod_nonneg _ (by omega)) (Int.emod_lt_of_pos _ h0)
/-! the folded cells -/
theorem cut_take (ns : List Int) (m : Nat) : cutV (ns.map V.int) none (some (m : Int)) = (ns.take m).map V.int := by
  unfold cutV
  rw [HT.sIx_none, HT.sIx_nat, List.drop_zero, List.length_map, Nat.sub_zero, ← List.map_take]
  congr 1
  by_cases h : m ≤ ns.length
  · rw [Nat.min_eq_left h]
  · rw [Nat.min_eq_right (by omega), List.take_length, List.take_of_length_le (by omega)]
theorem cut_rest (ns : List Int) (m k : Nat) : ∃ ms : List Int, cutV (ns.map V.int) (some (m : Int)) (some (k : Int)) = ms.map V.int ∧ (0 < ms.length → m < ns.length) ∧ ms.length ≤ ns.length := by
  unfold cutV
  rw [HT.sIx_nat, HT.sIx_nat, List.length_map]
  refine ⟨(ns.drop (min m ns.length)).take (min k ns.length - min m ns.length), ?_, fun h => ?_, ?_⟩
  · rw [List.map_take, List.map_drop]
  · rw [List.length_take, List.length_drop] at h
    omega
  · rw [List.length_take, List.length_drop]
    omega
def sp__law_folded (K : PySem.W.Frag) : Sp := fun vs H Q _ => ∃ (a : Addr) (ns : List Int) (m : Nat), vs = [.ref a, .int (m : Nat)] ∧ SqL K H a (ns.map V.int) ∧ ns.length ≤ 63 ∧ 0 < m ∧ m < 64 ∧
  ∀ H' p (cs : List Int), Same H H' → H p = none → H' p = some (.lst (cs.map V.int)) → cs.length ≤ m → Q (.ref p) H'
theorem ok__law_folded (T : Defs K mg) (TT : Tabs T base) : FnOk P w K mg base CX0 1 T.f__law_folded T.fd__law_folded ["_law_script", "_law_many"] (sp__law_folded K) := by
  refine T.F__law_folded.ok sc__law_folded (fun vs H Q E h => ?_) (fun cdv A outer s H vs Q E hr h => ?_)
  · obtain ⟨a, ns, m, rfl, hS, hlen, hm, hm2, q⟩ := h
    rfl
  · obtain ⟨a, ns, m, rfl, hS, hlen, hm, hm2, q⟩ := h
    refine ⟨_, PSs.nox (pss_cons (ps_set (i := 2) sc__law_folded.nd rfl (.inl rfl) (pe_callTy call_list_of (by rfl) T.m_list bt_list (pa_cons (pe_slice sl_list (pv 0) po_none (po_some (pv 1))) pa_nil)))
    (pss_cons ((ps_for PassesOwn.never rfl (pi_enum (by rfl) T.m_enumerate (pa_cons (pe_slice sl_list (pv 0) (po_some (pv 1)) (po_some pe_int)) pa_nil)) (pg_tup rfl (pgs_cons (pg_name (i := 3) sc__law_folded.nd rfl (.inl rfl)) (pgs_cons (pg_name (i := 4) sc__law_folded.nd rfl (.inl rfl)) pgs_nil))) (pss_one (ps_asg (pe_op op_add (pe_ix ix_list (pv 2) (pe_op op_mod (pv 3) (pv 1)) (fun _ _ => rfl)) (pe_op op_mul (pv 4) (pe_op op_add (pv 3) pe_int))) (pg_sub (pv 2) (pe_op op_mod (pv 3) (pv 1)) set_list)))))
    (pss_one (ps_ret (pv 2))))), ?_⟩
    refine ⟨.ref a, rfl, .int m, rfl, m, rfl, a, _, rfl, hS, fun c nc => ?_⟩
    rw [cut_take]
    have s1 : Same H (upd H c (.lst ((ns.take m).map V.int))) := same_upd nc
    refine ⟨c, _, rfl, .inl (SqL.mk upd_same), fun l nl => ?_⟩
    have s2 := s1.trans (same_upd nl (o := .lst ((ns.take m).map V.int)))
    refine ⟨.ref a, rfl, .int m, rfl, m, rfl, 63, rfl, a, _, rfl, s2.seq hS, fun d nd => ?_⟩
    obtain ⟨ms, em, hms, hms2⟩ := cut_rest ns m 63
    rw [show (63 : Int) = ((63 : Nat) : Int) from rfl, em]
    have nl0 : H l = none := s1.free nl
    have nd0 : H d = none := s2.free nd
    have ndl : l ≠ d := fun e => by
      rw [← e, upd_same] at nd
      cases nd
    refine ⟨d, _, rfl, SqL.mk upd_same, for_it (walk_enum (xs := ms.map V.int)) (fun i σ H3 => ∃ y3 y4, ∃ cs : List Int, σ = [some (.ref a), some (.int m), some (.ref l), y3, y4] ∧ Same H H3 ∧ H3 l = some (.lst (cs.map V.int)) ∧ cs.length = (ns.take m).length ∧ H3 d = some (.lst (ms.map V.int))) ⟨none, none, ns.take m, rfl, s2.trans (same_upd nd), ?_, rfl, upd_same⟩ ?_ ?_ ?_⟩
    · rw [upd_ne ndl, upd_same]
    · rintro i σ H3 hi ⟨y3, y4, cs, rfl, s3, hl, hc, hd⟩
      exact SqL.mk hd
    · rintro i x σ H3 H4 hi ⟨y3, y4, cs, rfl, s3, hl, hc, hd⟩ ⟨t, x1, x2, rfl, nt, rfl, e1, e2⟩
      rw [List.length_map] at hi
      have lm : m < ns.length := hms (by omega)
      have lc : cs.length = m := by
        rw [hc, List.length_take]
        omega
      have ex1 : x1 = .int (i : Nat) := (Option.some.inj e1).symm
      have ex2 : x2 = .int ms[i] := by
        have e2 : (ms.map V.int)[i]? = some x2 := e2
        rw [List.getElem?_map, List.getElem?_eq_getElem hi] at e2
        exact (Option.some.inj e2).symm
      subst ex1 ex2
      have hl1 : (upd H3 t (.tup [.int (i : Nat), .int ms[i]])) l = some (.lst (cs.map V.int)) := by
        rw [upd_ne (ne_of_none hl nt)]
        exact hl
      have him : i % m < cs.length := by
        rw [lc]
        exact Nat.mod_lt _ hm
      have eim : ((i : Int) % (m : Int)) = ((i % m : Nat) : Int) := by omega
      refine ⟨t, _, rfl, SqT.mk upd_same, rfl, _, _, rfl, _, _, rfl, rfl, ?_⟩
      refine ⟨.ref l, rfl, .int (i : Nat), rfl, .int m, rfl, _, _, rfl, rfl, (show (0 : Int) < (m : Int) by omega), l, _, _, .int cs[i % m], rfl, rfl, SqL.mk hl1, ?_, .int ms[i], rfl, .int (i : Nat), rfl, _, _, rfl, rfl, _, _, rfl, rfl, .inr ⟨by omega, by omega⟩, _, _, rfl, rfl, .ref l, rfl, .int (i : Nat), rfl, .int m, rfl, _, _, rfl, rfl, (show (0 : Int) < (m : Int) by omega), l, _, _, i % m, rfl, rfl, hl1, ?_, ?_⟩
      · rw [eim]
        exact atI_nat (by rw [List.getElem?_map, List.getElem?_eq_getElem him]; rfl)
      · rw [eim]
        exact ixn (by rw [List.length_map]; exact him)
      · refine ⟨_, _, cs.set (i % m) (cs[i % m] + ms[i] * ((i : Int) + 2)), rfl, same_newer (s3.trans (same_upd nt)) nl0, ?_, by rw [List.length_set, hc], ?_⟩
        · rw [upd_same, List.map_set]
        · rw [upd_ne ndl.symm, upd_ne (ne_of_none hd nt)]
          exact hd
    · rintro σ H3 ⟨y3, y4, cs, rfl, s3, hl, hc, hd⟩
      exact ⟨.ref l, rfl, q H3 l cs s3 nl0 hl (by rw [hc, List.length_take]; omega)⟩
/-! the program's own -/
theorem op_fdivNW {X : Cx} : OpR X (binaryOp .FloorDiv) (rI (fun _ j => j ≠ 0 ∧ j.natAbs.log2 < 9000) fun i j => .int (i.fdiv j)) := opI fun _ _ _ _ _ _ _ hc q => floordiv_int hc.1 q (.inl (PyProof.noPylong_of_log2 hc.2))
theorem gcd_step (x y : Nat) : Nat.gcd y (x % y) = Nat.gcd x y := by
  rw [Nat.gcd_comm y, ← Nat.gcd_rec, Nat.gcd_comm]
theorem gcd_small {t b : Int} (hb : b ≠ 0) (h : S 4000 b) : (Int.gcd t b : Int).natAbs.log2 < 9000 := by
  have h1 : Int.gcd t b ≤ b.natAbs := Nat.le_of_dvd (by omega) (Nat.gcd_dvd_right _ _)
  have h2 : 0 < Int.gcd t b := Int.gcd_pos_of_ne_zero_right t hb
  exact (wide_div (i := 0) (j := (Int.gcd t b : Int)) (b := 4000) (by omega) (by rw [Int.natAbs_natCast]; exact Nat.lt_of_le_of_lt h1 h) (by decide) (by decide)).2
def sp_common_divisor (_ : PySem.W.Frag) : Sp := fun vs H Q _ => ∃ a b : Int, vs = [.int a, .int b] ∧ Q (.int (if (1 : Int) > (Int.gcd a b : Int) then 1 else (Int.gcd a b : Int))) H
theorem ok_common_divisor (T : Defs K mg) (TT : Tabs T base) : FnOk P w K mg base CX0 1 T.f_common_divisor T.fd_common_divisor ["one", "other"] (sp_common_divisor K) := by
  refine T.F_common_divisor.ok sc_common_divisor (fun vs H Q E h => ?_) (fun cdv A outer s H vs Q E hr h => ?_)
  · obtain ⟨a, b, rfl, q⟩ := h
    rfl
  · obtain ⟨a, b, rfl, q⟩ := h
    refine ⟨_, PSs.nox (pss_cons (ps_set (i := 0) sc_common_divisor.nd rfl (.inl rfl) (pe_callB call_abs (by rfl) T.m_abs bt_abs (pa_cons (pv 0) pa_nil)))
    (pss_cons (ps_set (i := 1) sc_common_divisor.nd rfl (.inl rfl) (pe_callB call_abs (by rfl) T.m_abs bt_abs (pa_cons (pv 1) pa_nil)))
    (pss_cons (ps_while PassesOwn.never (pt_cmpR op_gt (pv 1) pe_int (nomark _)) (pss_one (ps_par (i := 0) (j := 1) (by rfl) sc_common_divisor.nd rfl rfl (by decide) rfl rfl (pa_cons (pv 1) (pa_cons (pe_op op_mod (pv 0) (pv 1)) pa_nil)) (by rfl))))
    (pss_one (ps_ret (pe_callB (call_max2 rfl) (by rfl) T.m_max bt_max (pa_cons (pv 0) (pa_cons pe_int pa_nil)))))))), ?_⟩
    refine ⟨.int a, rfl, a, rfl, .int b, rfl, b, rfl, ?_⟩
    refine while_by (fun σ H1 => H1 = H ∧ ∃ x y : Nat, σ = [some (.int (x : Nat)), some (.int (y : Nat))] ∧ Nat.gcd x y = Int.gcd a b) (fun σ _ => match σ with | [_, some (.int y)] => y.toNat | _ => 0) ⟨rfl, a.natAbs, b.natAbs, ?_, rfl⟩ ?_ ?_
    · rw [abs_eq, abs_eq]
      rfl
    · rintro σ H1 ⟨rfl, x, y, rfl, hg⟩
      refine ⟨.int (y : Nat), rfl, _, _, rfl, rfl, _, rfl, ite2 (fun e => ?_) (fun e => ?_)⟩
      · have hy : (0 : Int) < (y : Int) := of_decide_eq_true e
        refine ⟨.int (y : Nat), rfl, .int (x : Nat), rfl, .int (y : Nat), rfl, _, _, rfl, rfl, hy, _, _, rfl, ⟨rfl, y, x % y, ?_, ?_⟩, ?_⟩
        · rfl
        · rw [gcd_step, hg]
        · show ((x : Int) % (y : Int)).toNat < ((y : Int)).toNat
          have := Int.emod_lt_of_pos (x : Int) hy
          have := Int.emod_nonneg (x : Int) (show (y : Int) ≠ 0 by omega)
          omega
      · have hy : ¬ (0 : Int) < (y : Int) := fun z => e (decide_eq_true z)
        have y0 : y = 0 := by omega
        subst y0
        rw [Nat.gcd_zero_right] at hg
        refine ⟨.int (x : Nat), rfl, _, _, rfl, ?_⟩
        rw [hg]
        exact q
    · rintro σ H1 Q1 Q2 hQ ⟨v, hv, i, j, e1, e2, k, e3, h3⟩
      exact ⟨v, hv, i, j, e1, e2, k, e3, hQ _ _ h3⟩
def sp_fraction (_ : PySem.W.Frag) : Sp := fun vs H Q _ => ∃ t b : Int, vs = [.int t, .int b] ∧ b ≠ 0 ∧ S 4000 b ∧ ∀ H' p, Same H H' → H p = none → H' p = some (.tup [.int (frT t b), .int (frB t b)]) → Q (.ref p) H'
theorem ok_fraction (T : Defs K mg) (TT : Tabs T base) : FnOk P w K mg base CX0 2 T.f_fraction T.fd_fraction ["top", "bottom"] (sp_fraction K) := by
  have G_common_divisor : FnOk P w K mg base CX0 1 T.f_common_divisor T.fd_common_divisor ["one", "other"] (sp_common_divisor K) := ok_common_divisor T TT
  refine T.F_fraction.ok sc_fraction (fun vs H Q E h => ?_) (fun cdv A outer s H vs Q E hr h => ?_)
  · obtain ⟨t, b, rfl, hb, hs, q⟩ := h
    rfl
  · obtain ⟨t, b, rfl, hb, hs, q⟩ := h
    refine ⟨_, PSs.nox (pss_cons (ps_set (i := 2) sc_fraction.nd rfl (.inl rfl) (pe_call G_common_divisor (hr.mono (by decide)) (by rfl) T.g_common_divisor T.F_common_divisor.kp T.b_common_divisor .nil pass0 (pa_cons (pv 0) (pa_cons (pv 1) pa_nil))))
    (pss_cons (ps_if (pt_cmpR op_lt (pv 1) pe_int (nomark _)) (pss_one (ps_set (i := 2) sc_fraction.nd rfl (.inl rfl) (pe_un un_neg (pv 2)))) pss_nil)
    (pss_one (ps_ret (pe_tup (pa_cons (pe_op op_fdivNW (pv 0) (pv 2)) (pa_cons (pe_op op_fdivNW (pv 1) (pv 2)) pa_nil))))))), ?_⟩
    have hg : 0 < Int.gcd t b := Int.gcd_pos_of_ne_zero_right t hb
    have hd := gcd_small (t := t) hb hs
    refine ⟨.int t, rfl, .int b, rfl, t, b, rfl, ?_⟩
    rw [if_neg (show ¬ (1 : Int) > (Int.gcd t b : Int) by omega)]
    refine ⟨.int b, rfl, _, _, rfl, rfl, _, rfl, ite2 (fun e => ?_) (fun e => ?_)⟩
    · have hb1 : b < 0 := of_decide_eq_true e
      refine ⟨_, rfl, _, rfl, .int t, rfl, _, rfl, _, _, rfl, rfl, ⟨by omega, by rw [Int.natAbs_neg]; exact hd⟩, .int b, rfl, _, rfl, _, _, rfl, rfl, ⟨by omega, by rw [Int.natAbs_neg]; exact hd⟩, (show 2 ≤ sizeLine by decide), fun p np => ?_⟩
      refine q _ p (same_upd np) np ?_
      rw [upd_same]
      exact congrArg some (by rw [← (fr_lt t hb1).1, ← (fr_lt t hb1).2])
    · have hb1 : ¬ b < 0 := fun z => e (decide_eq_true z)
      refine ⟨.int t, rfl, _, rfl, _, _, rfl, rfl, ⟨by omega, hd⟩, .int b, rfl, _, rfl, _, _, rfl, rfl, ⟨by omega, hd⟩, (show 2 ≤ sizeLine by decide), fun p np => ?_⟩
      refine q _ p (same_upd np) np ?_
      rw [upd_same]
      exact congrArg some (by rw [← (fr_ge t (show 0 < b by omega)).1, ← (fr_ge t (show 0 < b by omega)).2])
/-! sum(tuple) -/
theorem preSum_take (ns : List Int) : ∀ k, preSum (fun i => ns.getD i 0) k = (ns.take k).sum
  | 0 => rfl
  | k + 1 => by
    show preSum (fun i => ns.getD i 0) k + ns.getD k 0 = _
    rw [preSum_take ns k, List.take_add_one, List.getD_eq_getElem?_getD]
    cases ns[k]? with
    | none => simp
    | some x => simp
def rSumT (K : PySem.W.Frag) : List V → Hp → VK → Prop := fun vs H Q => ∃ (a : Addr) (ns : List Int), vs = [V.ref a] ∧ SqT K H a (ns.map V.int) ∧ Q (.int ns.sum) H
theorem cr_sumT {X : Cx} (hc : X.calm = true) : CallR X (.builtin "sum") (rSumT X.K) := by
  intro pins s σ H vs us Q I r h
  obtain ⟨a, ns, rfl, hs, q⟩ := h
  obtain ⟨its, rv, ht, _⟩ := I.tuple hs
  rw [Vals.ref1 r]
  have hh := I.ok.hd hc
  have lta : a < s.heap.objs.size := by
    obtain ⟨o, ho, _⟩ := ht
    exact Heap.lt_size ho
  have hl := rv.length
  rw [List.length_map] at hl
  refine call_sum_walkG (wpAny_pyIter_tuple (show s.heap.IsTuple a its.toArray from ht) ⟨s.heap.objs.size, _, _, _, _, _, fun i => ns.getD i 0, rfl, Walks.tuple (A := X.A.in1) hh s.heap.objs.size a (Nat.ne_of_lt lta) its.toArray, ⟨⟨_, Heap.get?_push_size _ rfl, rfl, rfl⟩, (show s.heap.IsTuple a its.toArray from ht).at fun o e => Heap.get?_push_of_some _ e⟩, fun b hb => ?_, fun i v hv => ?_, fun h' tk t' hk => ?_⟩)
  · show b < (s.heap.push _).objs.size
    rw [Heap.size_push]
    rcases List.mem_cons.mp hb with z | z
    · rw [z]
      exact Nat.lt_succ_self _
    · rw [List.mem_singleton.mp z]
      exact Nat.lt_succ_of_lt lta
  · have hv2 : its[i]? = some v := by simpa using hv
    have hi : i < ns.length := by
      have := (List.getElem?_eq_some_iff.mp hv2).1
      omega
    obtain ⟨u, hu, ru⟩ := rv.get (show (ns.map V.int)[i]? = some (V.int ns[i]) by rw [List.getElem?_map, List.getElem?_eq_getElem hi]; rfl)
    rw [hv2] at hu
    cases hu
    obtain ⟨t, rfl⟩ := (show ∃ t, v = Value.int ns[i] t from ru)
    exact ⟨t, by
      show Value.int ns[i] t = Value.int (ns.getD i 0) t
      rw [List.getD_eq_getElem?_getD, List.getElem?_eq_getElem hi]
      rfl⟩
  · rw [preSum_take, List.take_of_length_le (by rw [List.size_toArray]; omega)]
    refine ⟨.int _, H, I.kept fun b o e => hk b o (fun z => ?_) (Heap.get?_push_of_some _ e), ⟨_, rfl⟩, q⟩
    rw [List.mem_singleton] at z
    rw [z] at e
    exact Nat.lt_irrefl _ (Heap.lt_size e)
theorem sumTK {X : Cx} {K : PySem.W.Frag} (h : X.K = K) (hc : X.calm = true) : CallR X (.builtin "sum") (rSumT K) := by
  subst h
  exact cr_sumT hc
/-! heaps with tables -/
theorem trip0 : TriplesOk (#[] : Array Value).toList := trivial
structure Sam (H H' : Hp) : Prop where
  obj : ∀ b o, (∀ ps, o ≠ .tbl ps) → H b = some o → H' b = some o
  tab : ∀ b ps, H b = some (.tbl ps) → ∃ ps', H' b = some (.tbl ps') ∧ (TriplesOk ps.toList → TriplesOk ps'.toList)
theorem Sam.of {H H' : Hp} (s : Same H H') : Sam H H' := ⟨fun b o _ e => s b o e, fun b ps e => ⟨ps, s b _ e, fun z => z⟩⟩
theorem Sam.refl (H : Hp) : Sam H H := .of (Same.refl H)
theorem Sam.trans {H H1 H2 : Hp} (a : Sam H H1) (b : Sam H1 H2) : Sam H H2 := ⟨fun c o n e => b.obj c o n (a.obj c o n e), fun c ps e => by
  obtain ⟨p1, e1, t1⟩ := a.tab c ps e
  obtain ⟨p2, e2, t2⟩ := b.tab c p1 e1
  exact ⟨p2, e2, fun z => t2 (t1 z)⟩⟩
theorem Sam.tabG {H H' : Hp} {P : Addr} (a : Sam H H') (t : GxR.TabG H P) : GxR.TabG H' P := by
  obtain ⟨ps, e, z⟩ := t
  obtain ⟨p1, e1, t1⟩ := a.tab P ps e
  exact ⟨p1, e1, t1 z⟩
theorem Sam.tup {H H' : Hp} {a : Addr} {xs : List V} (s : Sam H H') (h : H a = some (.tup xs)) : H' a = some (.tup xs) := s.obj _ _ (fun _ z => by cases z) h
theorem Sam.lst {H H' : Hp} {a : Addr} {xs : List V} (s : Sam H H') (h : H a = some (.lst xs)) : H' a = some (.lst xs) := s.obj _ _ (fun _ z => by cases z) h
theorem Sam.free {H H' : Hp} (s : Sam H H') {l : Addr} (h : H' l = none) : H l = none := by
  cases q : H l with
  | none => rfl
  | some o =>
    cases o with
    | tbl ps =>
      obtain ⟨p1, e1, _⟩ := s.tab l ps q
      rw [e1] at h
      cases h
    | _ =>
      rw [s.obj l _ (fun _ z => by cases z) q] at h
      cases h
theorem Sam.tabbed {P : Addr} {H H' : Hp} (g : GxR.TabG H P) (t : GxR.Tabbed P H H') : Sam H H' := by
  obtain ⟨⟨p1, e1, z1⟩, k⟩ := t
  obtain ⟨p0, e0, _⟩ := g
  refine ⟨fun b o n e => ?_, fun b ps e => ?_⟩
  · by_cases hb : b = P
    · rw [hb, e0] at e
      exact absurd (Option.some.inj e).symm (n p0)
    · rw [k b hb]
      exact e
  · by_cases hb : b = P
    · rw [hb]
      exact ⟨p1, e1, fun _ => z1⟩
    · exact ⟨ps, by rw [k b hb]; exact e, fun z => z⟩
theorem sam_newer {H H' : Hp} {q : Addr} {o : HO} (a : Sam H H') (n : H q = none) : Sam H (upd H' q o) := ⟨fun c x hx e => by
    rw [upd_ne (ne_of_none e n)]
    exact a.obj c x hx e, fun c ps e => by
    obtain ⟨p1, e1, t1⟩ := a.tab c ps e
    exact ⟨p1, by rw [upd_ne (ne_of_none e n)]; exact e1, t1⟩⟩
/-- all but the box stays, tables grow -/
structure Bus (p : Addr) (H H' : Hp) : Prop where
  obj : ∀ b o, b ≠ p → (∀ ps, o ≠ .tbl ps) → H b = some o → H' b = some o
  tab : ∀ b ps, b ≠ p → H b = some (.tbl ps) → ∃ ps', H' b = some (.tbl ps') ∧ (TriplesOk ps.toList → TriplesOk ps'.toList)
theorem Bus.of {p : Addr} {H H' : Hp} (s : But p H H') : Bus p H H' := ⟨fun b o n _ e => s b o n e, fun b ps n e => ⟨ps, s b _ n e, fun z => z⟩⟩
theorem Bus.sam {p : Addr} {H H' : Hp} (s : Sam H H') : Bus p H H' := ⟨fun b o _ n e => s.obj b o n e, fun b ps _ e => s.tab b ps e⟩
theorem Bus.refl (p : Addr) (H : Hp) : Bus p H H := .of (But.refl p H)
theorem Bus.trans {p : Addr} {H H1 H2 : Hp} (a : Bus p H H1) (b : Bus p H1 H2) : Bus p H H2 := ⟨fun c o h n e => b.obj c o h n (a.obj c o h n e), fun c ps h e => by
  obtain ⟨p1, e1, t1⟩ := a.tab c ps h e
  obtain ⟨p2, e2, t2⟩ := b.tab c p1 h e1
  exact ⟨p2, e2, fun z => t2 (t1 z)⟩⟩
theorem Bus.tup {p : Addr} {H H' : Hp} {n : Nat} {a : Addr} {xs : List V} (s : Bus p H H') (B : Bx H p n) (h : H a = some (.tup xs)) : H' a = some (.tup xs) := s.obj _ _ (B.ne_tup h) (fun _ z => by cases z) h
theorem Bus.lst {p : Addr} {H H' : Hp} {a : Addr} {xs : List V} (s : Bus p H H') (ne : a ≠ p) (h : H a = some (.lst xs)) : H' a = some (.lst xs) := s.obj _ _ ne (fun _ z => by cases z) h
theorem Bus.tabG {p : Addr} {H H' : Hp} {n : Nat} {P : Addr} (s : Bus p H H') (B : Bx H p n) (t : GxR.TabG H P) : GxR.TabG H' P := by
  obtain ⟨ps, e, z⟩ := t
  obtain ⟨a, b, c, hp, _⟩ := B
  obtain ⟨p1, e1, t1⟩ := s.tab P ps (ne_of e hp (fun z => by cases z)) e
  exact ⟨p1, e1, t1 z⟩
theorem Bus.new {p q : Addr} {H H' : Hp} {o : HO} (a : Bus p H H') (n : H' q = none) : Bus p H (upd H' q o) := a.trans (.of ((But.refl p H').new n))
/-- a thing made since H may change -/
theorem bus_newer {p q : Addr} {H H' : Hp} {o : HO} (a : Bus p H H') (n : H q = none) : Bus p H (upd H' q o) := ⟨fun c x h hx e => by
    rw [upd_ne (ne_of_none e n)]
    exact a.obj c x h hx e, fun c ps h e => by
    obtain ⟨p1, e1, t1⟩ := a.tab c ps h e
    exact ⟨p1, by rw [upd_ne (ne_of_none e n)]; exact e1, t1⟩⟩
theorem Bus.free {p : Addr} {H H' : Hp} {n : Nat} (s : Bus p H H') (B : Bx H p n) (B' : ∃ m, Bx H' p m) {l : Addr} (h : H' l = none) : H l = none := by
  cases q : H l with
  | none => rfl
  | some o =>
    have nl : l ≠ p := fun z => by
      obtain ⟨m, _, _, _, hp, _⟩ := B'
      rw [z, hp] at h
      cases h
    cases o with
    | tbl ps =>
      obtain ⟨p1, e1, _⟩ := s.tab l ps nl q
      rw [e1] at h
      cases h
    | _ =>
      rw [s.obj l _ nl (fun _ z => by cases z) q] at h
      cases h
theorem Bx.sam {H H' : Hp} {p : Addr} {n : Nat} (h : Bx H p n) (s : Sam H H') : Bx H' p n := by
  obtain ⟨a, b, c, hp, r⟩ := h
  exact ⟨a, b, c, s.lst hp, r⟩
theorem bus_same {p : Addr} {H H1 H2 : Hp} (n : H p = none) (a : Sam H H1) (b : Bus p H1 H2) : Sam H H2 := ⟨fun c x h e => b.obj c x (ne_of_none e n) h (a.obj c x h e), fun c ps e => by
  obtain ⟨p1, e1, t1⟩ := a.tab c ps e
  obtain ⟨p2, e2, t2⟩ := b.tab c p1 (ne_of_none e n) e1
  exact ⟨p2, e2, fun z => t2 (t1 z)⟩⟩
theorem ne_new {H : Hp} {p q : Addr} {n : Nat} (B : Bx H p n) (nq : H q = none) : q ≠ p := fun e => by
  obtain ⟨_, _, _, hp, _⟩ := B
  rw [e, hp] at nq
  cases nq
/-! a tuple so many times -/
theorem tuple_once (l : Addr) (items : Array Value) (n : Nat) (dd : Option Addr) (sl : Array (Option Value)) (u : Tok) :
    Meets (Builtin.«tuple.__mul__» ⟨[.ref l, .int 1 u], []⟩) (fun _ R s => s.heap.get? l = some { cls := .type "tuple", dict := dd, data := .seq items n, slots := sl } ∧ R (.ok (.ret (Value.ref l))) { s with toks := s.toks }) :=
  .of_wp fun prog w A R s h => by
    obtain ⟨hp, g, d, tk, os⟩ := s
    obtain ⟨hl, h⟩ := h
    have f1 := AutoSeq1.idx_int
    have c1 : (items.isEmpty || (1 : Int) == 1) = true := by simp
    wp_walk using wpAny_loadPart' hl
    repeat (first
      | (refine wpAny_ite_true (decide_eq_true c1) ?_; wp_walk using wpAny_loadPart' hl)
      | (refine wpAny_ite_false (decide_eq_false (by decide)) ?_; wp_walk using wpAny_loadPart' hl))
    exact ⟨_, rfl, h⟩
def rRepA (K : PySem.W.Frag) : R2 := fun x y H Q => ∃ (l : Addr) (k : Nat) (xs : List V), x = .ref l ∧ y = .int (k : Nat) ∧ SqT K H l xs ∧ xs ≠ [] ∧ 1 ≤ k ∧ xs.length * k ≤ 1000000 ∧ (k = 1 → Q (.ref l) H) ∧
  (2 ≤ k → ∀ p, H p = none → Q (.ref p) (upd H p (.tup (List.replicate k xs).flatten)))
theorem op_repA {X : Cx} : OpR X (binaryOp .Mult) (rRepA X.K) := by
  intro pins s σ H x y v u Q I rx ry h
  obtain ⟨l, k, xs, rfl, rfl, hT, hne, h1, hz, q1, q2⟩ := h
  cases rx
  obtain ⟨t, rfl⟩ := ry
  obtain ⟨its, r, ⟨⟨cls, dd, data, sl⟩, ho, hc, n, hd⟩, hs⟩ := I.tuple hT
  simp only at hc hd
  subst hc hd
  have lx : 0 < xs.length := List.length_pos_iff.mpr hne
  have le : its.length = xs.length := r.length.symm
  have ke : k * xs.length ≤ 1000000 := by
    rw [Nat.mul_comm]
    exact hz
  have kl : k ≤ 1000000 := Nat.le_trans (Nat.le_mul_of_pos_right k lx) ke
  have ne : its.toArray.isEmpty = false := by
    cases its with
    | nil =>
      rw [← le] at lx
      cases lx
    | cons a b => rfl
  by_cases k1 : k = 1
  · subst k1
    refine wpAny_binaryOp_repeat_ref (T := "tuple") (U := "int") (by decide) ⟨_, ho, rfl⟩ (fun s' => typeIs_int s' _ t) noFill_tuple_mul F.fills_int_mul F.slot_int_rmul repeat_tuple F.slot_int_index.lookup
      (call_meets F.slot_int_rmul (typeIs_int s _ t) F.entry_int_rmul (F.args_int_rmul_2 _ _) (int_rmul_tuple _ t l its.toArray n dd sl)
        ⟨ho, rfl, ⟨_, ho, rfl⟩, call_meets F.slot_tuple_mul ⟨_, ho, rfl⟩ F.entry_tuple_mul (F.args_tuple_mul_2 _ _) (tuple_once l its.toArray n dd sl t) ⟨ho, ?_⟩⟩)
    exact ⟨.ref l, H, I, rfl, q1 rfl⟩
  · have k2 : 2 ≤ k := by omega
    have sz : its.toArray.size = xs.length := by rw [List.size_toArray, le]
    have pr : ((its.toArray.size : Nat) : Int) * (k : Int) ≤ 1000000 := by
      rw [sz, ← Int.natCast_mul]
      omega
    have fl : (List.replicate k its).flatten.length ≤ sizeLine := by
      rw [PyProof.Rows.lm_len_rep_flat, le, sizeLine_eq]
      omega
    have d0 : (decide ((k : Int) < -(2 ^ 63)) || decide ((k : Int) ≥ 2 ^ 63)) = false := by
      rw [decide_eq_false (show ¬ (k : Int) < -(2 ^ 63) by omega), decide_eq_false (show ¬ (k : Int) ≥ 2 ^ 63 by omega)] <;> rfl
    have d1 : (its.toArray.isEmpty || (k : Int) == 1) = false := by
      rw [ne, Bool.false_or]
      exact beq_eq_false_iff_ne.mpr (by omega)
    have d2 : (decide ((k : Int) ≤ 0) || its.toArray.isEmpty) = false := by
      rw [ne, Bool.or_false]
      exact decide_eq_false (by omega)
    have d4 : Builtin.Tuple.tupleTooMany (((its.toArray.size : Nat) : Int) * (k : Int)) = false := by
      unfold Builtin.Tuple.tupleTooMany
      rw [sizeLine_eq]
      exact decide_eq_false (by omega)
    refine wpAny_binaryOp_repeat_ref (T := "tuple") (U := "int") (by decide) ⟨_, ho, rfl⟩ (fun s' => typeIs_int s' _ t) noFill_tuple_mul F.fills_int_mul F.slot_int_rmul repeat_tuple F.slot_int_index.lookup
      (call_meets F.slot_int_rmul (typeIs_int s _ t) F.entry_int_rmul (F.args_int_rmul_2 _ _) (int_rmul_tuple _ t l its.toArray n dd sl)
        ⟨ho, rfl, ⟨_, ho, rfl⟩, call_meets F.slot_tuple_mul ⟨_, ho, rfl⟩ F.entry_tuple_mul (F.args_tuple_mul_2 _ _) (tuple_mulW l its.toArray n dd sl (k : Int) t d0 d1 d2 (by omega) d4 (by rw [Int.toNat_natCast, size_rep, List.size_toArray]; exact fl)) ⟨ho, ?_⟩⟩)
    rw [Int.toNat_natCast, size_rep]
    refine ⟨.ref s.heap.objs.size, _, I.laid (t' := s.toks) (o := .tup (List.replicate k xs).flatten) (fun b ob q => Heap.get?_push_of_some _ q) (Nat.le_refl _) ⟨?_, _, r.rep k, IsTup.new _ _⟩, rfl, q2 k2 _ (I.hok.fresh (Nat.le_refl _))⟩
    rw [PyProof.Rows.lm_len_rep_flat, sizeLine_eq]
    omega
/-! the law's own rows -/
def Bits (rs : List Int) : Prop := ∀ x, x ∈ rs → x = 0 ∨ x = 1
theorem Bits.snoc {rs : List Int} {x : Int} (h : Bits rs) (hx : x = 0 ∨ x = 1) : Bits (rs ++ [x]) := fun y hy => by
  rcases List.mem_append.mp hy with hy | hy
  · exact h y hy
  · rw [List.mem_singleton] at hy
    rw [hy]
    exact hx
theorem but_newer {p q : Addr} {H H' : Hp} {o : HO} (a : But p H H') (n : H q = none) : But p H (upd H' q o) := fun c x hn e => by
  rw [upd_ne (ne_of_none e n)]
  exact a c x hn e
theorem Bx.other {H : Hp} {p q : Addr} {n : Nat} {o : HO} (h : Bx H p n) (nq : q ≠ p) : Bx (L2.upd H q o) p n := by
  obtain ⟨a, b, c, hp, r⟩ := h
  exact ⟨a, b, c, by rw [upd_ne (Ne.symm nq)]; exact hp, r⟩
def PV (p D : Addr) (HX : Hp) (k i : Nat) (H1 : Hp) : Prop := ∃ rs : List Int, rs.length = i ∧ Bits rs ∧ But p HX H1 ∧ Bx H1 p (k + i) ∧ H1 D = some (.lst (rs.map V.int))
theorem pv_start {p D : Addr} {HX : Hp} {k : Nat} (nD : HX D = none) (B : Bx HX p k) : PV p D HX k 0 (upd HX D (.lst [])) := ⟨[], rfl, fun _ h => (by cases h), (But.refl p HX).new nD, B.new nD, upd_same⟩
theorem pv_step {p D : Addr} {HX H1 H4 : Hp} {k i : Nat} {x : Int} (nD : HX D = none) (Dp : D ≠ p) (h : PV p D HX k i H1) (b : But p H1 H4) (B : Bx H4 p (k + (i + 1))) (hi : i < 100000) (hx : x = 0 ∨ x = 1) :
    ∃ acc, H4 D = some (.lst acc) ∧ acc.length < sizeLine ∧ PV p D HX k (i + 1) (upd H4 D (.lst (acc ++ [.int x]))) := by
  obtain ⟨rs, hl, hb, b1, _, hD⟩ := h
  have hsl : sizeLine = 16777216 := by decide
  refine ⟨_, b _ _ Dp hD, by rw [List.length_map]; omega, rs ++ [x], by rw [List.length_append, hl]; rfl, hb.snoc hx, but_newer (b1.trans b) nD, B.other Dp, ?_⟩
  rw [upd_same, List.map_append]
  rfl
theorem rep_one (m : Nat) (x : Int) : (List.replicate m [V.int x]).flatten = (List.replicate m x).map V.int := by
  rw [List.map_replicate]
  induction m with
  | zero => rfl
  | succ m ih => rw [List.replicate_succ, List.flatten_cons, ih, List.replicate_succ]; rfl
def sp__law_row (_ : PySem.W.Frag) : Sp := fun vs H Q _ => ∃ (p : Addr) (m n : Nat), vs = [.ref p, .int (m : Nat)] ∧ Bx H p n ∧ 1 ≤ m ∧ m ≤ 4096 ∧ n < 1000000000 ∧
  ∀ H' a (rs : List Int), But p H H' → Bx H' p (n + 5000) → H' a = some (.tup (rs.map V.int)) → rs.length = m → Bits rs → Q (.ref a) H'
theorem ok__law_row (T : Defs K mg) (TT : Tabs T base) : FnOk P w K mg base CX0 2 T.f__law_row T.fd__law_row ["_law_box_here", "_law_long_here"] (sp__law_row K) := by
  have G__law_take : FnOk P w K mg base CX0 1 T.f__law_take T.fd__law_take ["_law_box_here", "_law_many"] (sp__law_take K) := ok__law_take T TT
  refine T.F__law_row.ok sc__law_row (fun vs H Q E h => ?_) (fun cdv A outer s H vs Q E hr h => ?_)
  · obtain ⟨p, m, n, rfl, hB, hm, hm2, hn, q⟩ := h
    rfl
  · obtain ⟨p, m, n, rfl, hB, hm, hm2, hn, q⟩ := h
    refine ⟨_, PSs.nox (pss_cons (ps_set (i := 2) sc__law_row.nd rfl (.inl rfl) (pe_call G__law_take (hr.mono (by decide)) (by rfl) T.g__law_take T.F__law_take.kp T.b__law_take .nil pass0 (pa_cons (pv 0) (pa_cons pe_int pa_nil))))
    (pss_cons (ps_if (pt_cmpR op_eq (pv 2) pe_int (nomark _)) (pss_one (ps_ret (pe_op op_repA (pe_tup (pa_cons (pe_call G__law_take (hr.mono (by decide)) (by rfl) T.g__law_take T.F__law_take.kp T.b__law_take .nil pass0 (pa_cons (pv 0) (pa_cons pe_int pa_nil))) pa_nil)) (pv 1)))) pss_nil)
    (pss_cons (ps_if (pt_cmpR op_eq (pv 2) pe_int (nomark _)) (pss_cons (ps_asg (pe_tup (pa_cons (pe_call G__law_take (hr.mono (by decide)) (by rfl) T.g__law_take T.F__law_take.kp T.b__law_take .nil pass0 (pa_cons (pv 0) (pa_cons (pv 1) pa_nil))) (pa_cons (pe_call G__law_take (hr.mono (by decide)) (by rfl) T.g__law_take T.F__law_take.kp T.b__law_take .nil pass0 (pa_cons (pv 0) (pa_cons pe_int pa_nil))) pa_nil))) (pg_tup rfl (pgs_cons (pg_name (i := 3) sc__law_row.nd rfl (.inr rfl)) (pgs_cons (pg_name (i := 4) sc__law_row.nd rfl (.inr rfl)) pgs_nil))))
    (pss_one (ps_ret (pe_callTy call_tuple_of (by rfl) T.m_tuple bt_tuple (pa_cons (pe_lc (own := [("_law_place", 7)]) (g := gName 7) (tt := tYes) rfl sc__law_row.nd (pi_range1 (by rfl) T.m_range (pa_cons (pv 1) pa_nil)) (blkOk_by (N := N__law_row) (sc := defScope s__law_row) (by decide +kernel)) (fun _ _ _ _ _ => (pg_name (i := 7) sc__law_row.nd rfl (.inl rfl))) (fun _ _ _ _ _ => pts_nil) (fun _ _ _ _ _ => (pe_ifExp (pt_cmpR op_eq (pv 7) (pv 3) (nomark _)) (pv 4) (pe_op op_sub pe_int (pv 4))))) pa_nil))))) pss_nil)
    (pss_cons (ps_if (pt_cmpR op_eq (pv 2) pe_int (nomark _)) (pss_cons (ps_asg (pe_tup (pa_cons (pe_op op_add pe_int (pe_call G__law_take (hr.mono (by decide)) (by rfl) T.g__law_take T.F__law_take.kp T.b__law_take .nil pass0 (pa_cons (pv 0) (pa_cons pe_int pa_nil)))) (pa_cons (pe_call G__law_take (hr.mono (by decide)) (by rfl) T.g__law_take T.F__law_take.kp T.b__law_take .nil pass0 (pa_cons (pv 0) (pa_cons pe_int pa_nil))) pa_nil))) (pg_tup rfl (pgs_cons (pg_name (i := 5) sc__law_row.nd rfl (.inr rfl)) (pgs_cons (pg_name (i := 6) sc__law_row.nd rfl (.inr rfl)) pgs_nil))))
    (pss_one (ps_ret (pe_callTy call_tuple_of (by rfl) T.m_tuple bt_tuple (pa_cons (pe_lc (own := [("_law_place", 7)]) (g := gName 7) (tt := tYes) rfl sc__law_row.nd (pi_range1 (by rfl) T.m_range (pa_cons (pv 1) pa_nil)) (blkOk_by (N := N__law_row) (sc := defScope s__law_row) (by decide +kernel)) (fun _ _ _ _ _ => (pg_name (i := 7) sc__law_row.nd rfl (.inl rfl))) (fun _ _ _ _ _ => pts_nil) (fun _ _ _ _ _ => (pe_callTy call_int1 (by rfl) T.m_int bt_int (pa_cons (pe_cmpR op_eq (pe_op op_mod (pe_op op_add (pv 7) (pv 6)) (pv 5)) pe_int (nomark _)) pa_nil)))) pa_nil))))) pss_nil)
    (pss_one (ps_ret (pe_callTy call_tuple_of (by rfl) T.m_tuple bt_tuple (pa_cons (pe_lc (own := [("_law_place", 7)]) (g := gName 7) (tt := tYes) rfl sc__law_row.nd (pi_range1 (by rfl) T.m_range (pa_cons (pv 1) pa_nil)) (blkOk_by (N := N__law_row) (sc := defScope s__law_row) (by decide +kernel)) (fun _ _ _ _ _ => (pg_name (i := 7) sc__law_row.nd rfl (.inl rfl))) (fun _ _ _ _ _ => pts_nil) (fun _ _ _ _ _ => (pe_call G__law_take (hr.mono (by decide)) (by rfl) T.g__law_take T.F__law_take.kp T.b__law_take .nil pass0 (pa_cons (pv 0) (pa_cons pe_int pa_nil))))) pa_nil)))))))), ?_⟩
    refine ⟨.ref p, rfl, p, 5, n, rfl, hB, by decide, by decide, by omega, fun H1 r1 b1 B1 l1 u1 => ?_⟩
    refine ⟨.int r1, rfl, rfl, _, rfl, ite2 (fun _ => ?_) (fun _ => ?_)⟩
    · refine ⟨.ref p, rfl, p, 2, n + 1, rfl, B1, by decide, by decide, by omega, fun H2 r2 b2 B2 l2 u2 => ?_⟩
      have hbit : r2 = 0 ∨ r2 = 1 := by omega
      refine ⟨(show 1 ≤ sizeLine by decide), fun t nt => ?_⟩
      refine ⟨.int (m : Nat), rfl, t, m, _, rfl, rfl, SqT.mk upd_same, by simp, hm, (show 1 * m ≤ 1000000 by omega), fun z => ?_, fun z a na => ?_⟩
      · exact q _ t [r2] ((b1.trans b2).new nt) ((B2.new nt).mono (by omega)) upd_same z.symm (fun x hx => by
          rw [List.mem_singleton] at hx
          rw [hx]
          exact hbit)
      · refine q _ a (List.replicate m r2) (((b1.trans b2).new nt).new na) (((B2.new nt).new na).mono (by omega)) ?_ List.length_replicate (fun x hx => ?_)
        · rw [upd_same, rep_one]
        · rw [List.eq_of_mem_replicate hx]
          exact hbit
    refine ⟨.int r1, rfl, rfl, _, rfl, ite2 (fun _ => ?_) (fun _ => ?_)⟩
    · refine ⟨.ref p, rfl, .int (m : Nat), rfl, p, m, n + 1, rfl, B1, by omega, by omega, by omega, fun H2 r2 b2 B2 l2 u2 => ?_⟩
      refine ⟨.ref p, rfl, p, 2, n + 2, rfl, B2, by decide, by decide, by omega, fun H3 r3 b3 B3 l3 u3 => ?_⟩
      refine ⟨(show 2 ≤ sizeLine by decide), fun t nt => ?_⟩
      refine ⟨t, _, rfl, SqT.mk upd_same, rfl, _, _, rfl, _, _, rfl, rfl, ?_⟩
      have B4 := B3.new (o := .tup [.int r2, .int r3]) nt
      have b4 := ((b1.trans b2).trans b3).new (o := .tup [.int r2, .int r3]) nt
      generalize upd H3 t (.tup [.int r2, .int r3]) = H4 at *
      refine ⟨.int (m : Nat), rfl, m, rfl, by omega, by omega, fun D nD => ?_⟩
      refine lc_range (PV p D H4 (n + 3)) (pv_start nD B4) (fun i H5 hi h5 => ?_) (fun H5 h5 => ?_)
      · refine ⟨rfl, yes_ite ?_⟩
        have h5' := h5
        obtain ⟨_, _, _, _, B5, _⟩ := h5'
        have st : ∀ x : Int, (x = 0 ∨ x = 1) → _ := fun x hx => pv_step (H4 := H5) nD (ne_new B4 nD) h5 (But.refl p H5) (B5.mono (by omega)) (by omega) hx
        refine ⟨_, rfl, .int r2, rfl, rfl, _, rfl, ite2 (fun _ => ?_) (fun _ => ?_)⟩
        · exact ⟨.int r3, rfl, st r3 (by omega)⟩
        · exact ⟨.int r3, rfl, _, _, rfl, rfl, st (1 - r3) (by omega)⟩
      · obtain ⟨rs, hl, hb, b5, B5, hD⟩ := h5
        refine ⟨D, _, rfl, .inl ⟨SqL.mk hD, fun l nl => ?_⟩⟩
        exact q _ l rs ((b4.trans b5).new nl) ((B5.new nl).mono (by omega)) upd_same (by omega) hb
    refine ⟨.int r1, rfl, rfl, _, rfl, ite2 (fun _ => ?_) (fun _ => ?_)⟩
    · refine ⟨.ref p, rfl, p, 5, n + 1, rfl, B1, by omega, by omega, by omega, fun H2 r2 b2 B2 l2 u2 => ⟨_, _, rfl, rfl, ?_⟩⟩
      refine ⟨.ref p, rfl, p, 2, n + 2, rfl, B2, by decide, by decide, by omega, fun H3 r3 b3 B3 l3 u3 => ?_⟩
      refine ⟨(show 2 ≤ sizeLine by decide), fun t nt => ?_⟩
      refine ⟨t, _, rfl, SqT.mk upd_same, rfl, _, _, rfl, _, _, rfl, rfl, ?_⟩
      have B4 := B3.new (o := .tup [.int (2 + r2), .int r3]) nt
      have b4 := ((b1.trans b2).trans b3).new (o := .tup [.int (2 + r2), .int r3]) nt
      generalize upd H3 t (.tup [.int (2 + r2), .int r3]) = H4 at *
      refine ⟨.int (m : Nat), rfl, m, rfl, by omega, by omega, fun D nD => ?_⟩
      refine lc_range (PV p D H4 (n + 3)) (pv_start nD B4) (fun i H5 hi h5 => ?_) (fun H5 h5 => ?_)
      · refine ⟨rfl, yes_ite ?_⟩
        have h5' := h5
        obtain ⟨_, _, _, _, B5, _⟩ := h5'
        have st : ∀ x : Int, (x = 0 ∨ x = 1) → _ := fun x hx => pv_step (H4 := H5) nD (ne_new B4 nD) h5 (But.refl p H5) (B5.mono (by omega)) (by omega) hx
        refine ⟨_, rfl, .int r3, rfl, _, _, rfl, rfl, .int (2 + r2), rfl, _, _, rfl, rfl, (show (0 : Int) < 2 + r2 by omega), rfl, .inr ⟨_, rfl, st _ ?_⟩⟩
        split
        · exact .inr rfl
        · exact .inl rfl
      · obtain ⟨rs, hl, hb, b5, B5, hD⟩ := h5
        refine ⟨D, _, rfl, .inl ⟨SqL.mk hD, fun l nl => ?_⟩⟩
        exact q _ l rs ((b4.trans b5).new nl) ((B5.new nl).mono (by omega)) upd_same (by omega) hb
    · refine ⟨.int (m : Nat), rfl, m, rfl, by omega, by omega, fun D nD => ?_⟩
      refine lc_range (PV p D H1 (n + 1)) (pv_start nD B1) (fun i H5 hi h5 => ?_) (fun H5 h5 => ?_)
      · refine ⟨rfl, yes_ite ?_⟩
        have h5' := h5
        obtain ⟨_, _, _, _, B5, _⟩ := h5'
        refine ⟨.ref p, rfl, p, 2, n + 1 + i, rfl, B5, by decide, by decide, by omega, fun H6 r6 b6 B6 l6 u6 => ?_⟩
        exact pv_step nD (ne_new B1 nD) h5 b6 B6 (by omega) (by omega)
      · obtain ⟨rs, hl, hb, b5, B5, hD⟩ := h5
        refine ⟨D, _, rfl, .inl ⟨SqL.mk hD, fun l nl => ?_⟩⟩
        exact q _ l rs ((b1.trans b5).new nl) ((B5.new nl).mono (by omega)) upd_same (by omega) hb
def sp__law_long (_ : PySem.W.Frag) : Sp := fun vs H Q _ => ∃ (p : Addr) (n : Nat), vs = [.ref p] ∧ Bx H p n ∧ n < 1000000000 ∧
  ∀ H' (m : Nat), But p H H' → Bx H' p (n + 4) → 1 ≤ m → m ≤ 400 → Q (.int (m : Nat)) H'
theorem nat_of {x : Int} (h : 0 ≤ x) : ∃ m : Nat, x = (m : Nat) := Int.eq_ofNat_of_zero_le h
theorem ok__law_long (T : Defs K mg) (TT : Tabs T base) : FnOk P w K mg base CX0 2 T.f__law_long T.fd__law_long ["_law_box_here"] (sp__law_long K) := by
  have G__law_take : FnOk P w K mg base CX0 1 T.f__law_take T.fd__law_take ["_law_box_here", "_law_many"] (sp__law_take K) := ok__law_take T TT
  refine T.F__law_long.ok sc__law_long (fun vs H Q E h => ?_) (fun cdv A outer s H vs Q E hr h => ?_)
  · obtain ⟨p, n, rfl, hB, hn, q⟩ := h
    rfl
  · obtain ⟨p, n, rfl, hB, hn, q⟩ := h
    refine ⟨_, PSs.nox (pss_cons (ps_if (pt_cmpR op_eq (pe_call G__law_take (hr.mono (by decide)) (by rfl) T.g__law_take T.F__law_take.kp T.b__law_take .nil pass0 (pa_cons (pv 0) (pa_cons pe_int pa_nil))) pe_int (nomark _)) (pss_one (ps_ret (pe_op op_add pe_int (pe_call G__law_take (hr.mono (by decide)) (by rfl) T.g__law_take T.F__law_take.kp T.b__law_take .nil pass0 (pa_cons (pv 0) (pa_cons pe_int pa_nil)))))) pss_nil)
    (pss_one (ps_ret (pe_ix ix_list (pe_lst (pa_cons pe_int (pa_cons pe_int (pa_cons (pe_op op_add pe_int (pe_call G__law_take (hr.mono (by decide)) (by rfl) T.g__law_take T.F__law_take.kp T.b__law_take .nil pass0 (pa_cons (pv 0) (pa_cons pe_int pa_nil)))) (pa_cons (pe_op op_add pe_int (pe_call G__law_take (hr.mono (by decide)) (by rfl) T.g__law_take T.F__law_take.kp T.b__law_take .nil pass0 (pa_cons (pv 0) (pa_cons pe_int pa_nil)))) pa_nil))))) (pe_call G__law_take (hr.mono (by decide)) (by rfl) T.g__law_take T.F__law_take.kp T.b__law_take .nil pass0 (pa_cons (pv 0) (pa_cons pe_int pa_nil))) (fun _ _ => rfl))))), ?_⟩
    refine ⟨.ref p, rfl, p, 8, n, rfl, hB, by decide, by decide, by omega, fun H1 r1 b1 B1 l1 u1 => ?_⟩
    refine ⟨rfl, _, rfl, ite2 (fun _ => ?_) (fun _ => ?_)⟩
    · refine ⟨.ref p, rfl, p, 400, n + 1, rfl, B1, by decide, by decide, by omega, fun H2 r2 b2 B2 l2 u2 => ⟨_, _, rfl, rfl, ?_⟩⟩
      obtain ⟨m, em⟩ := nat_of (show 0 ≤ 1 + r2 by omega)
      show Q (.int (1 + r2)) H2
      rw [em]
      exact q H2 m (b1.trans b2) (B2.mono (by omega)) (by omega) (by omega)
    · refine ⟨.ref p, rfl, p, 12, n + 1, rfl, B1, by decide, by decide, by omega, fun H2 r2 b2 B2 l2 u2 => ⟨_, _, rfl, rfl, ?_⟩⟩
      refine ⟨.ref p, rfl, p, 40, n + 2, rfl, B2, by decide, by decide, by omega, fun H3 r3 b3 B3 l3 u3 => ⟨_, _, rfl, rfl, ?_⟩⟩
      refine ⟨(show 4 ≤ sizeLine by decide), fun l nl => ?_⟩
      refine ⟨.ref p, rfl, p, 4, n + 3, rfl, B3.new nl, by decide, by decide, by omega, fun H4 r4 b4 B4 l4 u4 => ?_⟩
      obtain ⟨v, ev, hv⟩ := at_menu (Pr := fun v => 1 ≤ v ∧ v ≤ 40) (xs := [1, 2, 1 + r2, 1 + r3]) l4 u4 (fun x hx => by
        rcases List.mem_cons.mp hx with rfl | hx
        · omega
        rcases List.mem_cons.mp hx with rfl | hx
        · omega
        rcases List.mem_cons.mp hx with rfl | hx
        · omega
        rcases List.mem_cons.mp hx with rfl | hx
        · omega
        · cases hx)
      obtain ⟨m, rfl⟩ := nat_of (show 0 ≤ v by omega)
      exact ⟨l, _, _, _, rfl, rfl, SqL.mk (b4 _ _ (ne_new B3 nl) upd_same), ev, q _ m ((((b1.trans b2).trans b3).new nl).trans b4) B4 (by omega) (by omega)⟩
/-! a tuple no times, too -/
theorem tuple_nought (l : Addr) (items : Array Value) (n : Nat) (dd : Option Addr) (sl : Array (Option Value)) (u : Tok) (hi : items.isEmpty = false) :
    Meets (Builtin.«tuple.__mul__» ⟨[.ref l, .int 0 u], []⟩) (fun _ R s => s.heap.get? l = some { cls := .type "tuple", dict := dd, data := .seq items n, slots := sl } ∧ R (.ok (.ret (Value.ref s.heap.objs.size))) { s with heap := s.heap.push { cls := Value.type "tuple", data := Data.seq #[] }, toks := s.toks }) :=
  .of_wp fun prog w A R s h => by
    obtain ⟨hp, g, d, tk, os⟩ := s
    obtain ⟨hl, h⟩ := h
    have f1 := AutoSeq1.idx_int
    have c1 : (items.isEmpty || (0 : Int) == 1) = false := by rw [hi]; rfl
    have c2 : (decide ((0 : Int) ≤ 0) || items.isEmpty) = true := by simp
    wp_walk using wpAny_loadPart' hl
    repeat (first
      | (refine wpAny_ite_false (decide_eq_false (by rw [c1]; exact Bool.false_ne_true)) ?_; wp_walk using wpAny_loadPart' hl)
      | (refine wpAny_ite_true (decide_eq_true c2) ?_; wp_walk using wpAny_loadPart' hl)
      | (refine wpAny_ite_false (decide_eq_false (by decide)) ?_; wp_walk using wpAny_loadPart' hl))
    exact ⟨_, rfl, h⟩
def rRepB (K : PySem.W.Frag) : R2 := fun x y H Q => ∃ (l : Addr) (k : Nat) (xs : List V), x = .ref l ∧ y = .int (k : Nat) ∧ SqT K H l xs ∧ xs ≠ [] ∧ xs.length * k ≤ 1000000 ∧ (k = 1 → Q (.ref l) H) ∧
  (k ≠ 1 → ∀ p, H p = none → Q (.ref p) (upd H p (.tup (List.replicate k xs).flatten)))
theorem op_repB {X : Cx} : OpR X (binaryOp .Mult) (rRepB X.K) := by
  intro pins s σ H x y v u Q I rx ry h
  obtain ⟨l, k, xs, rfl, rfl, hT, hne, hz, q1, q2⟩ := h
  by_cases k0 : k = 0
  · subst k0
    cases rx
    obtain ⟨t, rfl⟩ := ry
    obtain ⟨its, r, ⟨⟨cls, dd, data, sl⟩, ho, hc, n, hd⟩, hs⟩ := I.tuple hT
    simp only at hc hd
    subst hc hd
    have le : its.length = xs.length := r.length.symm
    have ne : its.toArray.isEmpty = false := by
      cases its with
      | nil => exact absurd (List.eq_nil_of_length_eq_zero le.symm) hne
      | cons a b => rfl
    refine wpAny_binaryOp_repeat_ref (T := "tuple") (U := "int") (by decide) ⟨_, ho, rfl⟩ (fun s' => typeIs_int s' _ t) noFill_tuple_mul F.fills_int_mul F.slot_int_rmul repeat_tuple F.slot_int_index.lookup
      (call_meets F.slot_int_rmul (typeIs_int s _ t) F.entry_int_rmul (F.args_int_rmul_2 _ _) (int_rmul_tuple _ t l its.toArray n dd sl)
        ⟨ho, rfl, ⟨_, ho, rfl⟩, call_meets F.slot_tuple_mul ⟨_, ho, rfl⟩ F.entry_tuple_mul (F.args_tuple_mul_2 _ _) (tuple_nought l its.toArray n dd sl t ne) ⟨ho, ?_⟩⟩)
    exact ⟨.ref s.heap.objs.size, _, I.laid (t' := s.toks) (o := .tup []) (fun b ob q => Heap.get?_push_of_some _ q) (Nat.le_refl _) ⟨Nat.zero_le _, [], .nil, IsTup.new _ _⟩, rfl, q2 (by decide) _ (I.hok.fresh (Nat.le_refl _))⟩
  · exact op_repA pins s σ H _ _ v u Q I rx ry ⟨l, k, xs, rfl, rfl, hT, hne, by omega, hz, q1, fun z => q2 (by omega)⟩
/-- (x,) so many times -/
theorem rep_go {K : PySem.W.Frag} {H : Hp} {t : Addr} {x v : Int} {k : Nat} {Q : VK} (hv : v = (k : Nat)) (ht : H t = some (.tup [.int x])) (hk : k ≤ 100000) (q : ∀ H' p, Same H H' → H' p = some (.tup ((List.replicate k x).map V.int)) → Q (.ref p) H') : rRepB K (.ref t) (.int v) H Q := by
  subst hv
  refine ⟨t, k, _, rfl, rfl, SqT.mk ht, by simp, (show 1 * k ≤ 1000000 by omega), fun z => ?_, fun z p np => ?_⟩
  · subst z
    exact q H t (Same.refl H) ht
  · exact q _ p (same_upd np) (by rw [upd_same, rep_one])
theorem cat_go {K : PySem.W.Frag} {H : Hp} {a b : Addr} {rs ss : List Int} {Q : VK} (ha : H a = some (.tup (rs.map V.int))) (hb : H b = some (.tup (ss.map V.int))) (hl : rs.length + ss.length ≤ 100000)
    (q : ∀ H' p, Same H H' → H' p = some (.tup ((rs ++ ss).map V.int)) → Q (.ref p) H') : rCatA K (.ref a) (.ref b) H Q := by
  have hsl : sizeLine = 16777216 := by decide
  refine ⟨a, b, _, _, rfl, rfl, SqT.mk ha, SqT.mk hb, by rw [List.length_map, List.length_map]; omega, fun z => ?_, fun _ z => ?_, fun _ _ p np => ?_⟩
  · rw [List.map_eq_nil_iff.mp z] at q
    exact q H b (Same.refl H) hb
  · rw [List.map_eq_nil_iff.mp z] at q
    exact q H a (Same.refl H) (by rw [List.append_nil]; exact ha)
  · exact q _ p (same_upd np) (by rw [upd_same, List.map_append])
theorem catK {X : Cx} {K : PySem.W.Frag} (h : X.K = K) : OpR X (binaryOp .Add) (rCatA K) := by
  subst h
  exact op_catA
theorem zipAK {X : Cx} {K : PySem.W.Frag} {e e2 : Expr} {ta : TA} {p pos tpos : Pos} {elts : List Expr} {kk : Nat} (h : X.K = K) (hg : Gl X "zip") (hm : X.mg "zip" = none) (ha : PA X [e, e2] ta)
    (hs : starEach [e, e2] X.env = (false, eval e X.env) :: starEach [e2] X.env := by rfl) (hpl : (backTo pos (starEach [e2] X.env)).any (·.1) = false := by rfl) :
    PI X (.Tuple elts kk tpos) (.Call (.Name "zip" p) [e, e2] [] pos) (RZ.iZipA K ta) := by
  subst h
  exact RZ.pi_zipA hg hm ha hs hpl
/-! where a number stands first -/
theorem flat_ints (xs : List Int) : (xs.map V.int).all flatV = true := by
  rw [List.all_eq_true]
  intro x hx
  obtain ⟨i, _, rfl⟩ := List.mem_map.mp hx
  rfl
theorem in_ints (xs : List Int) (k : Int) : inV (.int k) (xs.map V.int) = decide (k ∈ xs) := by
  unfold inV
  rw [Bool.eq_iff_iff, List.any_eq_true, decide_eq_true_iff]
  constructor
  · rintro ⟨y, hy, e⟩
    obtain ⟨i, hi, rfl⟩ := List.mem_map.mp hy
    have : i = k := by
      have e : (i == k) = true := e
      exact eq_of_beq e
    rw [← this]
    exact hi
  · intro h
    exact ⟨_, List.mem_map.mpr ⟨k, h, rfl⟩, show (k == k) = true from beq_self_eq_true k⟩
theorem first_of {xs : List Int} {k : Int} : k ∈ xs → ∃ j : Nat, xs[j]? = some k ∧ ∀ m, m < j → xs[m]? ≠ some k := by
  induction xs with
  | nil => intro h; cases h
  | cons x r ih =>
    intro h
    by_cases e : x = k
    · exact ⟨0, by rw [e]; rfl, fun m hm => by omega⟩
    · rcases List.mem_cons.mp h with h | h
      · exact absurd h.symm e
      · obtain ⟨j, h1, h2⟩ := ih h
        refine ⟨j + 1, h1, fun m hm => ?_⟩
        cases m with
        | zero => exact fun z => e (Option.some.inj z)
        | succ m => exact h2 m (by omega)
theorem u1 {k : Nat} {A : Around} (r : Room k A) : A.units + 1 < cLine := by
  have := r.un
  omega
theorem lcK {X : Cx} {K : PySem.W.Frag} (h : X.K = K) : MtR X "list.count" (rCntI K) := by
  subst h
  exact mt_lcount
theorem pe_bmK {X : Cx} {K : PySem.W.Frag} {T id : String} {name : Str} {r : V → List V → Hp → VK → Prop} {o e : Expr} {es : List Expr} {to : TE} {t : TA} {apos cpos : Pos} (pa : PlainAttrs T) (slot : Slot T name id) (hty : typeOf (.builtin id) = pure (.type "method_descriptor")) (hm : MtR X id r) (ho : PE X o to) (ha : PA X (e :: es) t) (hk : X.K = K := by rfl)
    (hbase : attributeBase o name X.env (eval o X.env) = eval o X.env := by rfl)
    (hfew : ((backTo cpos (starEach (e :: es) X.env)).all (fun x => !x.1) && (backToKw cpos (keywordEach [] X.env)).all (fun x => x.1.isSome) && decide ((e :: es).length + ([] : List Keyword).length + (if ([] : List Keyword).isEmpty then 0 else 1) < 30)) = true := by rfl)
    (hline : (apos.endLine == cpos.line) = true := by rfl) (hs : starEach (e :: es) X.env = (false, eval e X.env) :: starEach es X.env := by rfl) (hplain : (backTo cpos (starEach es X.env)).any (·.1) = false := by rfl) :
    PE X (.Call (.Attribute o name apos) (e :: es) [] cpos) (tBM K T r to t) := by
  subst hk
  exact pe_bm pa slot hty hm ho ha hbase hfew hline hs hplain
theorem nx_via {t u : TS} {D : Ends} {r : VK} {k c : L2.St → Hp → Prop} {σ : L2.St} {H : Hp} (R : L2.St → Hp → Prop) (h1 : ∀ N : L2.St → Hp → Prop, (∀ σ H, R σ H → N σ H) → t { D with nx := N } σ H) (h2 : ∀ σ H, R σ H → u D σ H) : Ends.nx { nx := tSeq t u D, rt := r, bk := k, ct := c } σ H := h1 _ h2
theorem seq_via {t u : TS} {D : Ends} {σ : L2.St} {H : Hp} (R : L2.St → Hp → Prop) (h1 : ∀ N : L2.St → Hp → Prop, (∀ σ H, R σ H → N σ H) → t { D with nx := N } σ H) (h2 : ∀ σ H, R σ H → u D σ H) : tSeq t u D σ H := h1 _ h2
theorem listK {X : Cx} {K : PySem.W.Frag} {tg e : Expr} {t : TE} (h : X.K = K) (he : PE X e t) : PI X tg e (iList K t) := by
  subst h
  exact pi_list he
def sp_ones (_ : PySem.W.Frag) : Sp := fun vs H Q _ => ∃ (a : Addr) (rs : List Int), vs = [.ref a] ∧ H a = some (.tup (rs.map V.int)) ∧ Q (.int rs.sum) H
theorem ok_ones (T : Defs K mg) (TT : Tabs T base) : FnOk P w K mg base CX0 1 T.f_ones T.fd_ones ["row"] (sp_ones K) := by
  refine T.F_ones.ok sc_ones (fun vs H Q E h => ?_) (fun cdv A outer s H vs Q E hr h => ?_)
  · obtain ⟨a, rs, rfl, ha, q⟩ := h
    rfl
  · obtain ⟨a, rs, rfl, ha, q⟩ := h
    refine ⟨_, PSs.nox (pss_one (ps_ret (pe_callB (cr_sumT rfl) (by rfl) T.m_sum bt_sum (pa_cons (pv 0) pa_nil)))), ?_⟩
    exact ⟨.ref a, rfl, a, rs, rfl, SqT.mk ha, q⟩
theorem s_len {n : Nat} (h : n ≤ 100000) : S 4000 (n : Int) := S.mono (n := 20) (show ((n : Int)).natAbs < 2 ^ 20 by omega) (by decide)
def sp_share_of (_ : PySem.W.Frag) : Sp := fun vs H Q _ => ∃ (a : Addr) (rs : List Int), vs = [.ref a] ∧ H a = some (.tup (rs.map V.int)) ∧ 1 ≤ rs.length ∧ rs.length ≤ 100000 ∧
  ∀ H' p, Same H H' → H p = none → H' p = some (.tup [.int (frT rs.sum rs.length), .int (frB rs.sum rs.length)]) → Q (.ref p) H'
theorem ok_share_of (T : Defs K mg) (TT : Tabs T base) : FnOk P w K mg base CX0 3 T.f_share_of T.fd_share_of ["row"] (sp_share_of K) := by
  have G_fraction : FnOk P w K mg base CX0 2 T.f_fraction T.fd_fraction ["top", "bottom"] (sp_fraction K) := ok_fraction T TT
  have G_ones : FnOk P w K mg base CX0 1 T.f_ones T.fd_ones ["row"] (sp_ones K) := ok_ones T TT
  refine T.F_share_of.ok sc_share_of (fun vs H Q E h => ?_) (fun cdv A outer s H vs Q E hr h => ?_)
  · obtain ⟨a, rs, rfl, ha, h1, h2, q⟩ := h
    rfl
  · obtain ⟨a, rs, rfl, ha, h1, h2, q⟩ := h
    refine ⟨_, PSs.nox (pss_one (ps_ret (pe_call G_fraction (hr.mono (by decide)) (by rfl) T.g_fraction T.F_fraction.kp T.b_fraction .nil pass0 (pa_cons (pe_call G_ones (hr.mono (by decide)) (by rfl) T.g_ones T.F_ones.kp T.b_ones .nil pass0 (pa_cons (pv 0) pa_nil)) (pa_cons (pe_callB call_len_seq (by rfl) T.m_len bt_len (pa_cons (pv 0) pa_nil)) pa_nil))))), ?_⟩
    refine ⟨.ref a, rfl, a, rs, rfl, ha, .ref a, rfl, a, _, rfl, .inr (SqT.mk ha), rs.sum, (rs.length : Nat), by rw [List.length_map]; rfl, by omega, s_len h2, q⟩
/-! generator expressions whose element is anything that PE serves: the generator's own frame as a context -/
abbrev Cx.gblk (X : Cx) (s : Shared) (H : Hp) (scope : Scope) (C : Addr) (code : Value) (fp : List Addr) : Cx :=
  { X with A := X.A.in1.in1.in1.in1.deeper (genEnv scope (cloFrom X.env.cells scope.names []) C code builtinsNs X.env), s_0 := s, H_0 := H, env := genEnv scope (cloFrom X.env.cells scope.names []) C code builtinsNs X.env, outer := X.stack, stack := (genEnv scope (cloFrom X.env.cells scope.names []) C code builtinsNs X.env) :: X.stack, ex := fp, fn := fun x => scope.names.lookup x == some .cell, pn := [], xe := fun _ _ => False }
theorem over_gen {A : Around} {elt : Expr} {gs : List Comprehension} {sc : Scope} {pos : Pos} {it acc : Value} {env : Env} : A.over (.compLoop (.GeneratorExp elt gs sc pos) 0 it acc env) [] = A.deeper env := by
  first
    | rfl
    | (obtain ⟨hd, d, fr, gd, u⟩ := A; simp [Around.over, Around.deeper, marksOver, frameCount, unitsOf, envsOf, guardsOf, pushEnvs, pushGuards, Code.envs, Code.env?, Code.isFrame, Code.guards, Code.isGuard, Code.weight, Code.frames, Code.isCreation, Code.isCaller, Code.cUnits])
theorem over_gen0 {A : Around} {elt : Expr} {gs : List Comprehension} {sc : Scope} {pos : Pos} {it acc : Value} {env : Env} : A.over (.compStart (.GeneratorExp elt gs sc pos) 0 it acc env) [] = A.deeper env := by
  first
    | rfl
    | (obtain ⟨hd, d, fr, gd, u⟩ := A; simp [Around.over, Around.deeper, marksOver, frameCount, unitsOf, envsOf, guardsOf, pushEnvs, pushGuards, Code.envs, Code.env?, Code.isFrame, Code.guards, Code.isGuard, Code.weight, Code.frames, Code.isCreation, Code.isCaller, Code.cUnits])
theorem Room.gen {k : Nat} {A : Around} (r : Room (k + 1) A) (env : Env) : Room k (A.in1.in1.in1.in1.deeper env) :=
  ⟨r.hd, by have := r.dp; show A.depth + 1 + 3 * k + 5 < _; omega, by have := r.un; show A.units + 1 + 1 + 1 + 1 + 3 + 16 * k + 200 < _; omega⟩
/-- the names of a generator expression: as a block's, none of them a cell of its own -/
structure GenOk (N : List Str) (sc scope : Scope) (own : List (Str × Nat)) : Prop where
  blk : BlkOk N sc scope own
  co : scope.isCoroutine = false
  cel : ∀ y ∈ scope.names, y.2 ≠ .cell
  dot : scope.names.lookup (".0" : Str) = some NameKind.local
theorem genOk_by {N : List Str} {sc scope : Scope} {own : List (Str × Nat)} (h : blkC N sc scope own = true) (co : scope.isCoroutine = false) (cel : (scope.names.all fun y => y.2 != .cell) = true) (dot : scope.names.lookup (".0" : Str) = some NameKind.local) : GenOk N sc scope own := by
  refine ⟨blkOk_by h, co, fun y hy e => ?_, dot⟩
  have := List.all_eq_true.mp cel y hy
  rw [e] at this
  cases this
section
variable {X : Cx} {pins : List (Addr × Obj)} {σ : L2.St} {H : Hp} {s : Shared}
theorem gen_start {scope : Scope} {own : List (Str × Nat)} {fp : List Addr} {code : Value} {h' : Heap} {go : Obj} {G : Array GenState} {tk : Nat} {it : Value} (I : Inv X pins σ H s) (ok : GenOk X.N X.env.scope scope own) (hN : X.N.Nodup) (hfp : ∀ b ∈ fp, FpOk X pins H b ∧ b < s.heap.objs.size)
    (hns : h'.Ns s.heap.objs.size (fun y => if y = ".0" then some it else none)) (sb : Heap.SameBut s.heap.objs.size (s.heap.push { cls := .type "frame", data := .dict #[] }) h') (hG : AllBare G) (hgo : (h'.push go).get? h'.objs.size = some go) (hgd : ∀ v, go.data ≠ .cell v) :
    Inv (Cx.gblk X s H scope s.heap.objs.size code fp) [(h'.objs.size, go)] (wipe σ (own.map (·.2))) H { s with gens := G, toks := tk, heap := h'.push go } := by
  have hfree : ∀ y ∈ scope.names, y.2 = .free → ∃ c, X.env.cells.lookup y.1 = some c := fun y hy e => by
    rcases ok.blk.free y hy e with k | k
    · exact I.ok.has _ (.inl k)
    · exact I.ok.has _ (.inr k)
  have szh : h'.objs.size = s.heap.objs.size + 1 := by rw [sb.1, Heap.size_push]
  have kp : ∀ b o, s.heap.get? b = some o → (h'.push go).get? b = some o := fun b o e => Heap.get?_push_of_some _ (sb.extBut b o (Nat.ne_of_lt (Heap.lt_size e)) (Heap.get?_push_of_some _ e))
  have cm : ∀ {y c}, (cloFrom X.env.cells scope.names []).lookup y = some c → X.env.cells.lookup y = some c ∧ c < s.heap.objs.size ∧ (y, NameKind.free) ∈ scope.names := fun {y c} e => by
    rcases cloFrom_mem (PySem.mem_of_lookup e) with hm | ⟨h1, rfl⟩
    · cases hm
    · obtain ⟨c, hc⟩ := hfree _ h1 rfl
      rw [hc]
      obtain ⟨w, z⟩ := I.cell _ _ hc
      exact ⟨rfl, z.lt, h1⟩
  have look : ∀ {y}, scope.names.lookup y = some .free → ∃ c, (cloFrom X.env.cells scope.names []).lookup y = some c ∧ X.env.cells.lookup y = some c := fun {y} hl => by
    have hy : (y, NameKind.free) ∈ scope.names := PySem.mem_of_lookup hl
    obtain ⟨c', e'⟩ := mem_lookup (cloFrom_has (cells := X.env.cells) (acc := []) hy)
    exact ⟨c', e', (cm e').1⟩
  have okB : (Cx.gblk X s H scope s.heap.objs.size code fp).Ok := by
    refine ⟨I.ok.mod, ok.blk.kind, I.ok.glob, rfl, Nat.le_refl _, fun y z c e1 e2 => I.ok.inj y z c (cm e1).1 (cm e2).1, fun y hy => ?_, fun y c z e => ?_, I.ok.hd, ?_, .inr ⟨rfl, rfl⟩, fun b hb => ⟨?_, fun y c e z => ?_⟩, I.bs, Nat.le_trans I.ok.bsz I.sz, fun b o e hb => ?_, fun b hb z => ?_, I.stack, I.stkFree⟩
    · rcases hy with hy | hy
      · have hy : scope.names.lookup y = some .cell := hy
        exact absurd rfl (ok.cel _ (PySem.mem_of_lookup hy))
      · obtain ⟨c, h1, _⟩ := look (y := y) hy
        exact ⟨c, h1⟩
    · have z : (scope.names.lookup y == some NameKind.cell) = true := z
      have z : scope.names.lookup y = some .cell := by simpa using z
      exact absurd rfl (ok.cel _ (PySem.mem_of_lookup z))
    · show (X.A.frames.map (_ :: ·)) = some (_ :: X.stack)
      rw [I.ok.frames]
      rfl
    · exact Nat.ne_of_lt (hfp b hb).2
    · exact (hfp b hb).1.2.2.2.2.1 y c (cm e).1 z
    · rcases (hfp b hb).1.2.2.2.1 with z | z
      · exact I.ok.noex b o e z
      · exact absurd (Nat.lt_of_lt_of_le (Heap.lt_size e) (Nat.le_trans I.ok.bsz z)) (Nat.lt_irrefl _)
    · rcases List.mem_cons.mp (I.stkSub b z) with z | z
      · exact (hfp b hb).1.2.1 z
      · exact (hfp b hb).1.2.2.1 z
  refine ⟨okB, rfl, hG, Un.kept kp, ⟨_, hns.push go, fun i y av e1 e2 e3 => ?_⟩, fun y c e => ?_, I.hok.fresh (Nat.le_refl _), fun y c e => I.freeC y c (cm e).1, fun p hp => ?_, I.hok.kept kp, by rw [wipe_length]; exact I.len⟩
  · obtain ⟨e2, hne⟩ := wipe_some e2
    have e3 : Vis scope y := e3
    have hfr : scope.names.lookup y = some .free := by
      have no : ∀ k, scope.names.lookup y = some k → (k = .local ∨ k = .cell) → False := fun k e hh => by
        rcases ok.blk.own _ (PySem.mem_of_lookup e) hh with e' | e'
        · obtain ⟨p, hp, hpy⟩ := List.mem_map.mp e'
          have e3 := ok.blk.ix p hp
          have : p.1 = y := hpy
          rw [this] at e3
          exact hne (List.mem_map.mpr ⟨p, hp, nodup_ix hN e3 e1⟩)
        · exact e' (List.mem_of_getElem? e1)
      rcases e3 with e3 | e3 | e3
      · exact (no _ e3 (.inl rfl)).elim
      · exact (no _ e3 (.inr rfl)).elim
      · exact e3
    obtain ⟨m, hn, hl⟩ := I.loc
    have hvis : Vis X.env.scope y := (ok.blk.free _ (PySem.mem_of_lookup hfr) rfl).elim (fun k => .inr (.inl k)) (fun k => .inr (.inr k))
    obtain ⟨w, r, q⟩ := hl i y av e1 e2 hvis
    refine ⟨w, r, .inr ⟨.inr hfr, ?_⟩⟩
    obtain ⟨c, h1, h2⟩ := look hfr
    rcases q with ⟨k, _⟩ | ⟨_, c', e', z⟩
    · have k : X.env.scope.names.lookup y = some .local := k
      rcases ok.blk.free _ (PySem.mem_of_lookup hfr) rfl with k' | k' <;> rw [show X.env.scope.names.lookup y = _ from k'] at k <;> cases k
    · rw [h2] at e'; cases e'
      exact ⟨c, h1, z.keeps kp⟩
  · obtain ⟨w, z⟩ := I.cell y c (cm e).1
    exact ⟨w, z.keeps kp⟩
  · have hp : p = (h'.objs.size, go) := by simpa using hp
    subst hp
    have ge : s.heap.objs.size ≤ h'.objs.size := by omega
    refine ⟨hgo, I.hok.fresh ge, by show h'.objs.size ≠ s.heap.objs.size; omega, fun z => ?_, hgd⟩
    rcases List.mem_cons.mp (I.stkSub _ z) with z | z
    · have z : h'.objs.size = X.env.locals := z
      exact Nat.ne_of_lt (Nat.lt_of_lt_of_le I.lt ge) z.symm
    · exact I.nofs ge z
end
section
/-- what the consumer holds beside, what it is told, where it goes on, the end -/
structure GPar where
  ext : List V → List (Addr × Obj) → Prop
  yld : List V → V → Hp → Prop
  go : List V → V → Hp → Prop
  fin : List V → Hp → Prop
def YG (Y : Cx) (ga : Addr) (go : Obj) (p : GPar) : Protocol := fun _ _ v s kap => ∃ (ys : List V) (y : V) (H' : Hp) (ps pf : List (Addr × Obj)) (σ' : L2.St), RelV y v ∧ p.ext ys ps ∧ (∀ q ∈ pf, q.1 < Y.env.locals) ∧ Inv Y (((ga, go) :: ps) ++ pf) σ' H' s ∧ p.yld ys y H' ∧
  ∀ s' ps', p.ext (ys ++ [y]) ps' → Inv Y (((ga, go) :: ps') ++ pf) σ' H' s' → p.go ys y H' → kap (.send .none) s'
def RG (Y : Cx) (ga : Addr) (go : Obj) (p : GPar) : Shared → Prop := fun s => ∃ (ys : List V) (H' : Hp) (ps : List (Addr × Obj)) (σ' : L2.St), p.ext ys ps ∧ Inv Y ((ga, go) :: ps) σ' H' s ∧ p.fin ys H'
theorem gen_loop {Y : Cx} {A : Around} {ga : Addr} {go : Obj} {p : GPar} {elt tg iter : Expr} {ifs : List Expr} {scope : Scope} {pos : Pos} {it : Addr} {fp : List Addr} {tn : Nat → Heap → Prop} {J : It} {g : TG} {tt : TT} {te : TE} {σ : L2.St} {vs : List Nat} {W : List V → Nat → Nat → Hp → Prop}
    (hcal : Y.calm = true) (hpn : Y.pn = []) (T : Turn Y.prog Y.w Y.K tg J fp it tn) (hpg : PG Y tg g) (hpt : PTs Y ifs tt) (hpe : PE Y elt te) (hxe : Y.xe = fun _ _ => False)
    (hA : A.over (.compLoop (.GeneratorExp elt [⟨tg, iter, ifs, 0⟩] scope pos) 0 (.ref it) .none Y.env) [] = Y.A) (hex : ∀ b ∈ fp, b ∈ Y.ex) (hga : ∀ b ∈ fp, ga ≠ b) (hext : ∀ ys ps, p.ext ys ps → ∀ q ∈ ps, ∀ b ∈ fp, q.1 ≠ b) (hco : Y.env.scope.isCoroutine = false) (hfl : ∀ b ∈ fp, b < Y.env.locals)
    (step : ∀ ys i m H, W ys i m H → (J.stop i H ∧ p.fin ys H) ∨ (J.go i H ∧ ∃ Nx : List V → Hp → Prop, (∀ ys' H', Nx ys' H' → ∃ m', m' < m ∧ W ys' (i + 1) m' H') ∧ ∀ x H', J.yld i H x H' → g x (wipe σ vs) H' fun σ2 H2 => wipe σ2 vs = wipe σ vs ∧ tt σ2 H2 fun b H3 =>
      if b = true then te σ2 H3 fun y H4 => p.yld ys y H4 ∧ (p.go ys y H4 → Nx (ys ++ [y]) H4) else Nx ys H3)) :
    ∀ (m n i : Nat) (ys : List V) (H : Hp) (ps : List (Addr × Obj)) (s₀ s : Shared), m < n → W ys i m H → p.ext ys ps → Inv Y ((ga, go) :: ps) (wipe σ vs) H s → tn i s.heap → (∀ b ∈ fp, H b = none) →
      Seg (model Y.prog Y.w) A (fun n s₀ r s₁ => r = .ok .next ∧ (fun _ _ s => RG Y ga go p s) n s₀ s₁) (YG Y ga go p) n s₀ (.compLoop (.GeneratorExp elt [⟨tg, iter, ifs, 0⟩] scope pos) 0 (.ref it) .none Y.env)
        ((model Y.prog Y.w).den (.compLoop (.GeneratorExp elt [⟨tg, iter, ifs, 0⟩] scope pos) 0 (.ref it) .none Y.env)) [] s := by
  intro m
  induction m using Nat.strongRecOn with
  | ind m ih =>
  intro n i ys H ps s₀ s hmn w0 ex0 I0 st0 n0
  have stat : ∀ {σ' : L2.St} {H' : Hp} {s' : Shared} {ys' ps'}, p.ext ys' ps' → Inv Y ((ga, go) :: ps') σ' H' s' → (∀ b ∈ fp, H' b = none) → ∀ b ∈ fp, FpOk Y ((ga, go) :: ps') H' b := fun {σ' H' s' ys' ps'} e' I' hn b hb =>
    ⟨hn b hb, (I'.ok.exf b (hex b hb)).1, I'.ok.exfs b (hex b hb), .inl (hex b hb), fun x c e => (I'.ok.exf b (hex b hb)).2 x c e, fun q hq => by
      rw [hpn, List.nil_append] at hq
      rcases List.mem_cons.mp hq with z | z
      · rw [z]; exact hga b hb
      · exact hext _ _ e' q z b hb⟩
  show Seg _ A _ _ _ s₀ _ ((compTurn (.GeneratorExp elt [⟨tg, iter, ifs, 0⟩] scope pos) 0 (.ref it) .none Y.env).onRaise (leaving Y.env)) [] s
  rw [compTurn_gen, Sem.onRaise_eq_wrap]
  refine seg_bind_wrap (wpAny_standAt ?_)
  rcases step ys i m H w0 with ⟨stop, qf⟩ | ⟨gon, Nx, hNx, turn⟩
  · refine seg_bind_wrap ?_
    rw [hA]
    refine thnF (T.done Y rfl rfl rfl hcal i _ s _ H (fun _ _ => False) I0 (stat ex0 I0 n0) st0 stop) fun r s6 ⟨hr, I6⟩ => ?_
    subst hr
    exact seg_end (.ok .next) ⟨rfl, ys, H, ps, _, ex0, I6, qf⟩
  · refine seg_bind_wrap ?_
    rw [hA]
    refine thnF (T.item Y rfl rfl rfl hcal i _ s _ H (fun _ _ => False) I0 (stat ex0 I0 n0) st0 gon) fun r s6 ⟨u, hr, h6⟩ => ?_
    subst hr
    refine seg_bind_wrap ?_
    rw [hA]
    refine thnF h6 fun _ s7 ⟨x, H7, I7, r7, y7, st7, n7⟩ => ?_
    have I7' := I7.pinned (stat ex0 I7 n7) (T.obj _ _ st7)
    refine seg_bind_wrap ?_
    rw [hA]
    have fx : ∀ {α : Type} {t : Sem α} {Q : α → Shared → Prop} {s : Shared}, wpAny (model Y.prog Y.w) Y.A t Q Y.xe s → wpAny (model Y.prog Y.w) Y.A t Q (fun _ _ => False) s := fun h => by rw [hxe] at h; exact h
    refine thnF (fx (hpg.run _ s7 _ H7 x u _ I7' r7 (turn x H7 y7))) fun _ s8 ⟨σ8, H8, I8, hw8, q8⟩ => ?_
    refine seg_bind_wrap ?_
    rw [hA]
    refine thnF (fx (hpt.run _ s8 σ8 H8 _ I8 q8)) fun b s9 ⟨H9, I9, q9⟩ => ?_
    have fin : ∀ {s' : Shared} {H' : Hp} {ys' ps' m'}, m' < m → ∀ {n' : Nat} {s₀' : Shared}, m' < n' → p.ext ys' ps' → Inv Y (((ga, go) :: ps') ++ pinsAt fp s7.heap) σ8 H' s' → W ys' (i + 1) m' H' → Seg (model Y.prog Y.w) A (fun n s₀ r s₁ => r = .ok .next ∧ (fun _ _ s => RG Y ga go p s) n s₀ s₁) (YG Y ga go p) n' s₀' (.compLoop (.GeneratorExp elt [⟨tg, iter, ifs, 0⟩] scope pos) 0 (.ref it) .none Y.env)
        ((model Y.prog Y.w).den (.compLoop (.GeneratorExp elt [⟨tg, iter, ifs, 0⟩] scope pos) 0 (.ref it) .none Y.env)) [] s' := fun {s' H' ys' ps' m'} hm {n' s₀'} hn e' I' w' => by
      have pin' : ∀ b ∈ fp, ∀ o, s7.heap.get? b = some o → s'.heap.get? b = some o ∧ H' b = none := fun b hb o e =>
        let z := I'.pin (b, o) (List.mem_append_right _ (List.mem_append_right _ (mem_pinsAt hb e)))
        ⟨z.1, z.2.1⟩
      have hl : (wipe σ vs).length = σ8.length := by rw [← hw8, wipe_length]
      have I2 : Inv Y ((ga, go) :: ps') σ8 H' s' := I'.pins_of fun q hq => I'.pin q (List.mem_append_right _ (List.mem_append_left _ hq))
      refine ih m' hm n' (i + 1) ys' H' ps' s₀' s' hn w' e' (I2.weak hl fun j v e => ?_) (T.keep _ _ _ st7 fun b hb o e => (pin' b hb o e).1) fun b hb => ?_
      · rw [← hw8] at e
        exact (wipe_some e).1
      · obtain ⟨o, e, _⟩ := T.obj _ _ st7 b hb
        exact (pin' b hb o e).2
    cases b with
    | false =>
      simp only [Bool.false_eq_true, if_false] at q9 ⊢
      obtain ⟨m', hm, w'⟩ := hNx _ _ q9
      exact seg_again rfl (fin hm (by omega) ex0 I9 w')
    | true =>
      simp only [if_true] at q9 ⊢
      have hy : ∀ v, yieldOut Y.env v = yieldValue v := fun v => by simp only [yieldOut, hco, Bool.false_eq_true, if_false]
      simp only [hy]
      rw [Sem.bind_eq_wrap', Sem.bind_eq_wrap', Sem.wrap_wrap, Sem.wrap_wrap]
      refine seg_wrap ?_
      rw [hA]
      refine thnF (fx (hpe.run _ s9 σ8 H9 _ I9 q9)) fun z s10 ⟨yv, H10, I10, r10, yl, cont⟩ => ?_
      obtain ⟨n, rfl⟩ : ∃ k, n = k + 1 := ⟨n - 1, by omega⟩
      refine seg_at (seg_yield rfl rfl rfl ⟨ys, yv, H10, ps, pinsAt fp s7.heap, σ8, r10, ex0, fun q hq => hfl _ (of_pinsAt hq).1, I10, yl, fun s' ps' e' I' go' => ?_⟩)
      obtain ⟨m', hm, w'⟩ := hNx _ _ (cont go')
      exact seg_again rfl (fin hm (by omega) e' I' w')
theorem gen_begin {Y : Cx} {A : Around} {elt tg iter : Expr} {ifs : List Expr} {scope : Scope} {pos : Pos} {it : Addr} {R : GenEnd} {Yp : Protocol} {n : Nat} {s₀ s : Shared} {cenv : Env}
    (self : ∀ (B : Around) (Q : Value → Shared → Prop) (E : Value → Shared → Prop), Q (.ref it) s → wpAny (model Y.prog Y.w) B (pyIter (.ref it)) Q E s)
    (loop : Seg (model Y.prog Y.w) A R Yp n s₀ (.compLoop (.GeneratorExp elt [⟨tg, iter, ifs, 0⟩] scope pos) 0 (.ref it) .none cenv) ((model Y.prog Y.w).den (.compLoop (.GeneratorExp elt [⟨tg, iter, ifs, 0⟩] scope pos) 0 (.ref it) .none cenv)) [] s) :
    Seg (model Y.prog Y.w) A R Yp n s₀ (.compStart (.GeneratorExp elt [⟨tg, iter, ifs, 0⟩] scope pos) 0 (.ref it) .none cenv) ((model Y.prog Y.w).den (.compStart (.GeneratorExp elt [⟨tg, iter, ifs, 0⟩] scope pos) 0 (.ref it) .none cenv)) [] s := by
  show Seg _ A _ _ _ s₀ _ ((compStart (.GeneratorExp elt [⟨tg, iter, ifs, 0⟩] scope pos) 0 (.ref it) .none cenv).onRaise (leaving cenv)) [] s
  unfold compStart
  rw [Sem.onRaise_eq_wrap]
  show Seg _ A _ _ _ s₀ _ ((ask >>= _).wrap _ _ _ _) [] s
  refine seg_bind_wrap (wpAny_askSetting ?_)
  split
  · exact seg_again rfl loop
  · first
      | exact seg_bind_wrap (wpAny_rule (seg_bind_wrap (wpAny_standAt (seg_bind_wrap (self _ _ _ (seg_again rfl loop))))))
      | (refine seg_bind_wrap (wpAny_rule ?_); show Seg _ A _ _ _ s₀ _ ((standAt iter.pos >>= _).wrap _ _ _ _) [] s; exact seg_bind_wrap (wpAny_standAt (seg_bind_wrap (self _ _ _ (seg_again rfl loop)))))
end
section
def GAt (X Y : Cx) (ga : Addr) (gi : Nat) (go : Obj) (p : GPar) (n : Nat) (s : Shared) : Prop := s.heap.IsGen ga gi ∧ s.heap.NoLimit ∧ ∃ gs, s.gens[gi]? = some gs ∧
  gs.Goes (model X.prog X.w) X.A.in1.in1.in1.in1 (fun n s₀ r s₁ => r = .ok .next ∧ (fun _ _ s => RG Y ga go p s) n s₀ s₁) (YG Y ga go p) n (.send .none) (s.setGen gi .running)
theorem inv_gens {Y : Cx} {pins : List (Addr × Obj)} {σ : L2.St} {H : Hp} {s : Shared} {G : Array GenState} (I : Inv Y pins σ H s) (hG : AllBare G) : Inv Y pins σ H { s with gens := G } :=
  I.call (g' := G) (t' := s.toks) (d' := s.drawn) (ch := []) Un.refl I.hok hG (fun b z => by simp at z)
theorem inv_setGen {Y : Cx} {pins : List (Addr × Obj)} {σ : L2.St} {H : Hp} {s : Shared} {gi : Nat} {x : GenState} (I : Inv Y pins σ H s) (hx : x.bare = true) : Inv Y pins σ H (s.setGen gi x) :=
  inv_gens I (allBare_setGen I.bare hx)
theorem gat_next {X Y : Cx} {ga : Addr} {gi : Nat} {go : Obj} {p : GPar} {n : Nat} {s : Shared} {E : Value → Shared → Prop} (hh : X.A.handled = none) (hroom : X.A.depth < recursionLimit) (hpr : Y.prog = X.prog) (hw : Y.w = X.w)
    (hgo : ∀ h : Heap, h.get? ga = some go → h.IsGen ga gi) (h : GAt X Y ga gi go p n s) :
    wpAny (model X.prog X.w) X.A.in1.in1.in1 (pyNext (.ref ga)) (fun r s' =>
      (∃ v, r = some v ∧ ∃ (ys : List V) (y : V) (H' : Hp) (ps pf : List (Addr × Obj)) (σ' : L2.St), RelV y v ∧ p.ext ys ps ∧ (∀ q ∈ pf, q.1 < Y.env.locals) ∧ Inv Y (((ga, go) :: ps) ++ pf) σ' H' s' ∧ p.yld ys y H' ∧
        ∀ s'' ps', p.ext (ys ++ [y]) ps' → Inv Y (((ga, go) :: ps') ++ pf) σ' H' s'' → s''.gens = s'.gens → p.go ys y H' → ∃ m, n = m + 1 ∧ GAt X Y ga gi go p m s'') ∨
      (r = none ∧ RG Y ga go p s')) E s := by
  obtain ⟨hg, hl, gs, hgs, hgoes⟩ := h
  have hgl : gi < s.gens.size := (Array.getElem?_eq_some_iff.mp hgs).1
  refine wpAny_mono (GenW.wpAny_gsz (n := gi + 1) hgl (wpAny_pyNext_genexpQ (A := X.A.in1.in1.in1) (P := fun _ _ s => RG Y ga go p s) (Q := fun r s' => gi + 1 ≤ s'.gens.size → _) hh hl hroom hg hgs hgoes (fun v s₁ gs' hb hv => ?_) (fun s₁ hp h' hk => ?_))) (fun r s' z => z) (fun _ _ z => z)
  · intro hsz
    obtain ⟨ys, y, H', ps, pf, σ', rv, ex, pl, I, yl, kap⟩ := hv
    refine .inl ⟨v, rfl, ys, y, H', ps, pf, σ', rv, ex, pl, inv_setGen I hb, yl, fun s'' ps' ex' I' eg go' => ?_⟩
    have hsz1 : gi < s₁.gens.size := by
      have q : (s₁.setGen gi gs').gens.size = s₁.gens.size := GenW.setGen_size _ _ _
      have hsz' : gi + 1 ≤ (s₁.setGen gi gs').gens.size := hsz
      omega
    have k := kap (s''.setGen gi .running) ps' ex' (inv_setGen I' rfl) go'
    cases n with
    | zero => exact k.elim
    | succ m =>
      refine ⟨m, rfl, hgo _ (I'.pin (ga, go) (List.mem_append_right _ (List.mem_append_left _ List.mem_cons_self))).1, I'.nolimit, gs', ?_, k⟩
      rw [eg]
      exact setGen_at hsz1
  · intro _
    obtain ⟨ys, H', ps, σ', ex, I, fi⟩ := hp
    refine .inr ⟨rfl, ys, H', ps, σ', ex, ?_, fi⟩
    exact I.call' (s' := { s₁.setGen gi .finished with heap := h' }) (ch := []) rfl (Un.kept hk) (I.hok.kept hk) (allBare_setGen I.bare rfl) (fun b z => by simp at z)
theorem entry_all2 : entryFor table "all" = some Builtin.«all» := PySem.F.entry_all
/-- all(g): the consumer's loop -/
theorem all_loop {X Y : Cx} {ga : Addr} {gi : Nat} {go : Obj} {p : GPar} {R : Result → Shared → Prop} (hh : X.A.handled = none) (hroom : X.A.depth < recursionLimit) (hpr : Y.prog = X.prog) (hw : Y.w = X.w) (hgo : ∀ h : Heap, h.get? ga = some go → h.IsGen ga gi)
    (hext : ∀ ys, p.ext ys []) (hext2 : ∀ ys ps, p.ext ys ps → ps = []) (hy : ∀ ys y H, p.yld ys y H → ∃ b, y = .bl b ∧ (b = true → p.go ys y H))
    (hno : ∀ ys H' pf σ' s', p.yld ys (.bl false) H' → Inv Y ((ga, go) :: pf) σ' H' s' → R (.ok (.ret (.bool false))) s') (hyes : ∀ ys H' σ' s', p.fin ys H' → Inv Y [(ga, go)] σ' H' s' → R (.ok (.ret (.bool true))) s') :
    ∀ (n : Nat) (s : Shared), GAt X Y ga gi go p n s → codeAny (model X.prog X.w) X.A (.builtin "all.loop" ⟨[.ref ga], []⟩) R s := by
  intro n
  induction n with
  | zero =>
    intro s h
    refine codeAny_builtin PySem.F.entry_all_loop ?_
    rw [Around.under_plainId PySem.F.plain_all_loop _]
    show wpAny _ X.A.in1 (pyNext (.ref ga) >>= _) _ _ s
    refine wpAny_bind (wpAny_of_in1 (wpAny_of_in1 (wpAny_mono (gat_next hh hroom hpr hw hgo h) (fun r s' z => ?_) fun _ _ e => e)))
    rcases z with ⟨v, rfl, ys, y, H', ps, pf, σ', rv, ex, _, I, yl, k⟩ | ⟨rfl, ys, H', ps, σ', ex, I, fi⟩
    · obtain ⟨b, rfl, gob⟩ := hy _ _ _ yl
      obtain rfl : v = Value.bool b := rv
      obtain rfl := hext2 _ _ ex
      refine wpAny_bind (wpAny_holding (wpAny_truthy_bool ?_))
      refine wpAny_bind (wpAny_letGo ?_)
      cases b with
      | true =>
        obtain ⟨m, hm, _⟩ := k s' [] (hext _) I rfl (gob rfl)
        exact absurd hm (by omega)
      | false =>
        simp only [Bool.false_eq_true, if_false]
        exact wpAny_bind (wpAny_rule (wpAny_pure (hno _ _ _ _ _ yl I)))
    · obtain rfl := hext2 _ _ ex
      exact wpAny_bind (wpAny_rule (wpAny_pure (hyes _ _ _ _ fi I)))
  | succ n ih =>
    intro s h
    refine codeAny_builtin PySem.F.entry_all_loop ?_
    rw [Around.under_plainId PySem.F.plain_all_loop _]
    show wpAny _ X.A.in1 (pyNext (.ref ga) >>= _) _ _ s
    refine wpAny_bind (wpAny_of_in1 (wpAny_of_in1 (wpAny_mono (gat_next hh hroom hpr hw hgo h) (fun r s' z => ?_) fun _ _ e => e)))
    rcases z with ⟨v, rfl, ys, y, H', ps, pf, σ', rv, ex, _, I, yl, k⟩ | ⟨rfl, ys, H', ps, σ', ex, I, fi⟩
    · obtain ⟨b, rfl, gob⟩ := hy _ _ _ yl
      obtain rfl : v = Value.bool b := rv
      obtain rfl := hext2 _ _ ex
      refine wpAny_bind (wpAny_holding (wpAny_truthy_bool ?_))
      refine wpAny_bind (wpAny_letGo ?_)
      cases b with
      | true =>
        obtain ⟨m, hm, g2⟩ := k s' [] (hext _) I rfl (gob rfl)
        obtain rfl : m = n := by omega
        simp only [if_true]
        exact wpAny_pure ⟨plainId_quiet PySem.F.plain_all_loop _, ih _ g2⟩
      | false =>
        simp only [Bool.false_eq_true, if_false]
        exact wpAny_bind (wpAny_rule (wpAny_pure (hno _ _ _ _ _ yl I)))
    · obtain rfl := hext2 _ _ ex
      exact wpAny_bind (wpAny_rule (wpAny_pure (hyes _ _ _ _ fi I)))
end
section
variable {X : Cx} {pins : List (Addr × Obj)} {σ : L2.St} {H : Hp} {s : Shared}
theorem gen_mk {c P : Addr} {elt tg iter : Expr} {ifs : List Expr} {scope : Scope} {own : List (Str × Nat)} {gpos : Pos} {wi : TI} {g : TG} {tt : TT} {te : TE} {k : Nat} {R : It → Hp → Prop} {Q' : Value → Shared → Prop}
    (hr : Room (k + 1) X.A) (hc : X.calm = true) (hN : X.N.Nodup) (TB : GxR.TabB X.base X.mg c P) (hcode : X.env.code = .ref c) (ok : GenOk X.N X.env.scope scope own) (hi : PI X tg iter wi)
    (hg : ∀ (s : Shared) (H : Hp) (C : Addr) (code : Value) (fp : List Addr), Room k (Cx.gblk X s H scope C code fp).A → PG (Cx.gblk X s H scope C code fp) tg g)
    (ht : ∀ (s : Shared) (H : Hp) (C : Addr) (code : Value) (fp : List Addr), Room k (Cx.gblk X s H scope C code fp).A → PTs (Cx.gblk X s H scope C code fp) ifs tt)
    (he : ∀ (s : Shared) (H : Hp) (C : Addr) (code : Value) (fp : List Addr), Room k (Cx.gblk X s H scope C code fp).A → PE (Cx.gblk X s H scope C code fp) elt te)
    (hs : ∀ x, genFold iter X.env x = pure x) (I : Inv X pins σ H s) (h : wi σ H fun J H1 => GxR.TabG H1 P ∧ R J H1)
    (fin : ∀ (J : It) (H1 H4 : Hp) (Y : Cx) (s5 : Shared) (pf : List (Addr × Obj)) (ga : Addr) (gi : Nat) (go : Obj), R J H1 → GxR.Tabbed P H1 H4 → Y.prog = X.prog → Y.w = X.w → (∀ h : Heap, h.get? ga = some go → h.IsGen ga gi) → s5.heap.objs.size = ga + 1 → Y.s_0.heap.objs.size ≤ Y.env.locals → Y.pn = [] →
      Inv Y ([(ga, go)] ++ pf) (wipe σ (own.map (·.2))) H4 s5 → (∀ {pins' σ' H' s'}, Inv Y pins' σ' H' s' → Inv X pins σ H' s') →
      (∀ (p : GPar) (W : List V → Nat → Nat → Hp → Prop) (m : Nat), (∀ ys ps, p.ext ys ps → ∀ q ∈ ps, s5.heap.objs.size ≤ q.1) →
        (∀ ys i m H, W ys i m H → (J.stop i H ∧ p.fin ys H) ∨ (J.go i H ∧ ∃ Nx : List V → Hp → Prop, (∀ ys' H', Nx ys' H' → ∃ m', m' < m ∧ W ys' (i + 1) m' H') ∧ ∀ x H', J.yld i H x H' → g x (wipe σ (own.map (·.2))) H' fun σ2 H2 => wipe σ2 (own.map (·.2)) = wipe σ (own.map (·.2)) ∧ tt σ2 H2 fun b H3 =>
          if b = true then te σ2 H3 fun y H4 => p.yld ys y H4 ∧ (p.go ys y H4 → Nx (ys ++ [y]) H4) else Nx ys H3)) →
        W [] 0 m H4 → ∀ s' ps, p.ext [] ps → Inv Y (((ga, go) :: ps) ++ pf) (wipe σ (own.map (·.2))) H4 s' → s'.gens = s5.gens → GAt X Y ga gi go p (m + 1) s') →
      Q' (.ref ga) s5) :
    wpAny (model X.prog X.w) X.A (eval (.GeneratorExp elt [⟨tg, iter, ifs, 0⟩] scope gpos) X.env) Q' X.xe s := by
  have hfree : ∀ y ∈ scope.names, y.2 = .free → ∃ c, X.env.cells.lookup y.1 = some c := fun y hy e => by
    rcases ok.blk.free y hy e with k | k
    · exact I.ok.has _ (.inl k)
    · exact I.ok.has _ (.inr k)
  refine wpAny_GeneratorExp_make ok.co (closure_ok hfree) ok.cel ok.dot ok.blk.kind (by have := hr.dp; omega) (thn (hi.run pins s σ H _ I h) fun xv s1 hx => thn hx fun itv s2 h2 => ?_) hs
  obtain ⟨it, fp, tn, J, H2, rfl, I2, T, st2, f2, ⟨ps, hP, trip⟩, r⟩ := h2
  refine ⟨I2.nolimit, ?_⟩
  have hPs : s2.heap.get? P = some { cls := .none, data := .fields ps } := I2.hok P _ hP
  have cd : PySem.W.CodeHd s2.heap c P := TB.code.keeps fun b u e => I2.bk b u e
  have nfP : ∀ b ∈ fp, b ≠ P := fun b hb z => by
    have := (f2 b hb).1
    rw [z, hP] at this
    cases this
  have go2 : ∀ (code : Value) (h3 : Heap) (tk : Nat) (more : Array Value), Heap.ExtBut P s2.heap h3 → h3.get? P = some { cls := .none, data := .fields (ps ++ more) } → TriplesOk (ps ++ more).toList →
      wpAny (model X.prog X.w) X.A (builtinsFor X.env.globals X.env.builtins) (fun bi s₄ => ∀ h', h'.Ns s₄.heap.objs.size (fun y => if y = ".0" then some (.ref it) else none) → Heap.SameBut s₄.heap.objs.size (s₄.heap.push { cls := .type "frame", data := .dict #[] }) h' →
          Q' (.ref h'.objs.size) { s₄ with
            gens := s₄.gens.push (.fresh (.compStart (.GeneratorExp elt [⟨tg, iter, ifs, 0⟩] scope gpos) 0 (.ref it) .none (genEnv scope (cloFrom X.env.cells scope.names []) s₄.heap.objs.size code bi X.env))),
            toks := s₄.toks + 1 + 1 + 1,
            heap := h'.push { cls := .type "generator", data := .fields #[.int s₄.gens.size 0, .str "<genexpr>" (s₄.toks + 1), .str (X.env.qual ++ "<genexpr>") (s₄.toks + 1 + 1)] } }) X.xe { s2 with heap := h3, toks := tk } := by
    intro code h3 tk more hx hP3 trip3
    obtain ⟨bm, ob, e1, e2, e3, e4, e5, e6, e7, e8⟩ := TB.bm
    have I4 : Inv X pins σ (upd H2 P (.tbl (ps ++ more))) { s2 with heap := h3, toks := tk } := GxR.inv_tab (g' := s2.gens) (d' := s2.drawn) (t' := tk) I2 hP (fun b u hb e => hx b u hb e) hP3 I2.bare
    have tb4 : GxR.Tabbed P H2 (upd H2 P (.tbl (ps ++ more))) := ⟨⟨_, upd_same, trip3⟩, fun b hb => upd_ne hb⟩
    refine wpAny_builtinsFor (m := X.mg) (by rw [I2.ok.glob]; exact (I2.mod.glob.keeps I2.bk).extBut hx TB.gP) e1 e2 (hx _ _ e4 (I2.bk _ _ e5)) e6 e7 e8 ?_
    intro h' hn' hs'
    have f4 : ∀ b ∈ fp, FpOk X pins (upd H2 P (.tbl (ps ++ more))) b ∧ b < h3.objs.size := fun b hb => by
      obtain ⟨o, e, _⟩ := T.obj _ _ st2 b hb
      exact ⟨⟨(upd_ne (nfP b hb)).trans (f2 b hb).1, (f2 b hb).2⟩, Heap.lt_size (hx b o (nfP b hb) e)⟩
    have st4 : tn 0 h3 := T.keep _ _ _ st2 fun b hb o e => hx b o (nfP b hb) e
    generalize upd H2 P (.tbl (ps ++ more)) = H4 at I4 tb4 f4
    have szh : h'.objs.size = h3.objs.size + 1 := by rw [hs'.1]; exact Heap.size_push ..
    have main : ∀ (go : Obj) (G : Array GenState) (tk5 gi : Nat), (∀ h : Heap, h.get? h'.objs.size = some go → h.IsGen h'.objs.size gi) → (h'.push go).get? h'.objs.size = some go → (∀ v, go.data ≠ .cell v) → AllBare G →
        G[gi]? = some (.fresh (.compStart (.GeneratorExp elt [⟨tg, iter, ifs, 0⟩] scope gpos) 0 (.ref it) .none (genEnv scope (cloFrom X.env.cells scope.names []) h3.objs.size code builtinsNs X.env))) →
        Q' (.ref h'.objs.size) { s2 with gens := G, toks := tk5, heap := h'.push go } := by
      intro go G tk5 gi hgo hgo1 hgd hG hgi
      have Is := gen_start (s := { s2 with heap := h3, toks := tk }) (code := code) (tk := tk5) I4 ok hN f4 hn' hs' hG hgo1 hgd
      have hY := hg { s2 with heap := h3, toks := tk } H4 h3.objs.size code fp (Room.gen hr _)
      have tY := ht { s2 with heap := h3, toks := tk } H4 h3.objs.size code fp (Room.gen hr _)
      have eY := he { s2 with heap := h3, toks := tk } H4 h3.objs.size code fp (Room.gen hr _)
      have kp5 : ∀ b o, h3.get? b = some o → (h'.push go).get? b = some o := fun b o e => Heap.get?_push_of_some _ (hs'.extBut b o (Nat.ne_of_lt (Heap.lt_size e)) (Heap.get?_push_of_some _ e))
      have st5 : tn 0 (h'.push go) := T.keep _ _ _ st4 fun b hb o e => kp5 b o e
      have sz5 : (h'.push go).objs.size = h'.objs.size + 1 := Heap.size_push ..
      have gab : ∀ b ∈ fp, h'.objs.size ≠ b := fun b hb z => by
        have l := (f4 b hb).2
        have z : h'.objs.size = b := z
        have l2 : h3.objs.size < h'.objs.size := by rw [szh]; exact Nat.lt_succ_self _
        rw [z] at l2
        exact Nat.lt_irrefl _ (Nat.lt_trans l l2)
      have stat : ∀ b ∈ fp, FpOk (Cx.gblk X { s2 with heap := h3, toks := tk } H4 scope h3.objs.size code fp) [(h'.objs.size, go)] H4 b := fun b hb =>
        ⟨(f4 b hb).1.1, (Is.ok.exf b hb).1, Is.ok.exfs b hb, .inl hb, fun x c e => (Is.ok.exf b hb).2 x c e, fun q hq => by
          have hq : q = (h'.objs.size, go) := by simpa using hq
          rw [hq]
          exact gab b hb⟩
      have Ip := Is.pinned stat (T.obj _ _ st5)
      refine fin J H2 H4 (Cx.gblk X { s2 with heap := h3, toks := tk } H4 scope h3.objs.size code fp) _ (pinsAt fp (h'.push go)) h'.objs.size gi go r tb4 rfl rfl hgo sz5 (Nat.le_refl _) rfl Ip (fun {pins' σ' H' s'} I' => ?_) fun p W m hext step w0 s' ps' ex' I' eg => ?_
      · exact I4.call' (ch := fp) I'.os I'.base I'.hok I'.bare fun b hb => ⟨(f4 b hb).1.2.2.2.1, (f4 b hb).1.2.1, (f4 b hb).1.2.2.2.2.1, (f4 b hb).1.2.2.2.2.2⟩
      · have I2' : Inv (Cx.gblk X { s2 with heap := h3, toks := tk } H4 scope h3.objs.size code fp) ((h'.objs.size, go) :: ps') (wipe σ (own.map (·.2))) H4 s' := I'.pins_of fun q hq => I'.pin q (List.mem_append_right _ (List.mem_append_left _ hq))
        have pin' : ∀ b ∈ fp, ∀ o, (h'.push go).get? b = some o → s'.heap.get? b = some o := fun b hb o e => (I'.pin (b, o) (List.mem_append_right _ (List.mem_append_right _ (mem_pinsAt hb e)))).1
        have stn : tn 0 s'.heap := T.keep _ _ _ st5 fun b hb o e => pin' b hb o e
        have eg : s'.gens = G := eg
        rw [← eg] at hgi
        refine ⟨hgo _ (I'.pin (h'.objs.size, go) (List.mem_append_right _ (List.mem_append_left _ List.mem_cons_self))).1, I'.nolimit, _, hgi, rfl, ?_⟩
        refine gen_begin (Y := X) (fun B Q E q => T.self B 0 _ _ _ stn q) ?_
        exact gen_loop (Y := Cx.gblk X { s2 with heap := h3, toks := tk } H4 scope h3.objs.size code fp) (A := X.A.in1.in1.in1.in1) (σ := σ) (vs := own.map (·.2)) hc rfl T hY tY eY rfl over_gen (fun b hb => hb) gab
          (fun ys ps e q hq b hb z => by
            have l1 : (h'.push go).objs.size ≤ q.1 := hext ys ps e q hq
            have l2 := (f4 b hb).2
            rw [sz5, szh, z] at l1
            exact Nat.lt_irrefl _ (Nat.lt_of_lt_of_le l2 (Nat.le_of_succ_le (Nat.le_of_succ_le l1)))) ok.co (fun b hb => (f4 b hb).2) step m (m + 1) 0 [] H4 ps' _ _ (Nat.lt_succ_self m) w0 ex' (inv_setGen I2' rfl) stn fun b hb => (f4 b hb).1.1
    exact main _ _ _ _ (fun h e => ⟨_, _, _, e, rfl, rfl, rfl⟩) (Heap.get?_push_size _ rfl) (fun v z => by cases z) (AllBare.push I2.bare rfl) (Array.getElem?_push_size ..)
  cases hf : codeAmong gpos ps.toList with
  | none =>
    refine wpAny_genexprCodeX hcode (cd.code hPs trip) (cd.tab hPs) hf fun c' h' tk hx hge hlt hco' _ htab' _ => ?_
    obtain ⟨o1, vs, f1, tf, fl, tg, inF, tx, tt, op, _, _, _, _, _, _, _, _, _, htr, _⟩ := hco'
    exact go2 _ h' tk _ hx htab'.2 htr
  | some cv =>
    refine wpAny_genexprCode_hit hcode (cd.code hPs trip) hf ?_
    exact go2 cv s2.heap s2.toks #[] (Heap.ExtBut.refl _ _) (by rw [Array.append_empty]; exact hPs) (by rw [Array.append_empty]; exact trip)
/-- all(elt for tg in iter if ..) -/
def tAllE (P : Addr) (wi : TI) (g : TG) (tt : TT) (te : TE) (vs : List Nat) : TE := fun σ H Q => wi σ H fun J H1 => GxR.TabG H1 P ∧ ∀ H2, GxR.Tabbed P H1 H2 → ∃ W : Nat → Nat → Hp → Prop, (∃ m, W 0 m H2) ∧ ∀ i m H, W i m H →
  (J.stop i H ∧ Q (.bl true) H) ∨ (J.go i H ∧ ∃ Nx : Hp → Prop, (∀ H', Nx H' → ∃ m', m' < m ∧ W (i + 1) m' H') ∧ ∀ x H', J.yld i H x H' → g x (wipe σ vs) H' fun σ2 H3 => wipe σ2 vs = wipe σ vs ∧ tt σ2 H3 fun b H4 =>
    if b = true then te σ2 H4 fun y H5 => (∃ c : Bool, y = .bl c ∧ (c = false → Q (.bl false) H5)) ∧ (y = .bl true → Nx H5) else Nx H4)
theorem pe_allE {c P : Addr} {elt tg iter : Expr} {ifs : List Expr} {scope : Scope} {own : List (Str × Nat)} {p pos gpos : Pos} {wi : TI} {g : TG} {tt : TT} {te : TE} {k : Nat}
    (hr : Room (k + 1) X.A) (hgl : Gl X "all") (hm : X.mg "all" = none) (hb : bootBuiltins "all" = some (.builtin "all")) (hc : X.calm = true) (hN : X.N.Nodup) (TB : GxR.TabB X.base X.mg c P) (hcode : X.env.code = .ref c) (ok : GenOk X.N X.env.scope scope own) (hi : PI X tg iter wi)
    (hg : ∀ (s : Shared) (H : Hp) (C : Addr) (code : Value) (fp : List Addr), Room k (Cx.gblk X s H scope C code fp).A → PG (Cx.gblk X s H scope C code fp) tg g)
    (ht : ∀ (s : Shared) (H : Hp) (C : Addr) (code : Value) (fp : List Addr), Room k (Cx.gblk X s H scope C code fp).A → PTs (Cx.gblk X s H scope C code fp) ifs tt)
    (he : ∀ (s : Shared) (H : Hp) (C : Addr) (code : Value) (fp : List Addr), Room k (Cx.gblk X s H scope C code fp).A → PE (Cx.gblk X s H scope C code fp) elt te)
    (hs : ∀ x, genFold iter X.env x = pure x := by intro _; rfl)
    (hst : starEach [.GeneratorExp elt [⟨tg, iter, ifs, 0⟩] scope gpos] X.env = (false, eval (.GeneratorExp elt [⟨tg, iter, ifs, 0⟩] scope gpos) X.env) :: starEach [] X.env := by rfl) :
    PE X (.Call (.Name "all" p) [.GeneratorExp elt [⟨tg, iter, ifs, 0⟩] scope gpos] [] pos) (tAllE P wi g tt te (own.map (·.2))) := by
  constructor
  intro pins s σ H Q I h
  refine wpAny_Call_Name_kw (ld_blt I hgl hm hb (PyProof.Rows.callWith_builtin1 ?_ hst (by rfl)))
  rw [hst]
  show wpAny _ _ (spliced ((false, eval (.GeneratorExp elt [⟨tg, iter, ifs, 0⟩] scope gpos) X.env) :: backTo pos (starEach [] X.env))) _ _ s
  refine Calls.spliced_cons (gen_mk hr hc hN TB hcode ok hi hg ht he hs I h fun J H1 H4 Y s5 pf ga gi go r tb hpr hw hgo sz sl hpn I5 back goes => ?_)
  refine Calls.spliced_nil ?_
  obtain ⟨W, ⟨m, w0⟩, step⟩ := r H4 tb
  have hgen : s5.heap.IsGen ga gi := hgo _ (I5.pin (ga, go) (List.mem_append_right _ (List.mem_append_left _ List.mem_cons_self))).1
  have g0 := goes ⟨fun _ ps => ps = [], fun _ y H' => ∃ b : Bool, y = .bl b ∧ (b = false → Q (.bl false) H'), fun _ y _ => y = .bl true, fun _ H' => Q (.bl true) H'⟩ (fun _ i m H => W i m H) m (fun ys ps e q hq => by
      have e : ps = [] := e
      rw [e] at hq
      cases hq) (fun ys i m H w => (step i m H w).imp id fun ⟨a, Nx, hNx, b⟩ => ⟨a, fun _ H => Nx H, fun _ H' z => hNx H' z, fun x H' y => b x H' y⟩) w0 s5 [] rfl I5 rfl
  refine call_function_tree PySem.F.kind_all PySem.F.plain_all PySem.F.entry_all (PySem.F.args_all1 _) ?_
  unfold Builtin.«all»
  refine wpAny_bind (m := oneArg "all" _) (wpAny_pure ?_)
  refine wpAny_bind (wpAny_pyIter_gen hgen ?_)
  refine wpAny_pure ⟨plainId_quiet PySem.F.plain_all_loop _, all_loop (X := X) hr.hd (by have := hr.dp; omega) hpr hw hgo (fun _ => rfl) (fun _ _ e => e) (fun ys y H' (z : ∃ b : Bool, y = .bl b ∧ (b = false → Q (.bl false) H')) => ?_) (fun ys H' pf' σ' s' (z : ∃ b : Bool, V.bl false = .bl b ∧ (b = false → Q (.bl false) H')) I' => ?_) (fun ys H' σ' s' q I' => ?_) (m + 1) s5 g0⟩
  · obtain ⟨b, e, q⟩ := z
    exact ⟨b, e, fun z => by rw [e, z]⟩
  · obtain ⟨b, e, q⟩ := z
    cases e
    exact ⟨.bl false, H', back I', rfl, q rfl⟩
  · exact ⟨.bl true, H', back I', rfl, q⟩
end
/-- .. over what is walked as a Walk says -/
theorem ga_it {J : It} {n : Nat} {G : Hp → Prop} {Y : Nat → Hp → V → Hp → Prop} (w : Walk J n G Y) {g : TG} {tt : TT} {te : TE} {vs : List Nat} {σ : L2.St} {H2 : Hp} {Q : VK} (Pv : Nat → Hp → Prop) (h0 : Pv 0 H2) (hG : ∀ i H, i ≤ n → Pv i H → G H)
    (hs : ∀ i x H H', i < n → Pv i H → Y i H x H' → g x (wipe σ vs) H' fun σ2 H3 => wipe σ2 vs = wipe σ vs ∧ tt σ2 H3 fun b H4 => if b = true then te σ2 H4 fun y H5 => (∃ c : Bool, y = .bl c ∧ (c = false → Q (.bl false) H5)) ∧ (y = .bl true → Pv (i + 1) H5) else Pv (i + 1) H4) (hd : ∀ H, Pv n H → Q (.bl true) H) :
    ∃ W : Nat → Nat → Hp → Prop, (∃ m, W 0 m H2) ∧ ∀ i m H, W i m H →
      (J.stop i H ∧ Q (.bl true) H) ∨ (J.go i H ∧ ∃ Nx : Hp → Prop, (∀ H', Nx H' → ∃ m', m' < m ∧ W (i + 1) m' H') ∧ ∀ x H', J.yld i H x H' → g x (wipe σ vs) H' fun σ2 H3 => wipe σ2 vs = wipe σ vs ∧ tt σ2 H3 fun b H4 =>
        if b = true then te σ2 H4 fun y H5 => (∃ c : Bool, y = .bl c ∧ (c = false → Q (.bl false) H5)) ∧ (y = .bl true → Nx H5) else Nx H4) := by
  refine ⟨fun i m H => m = n - i ∧ i ≤ n ∧ Pv i H, ⟨n, by simp, Nat.zero_le _, h0⟩, ?_⟩
  rintro i m H ⟨rfl, hi, p⟩
  have q := hG i H hi p
  by_cases hlt : i < n
  · refine .inr ⟨w.goes i H hlt q, Pv (i + 1), fun H' p' => ⟨n - (i + 1), by omega, rfl, hlt, p'⟩, fun x H' y => hs i x H H' hlt p (w.yields i H x H' hlt q y)⟩
  · have e : i = n := by omega
    subst e
    exact .inl ⟨w.stops H q, hd H p⟩
/-! things whose text is short -/
mutual
def lvs (k : Nat) : PyData → Bool
  | .none | .bool _ => true
  | .int i => decide (i.natAbs < 10 ^ k)
  | .str x => x.cps.toList.all fun c => decide (c < 16 ^ 8)
  | .list xs | .tuple xs => lvsA k xs
  | .dict _ => false
def lvsA (k : Nat) : List PyData → Bool
  | [] => true
  | x :: xs => lvs k x && lvsA k xs
end
theorem log_sm {n k : Nat} (hk : k ≤ 400) (h : n < 10 ^ k) : n.log2 < 1920 := by
  by_cases z : n = 0
  · rw [z]
    decide
  · rw [Nat.log2_lt z]
    refine Nat.lt_of_lt_of_le h (Nat.le_trans (Nat.pow_le_pow_left (show 10 ≤ 2 ^ 4 by decide) k) ?_)
    rw [← Nat.pow_mul]
    exact Nat.pow_le_pow_right (by decide) (by omega)
theorem shown_k {i : Int} {k : Nat} (k0 : 0 < k) (h : i.natAbs < 10 ^ k) : (PyData.shown (.int i)).length ≤ k + 1 := by
  have e := int_text_length_le10 (k := k) k0 h
  show (Str.ofString (toString i)).length ≤ k + 1
  rw [PySem.ofString_length]
  exact e
mutual
theorem lvs_show {k : Nat} (k0 : 0 < k) (hk : k ≤ 400) : ∀ d : PyData, lvs k d = true → d.showable = true ∧ d.hasDict = false ∧ d.leavesShort (k + 1) = true
  | .none, _ => ⟨rfl, rfl, rfl⟩
  | .bool _, _ => ⟨rfl, rfl, rfl⟩
  | .int i, h => by
    have h1 : i.natAbs < 10 ^ k := by simpa only [lvs, decide_eq_true_eq] using h
    refine ⟨?_, rfl, ?_⟩
    · simp only [PyData.showable]
      exact decide_eq_true (log_sm hk h1)
    · simp only [PyData.leavesShort]
      exact decide_eq_true (shown_k k0 h1)
  | .str x, h => ⟨rfl, rfl, by simpa only [PyData.leavesShort, lvs] using h⟩
  | .list xs, h => by
    have := lvsA_show k0 hk xs (by simpa only [lvs] using h)
    simpa only [PyData.showable, PyData.hasDict, PyData.leavesShort] using this
  | .tuple xs, h => by
    have := lvsA_show k0 hk xs (by simpa only [lvs] using h)
    simpa only [PyData.showable, PyData.hasDict, PyData.leavesShort] using this
  | .dict _, h => by simp only [lvs] at h; exact nomatch h
theorem lvsA_show {k : Nat} (k0 : 0 < k) (hk : k ≤ 400) : ∀ xs : List PyData, lvsA k xs = true → PyData.showableAll xs = true ∧ PyData.hasDictAll xs = false ∧ PyData.leavesShortAll (k + 1) xs = true
  | [], _ => ⟨rfl, rfl, rfl⟩
  | x :: xs, h => by
    have h' : lvs k x = true ∧ lvsA k xs = true := by simpa only [lvsA, Bool.and_eq_true] using h
    obtain ⟨a1, a2, a3⟩ := lvs_show k0 hk x h'.1
    obtain ⟨b1, b2, b3⟩ := lvsA_show k0 hk xs h'.2
    simp only [PyData.showableAll, PyData.hasDictAll, PyData.leavesShortAll, a1, a2, a3, b1, b2, b3]
    exact ⟨rfl, rfl, rfl⟩
end
structure Sho (d : PyData) : Prop where
  s : d.showable = true
  n : d.hasDict = false
  dp : d.depth ≤ 60
  len : d.shown.length ≤ sizeLine
theorem sho_of {k : Nat} {d : PyData} (k0 : 7 ≤ k) (hk : k ≤ 400) (h : lvs k d = true) (dp : d.depth ≤ 60) (w : (k + 3) * d.weight ≤ 16000000) : Sho d := by
  obtain ⟨a, b, c⟩ := lvs_show (by omega) hk d h
  refine ⟨a, b, dp, ?_⟩
  have e : d.shown.length ≤ (k + 3) * d.weight + (k + 1) := PyData.shown_le (k + 1) (by omega) d c
  rw [sizeLine_eq]
  omega
theorem lvsA_of {k : Nat} : ∀ ds : List PyData, (∀ d, d ∈ ds → lvs k d = true) → lvsA k ds = true
  | [], _ => rfl
  | d :: ds, h => by
    simp only [lvsA, Bool.and_eq_true]
    exact ⟨h d List.mem_cons_self, lvsA_of ds fun x hx => h x (List.mem_cons_of_mem _ hx)⟩
theorem depA_of {n : Nat} : ∀ ds : List PyData, (∀ d, d ∈ ds → d.depth ≤ n) → PyData.depthAll ds ≤ n
  | [], _ => Nat.zero_le _
  | d :: ds, h => by
    have := h d List.mem_cons_self
    have := depA_of ds fun x hx => h x (List.mem_cons_of_mem _ hx)
    simp only [PyData.depthAll]
    omega
theorem weiA_of {n : Nat} : ∀ ds : List PyData, (∀ d, d ∈ ds → d.weight ≤ n) → PyData.weightAll ds ≤ ds.length * (n + 1)
  | [], _ => Nat.zero_le _
  | d :: ds, h => by
    have := h d List.mem_cons_self
    have := weiA_of ds fun x hx => h x (List.mem_cons_of_mem _ hx)
    simp only [PyData.weightAll, List.length_cons, Nat.add_mul, Nat.one_mul]
    omega
/-- short things: their leaves, depth and weight -/
structure Shs (k n w : Nat) (d : PyData) : Prop where
  l : lvs k d = true
  dp : d.depth ≤ n
  wt : d.weight ≤ w
theorem shs_all {k n w : Nat} {ds : List PyData} (h : ∀ d, d ∈ ds → Shs k n w d) : Shs k (n + 1) (ds.length * (w + 1)) (.list ds) ∧ Shs k (n + 1) (ds.length * (w + 1)) (.tuple ds) := by
  have a := lvsA_of ds fun d hd => (h d hd).l
  have b := depA_of ds fun d hd => (h d hd).dp
  have c := weiA_of ds fun d hd => (h d hd).wt
  refine ⟨⟨by simpa only [lvs] using a, ?_, by simpa only [PyData.weight] using c⟩, ⟨by simpa only [lvs] using a, ?_, by simpa only [PyData.weight] using c⟩⟩
  · simp only [PyData.depth]
    omega
  · simp only [PyData.depth]
    omega
theorem Shs.mono {k n m w v : Nat} {d : PyData} (h : Shs k n w d) (a : n ≤ m) (b : w ≤ v) : Shs k m v d := ⟨h.l, Nat.le_trans h.dp a, Nat.le_trans h.wt b⟩
theorem Shs.sho {k n w : Nat} {d : PyData} (h : Shs k n w d) (k0 : 7 ≤ k) (hk : k ≤ 400) (hn : n ≤ 60) (hw : (k + 3) * w ≤ 16000000) : Sho d := sho_of k0 hk h.l (Nat.le_trans h.dp hn) (Nat.le_trans (Nat.mul_le_mul_left _ h.wt) hw)
theorem shs_int {k : Nat} {i : Int} (h : i.natAbs < 10 ^ k) : Shs k 0 (4 * k + 1) (.int i) := by
  refine ⟨?_, ?_, ?_⟩
  · simp only [lvs]
    exact decide_eq_true h
  · simp only [PyData.depth]
    decide
  · simp only [PyData.weight]
    split
    · exact Nat.zero_le _
    · rename_i z
      have z1 : i.natAbs ≠ 0 := fun e => z (by rw [Int.natAbs_eq_zero.mp e]; rfl)
      have := (Nat.log2_lt (k := 4 * k) z1).mpr (Nat.lt_of_lt_of_le h (by
        rw [Nat.pow_mul]
        exact Nat.pow_le_pow_left (by decide) k))
      omega
theorem sho_ints {ns : List Int} (h : ∀ n, n ∈ ns → n.natAbs < 10 ^ 12) (l : ns.length ≤ 20000) : Sho (.list (ns.map .int)) ∧ Sho (.tuple (ns.map .int)) := by
  obtain ⟨a, b⟩ := shs_all (k := 12) (n := 0) (w := 49) (ds := ns.map .int) (fun d hd => by
    obtain ⟨n, hn, rfl⟩ := List.mem_map.mp hd
    exact shs_int (h n hn))
  rw [List.length_map] at a b
  exact ⟨a.sho (by decide) (by decide) (by decide) (by omega), b.sho (by decide) (by decide) (by decide) (by omega)⟩
theorem shs_str {k : Nat} {x : Str} (h : (x.cps.toList.all fun c => decide (c < 16 ^ 8)) = true) (w : x.cps.size ≤ 12) : Shs k 0 12 (.str x) := ⟨by simpa only [lvs] using h, by simp only [PyData.depth]; decide, by simpa only [PyData.weight] using w⟩
theorem shs_non {k : Nat} : Shs k 0 0 .none := ⟨rfl, by simp only [PyData.depth]; decide, by simp only [PyData.weight]; decide⟩
/-! a promise where no text of a thing is being made -/
structure GOk (P : Program) (w : World) (K : PySem.W.Frag) (mg : Str → Option Value) (base : Heap) (CX : CXT) (k : Nat) (f : Addr) (fd : FuncData) (ps : List Str) (sp : Sp) : Prop where
  len : ∀ vs H Q E, sp vs H Q E → vs.length = ps.length
  run : ∀ (A : Around) (outer : List Env) (s : Shared) (H : Hp) (args : Args) (us : List Value) (vs : List V) (Q : VK) (E : XK), A.guards = some [] → Room k A → Env0 P w K mg base A outer s H → BindsTo s fd args (ps.zip us) → Vals vs us → sp vs H Q E →
    codeAny (model P w) A (.call (.ref f) args) (CR CX outer P w H s Q E) s
theorem gok_of {CX : CXT} {P : Program} {w : World} {K : PySem.W.Frag} {mg : Str → Option Value} {base : Heap} {k : Nat} {x : Str} {st : Stmt} {f : Addr} {fd : FuncData} {N ps : List Str} {sp : Sp} (F : FnP K x st f fd) (S : FnScope N ps (defScope st)) (len : ∀ vs H Q E, sp vs H Q E → vs.length = ps.length)
    (hb : ∀ (cdv : Value) (A : Around) (outer : List Env) (s : Shared) (H : Hp) (vs : List V) (Q : VK) (E : XK), A.guards = some [] → Room k (A.deeper (envOfC x (defScope st) s.heap.objs.size f cdv)) → sp vs H Q E →
      ∃ t, PSs (cxOf CX P w K mg base N x (defScope st) f cdv A outer s H E) (defBody st) t ∧ t { nx := fun _ H' => Q .non H', rt := Q } (L2.start N vs) H) : GOk P w K mg base CX (k + 1) f fd ps sp := by
  obtain ⟨oc, od, dV, kV, doc, pm, an, cdv, ct, osl, rfl, lk, hcd, _, _⟩ := F.ex
  refine ⟨len, fun A outer s H args us vs Q E hg hr e0 bd rv hsp => ?_⟩
  have kept : ∀ b o, base.get? b = some o → s.heap.get? b = some o := fun b o e => (e0.bs b o e).1
  have KX : K.In s.heap := e0.mod.kin.keeps kept
  have kinds : ∀ y ∈ ps.zip us, (defScope st).names.lookup y.1 = some .local ∨ ((defScope st).names.lookup y.1 = some .cell ∧ ((cellsFrom (s.heap.objs.size + 1) (defScope st).names []).lookup y.1).isSome = true) := fun y hy =>
    (S.par y.1 (List.of_mem_zip (show (y.1, y.2) ∈ ps.zip us from hy)).1).imp id fun q => ⟨q, PySem.W.cellsFrom_some _ _ _ (.inl q)⟩
  refine codeAny_call_function hr.depth (KX _ _ lk) rfl S.co S.gen rfl (PySem.W.codeRec_of KX hcd) (bd _ _ _ _ (wpAny_newFunctionEnv_cells S.kind kinds fun env he s1 x1 => ?_))
  subst he
  refine ⟨(e0.mod.nolimit.keeps kept).keeps x1.toInCall.keep, codeAny_func ?_⟩
  obtain ⟨t, ht, hq⟩ := hb cdv A outer s H vs Q E hg (hr.deeper _) hsp
  have I := inv_start (CX := CX) (E := E) S hr.hd e0 (len _ _ _ _ hsp) rv x1
  refine wpAny_mono (ht.run [] s1 (L2.start N vs) H _ I hq) (fun fl s' hs => ?_) fun e s' hs => hs
  cases fl with
  | ret u =>
    obtain ⟨v, σ', H', J, r', q⟩ := hs
    exact ⟨v, H', J.os, J.bare, J.base, J.hok, r', q⟩
  | next =>
    obtain ⟨σ', H', J, q⟩ := hs
    exact ⟨V.non, H', J.os, J.bare, J.base, J.hok, rfl, q⟩
  | brk =>
    obtain ⟨_, _, _, q⟩ := hs
    exact q.elim
  | cont =>
    obtain ⟨_, _, _, q⟩ := hs
    exact q.elim
/-- the state ahead of the law's call: the script is tracked, or one of the module's own things -/
theorem env_ahead {P : Program} {w : World} {K : PySem.W.Frag} {mg mb : Str → Option Value} {a : Addr} {s : Shared} {vs : List Value} {ns : List Int} (KX : K.In s.heap) (hns : s.heap.Ns mainGlobals mg) (hb : s.heap.Ns builtinsNs mb)
    (hbb : ∀ x : Str, x ≠ "__name__" → mb x = bootBuiltins x) (hlim : s.heap.NoLimit) (hg : s.gens = #[]) (ha : s.heap.get? a = some { cls := .type "list", data := .seq vs.toArray }) (hi : IntsAre vs ns) (hl : ns.length ≤ sizeLine) :
    ∃ H : Hp, Only H ∧ SqL K H a (ns.map V.int) ∧ HOk P w H s.heap ∧ K.In (hidT s.heap H) ∧ (hidT s.heap H).Ns mainGlobals mg ∧ Env0 P w K mg (hidT s.heap H) callerA [] s H := by
  have rv := vals_ints hi
  have go : ∀ H : Hp, Only H → SqL K H a (ns.map V.int) → HOk P w H s.heap → (∀ b, H b ≠ none → b = a ∧ K.lookup a = none) → ∃ H : Hp, Only H ∧ SqL K H a (ns.map V.int) ∧ HOk P w H s.heap ∧ K.In (hidT s.heap H) ∧ (hidT s.heap H).Ns mainGlobals mg ∧ Env0 P w K mg (hidT s.heap H) callerA [] s H := fun H hO hS hok hA => by
    have free : ∀ {b : Addr}, (b = a → False) → H b = none := fun {b} nb => Classical.byContradiction fun z => nb (hA b z).1
    have Kb : K.In (hidT s.heap H) := fun b o e => hidT_get (KX b o e) (Classical.byContradiction fun z => by
      obtain ⟨rfl, n⟩ := hA b z
      rw [n] at e
      cases e)
    have nsb : ∀ {b : Addr} {m : Str → Option Value}, s.heap.Ns b m → (hidT s.heap H).Ns b m := fun {b m} h => by
      obtain ⟨o, es, ep, e, d, r⟩ := h
      refine ⟨o, es, ep, hidT_get e (free fun z => ?_), d, r⟩
      rw [z, ha] at e
      cases e
      cases d
    refine ⟨H, hO, hS, hok, Kb, nsb hns, rfl, ⟨Kb, nsb hns, ⟨mb, nsb hb, hbb⟩, ?_⟩, fun b o e => of_hidT e, Nat.le_of_eq (hidT_size _ _), trivial, fun b z => (by cases z), hok, .of_eq hg⟩
    obtain ⟨mc, h1, h2⟩ := hlim
    exact ⟨mc, nsb h1, h2⟩
  cases hk : K.lookup a with
  | some o =>
    have e := KX a o hk
    rw [ha] at e
    cases e
    exact go (fun _ => none) (fun _ => .inl rfl) (.inr ⟨_, vs.toArray, _, hk, rfl, rfl, rfl, by rw [List.size_toArray, hi.length]; exact hl, by simpa using rv⟩) (fun b u z => by cases z) (fun b z => absurd rfl z)
  | none =>
    refine go (fun b => if b = a then some (.frz { cls := .type "list", data := .seq vs.toArray } (.lst (ns.map V.int))) else none) (fun b => ?_) (.inl (.inr ⟨_, if_pos rfl⟩)) (fun b u z => ?_) (fun b z => ?_)
    · by_cases e : b = a
      · exact .inr ⟨_, _, if_pos e⟩
      · exact .inl (if_neg e)
    · by_cases e : b = a
      · cases (if_pos e).symm.trans z
        subst e
        exact ⟨ha, by rw [List.length_map]; exact hl, vs, _, rv, ha⟩
      · cases (if_neg e).symm.trans z
    · by_cases e : b = a
      · exact ⟨e, hk⟩
      · exact absurd (if_neg e) z
theorem walk_ofG {l : PySem.W.OpenLaw} {n k : Nat} {q : Program} {loose : List Str} {XP : (Str → Option Value) → Heap → Prop} {YP : World → Heap → Prop} {d : DefRec} {x : Str}
    (hn : l.most = some n) (hn2 : n ≤ sizeLine) (hdf : d.params.defaults = []) (hr : Room k callerA)
    (F : ∀ (w : World) (mg : Str → Option Value) (fa : Addr) (h : Heap), YP w h → h.Ns mainGlobals mg → mg d.name = some (.ref fa) →
      ∃ (K : PySem.W.Frag) (fd : FuncData) (sp : Sp), K.In h ∧ (∀ (s : Shared) (u : Value), BindsTo s fd ⟨[u], []⟩ [(x, u)]) ∧
        (∀ (H : Hp) (a : Addr) (ns : List Int), ns.length ≤ n → Only H → SqL K H a (ns.map V.int) → sp [.ref a] H (fun v _ => v = .bl true) fun _ _ _ => False) ∧
        ∀ base : Heap, K.In base → base.Ns mainGlobals mg → GOk l.prog w K mg base CX0 k fa fd [x] sp) :
    PySem.W.WalkO q loose XP YP l.row.toRowW d [] (fun f vs => PySem.call f vs) := by
  refine Att.attach_call hn hdf fun w s₀ s₁ mg mb fa o pm cd doc a vs ns G Y ho hd hcd hmg hobj hints hlen hg => ?_
  obtain ⟨K, fd, sp, KX, hbd, hsp, hF⟩ := F w mg fa _ Y G.T.g hmg
  obtain ⟨H, hO, hS, hok, Kb, nb, e0⟩ := env_ahead (P := l.prog) (w := w) KX G.T.g G.T.b G.T.builtins G.T.nolimit hg hobj hints (Nat.le_trans hlen hn2)
  refine codeAny_mono ((hF _ Kb nb).run callerA [] s₁ H ⟨[.ref a], []⟩ [.ref a] [.ref a] _ _ rfl hr e0 (hbd s₁ (.ref a)) (.cons rfl .nil) (hsp H a ns hlen hO hS)) fun r s' h => ?_
  match r, h with
  | .ok (.ret u), h =>
    obtain ⟨v, H', os, bare, un, hok', r', q⟩ := h
    have q : v = .bl true := q
    subst q
    obtain rfl : u = Value.bool true := r'
    refine ⟨rfl, OldK.of_keep fun b o e => ?_, os, bare⟩
    rcases hO b with z | ⟨ob, xs, z⟩
    · exact un.keep b o e z (by intro y; cases y) (by simp)
    · obtain ⟨e1, _⟩ := hok b _ z
      obtain ⟨e2, _⟩ := hok' b _ (un.frzs b ob _ z)
      rw [e] at e1
      cases e1
      exact e2
  | .ok .next, h => exact False.elim h
  | .ok .brk, h => exact False.elim h
  | .ok .cont, h => exact False.elim h
  | .error e, h => exact False.elim h
/-- repr(x) of a list or tuple -/
def rRepr (K : PySem.W.Frag) : List V → Hp → VK → Prop := fun xs H Q => ∃ a d, xs = [.ref a] ∧ Dp K H (.ref a) d ∧ Sho d ∧ Q (.str d.shown) H
theorem cr_repr {X : Cx} (hg : X.A.guards = some []) (hu : X.A.units + 65 < cLine) : CallR X (.builtin "repr") (rRepr X.K) := by
  intro pins s σ H vs us Q I r h
  obtain ⟨a, d, rfl, hd, ⟨sh, nd, dd, sz⟩, q⟩ := h
  rw [Vals.ref1 r]
  obtain ⟨as, rd⟩ := Dp.reads I d (.ref a) (.ref a) hd rfl
  refine repr_of_reads' rd sh (fun z => by rw [nd] at z; cases z) hg (by omega) (fun _ _ e => e) (fun h' u tk hk => ?_) sz
  exact ⟨.str d.shown, H, I.kept (t' := tk) hk, ⟨_, rfl⟩, q⟩
theorem u65g {k : Nat} {A : Around} (r : Room k A) : A.units + 65 < cLine := by
  have := r.un
  omega
/-! the state ahead of the law's call, with the tables of code objects -/
def ahT (K : PySem.W.Frag) (a : Addr) (ts : List Addr) (o : Obj) (xs : List V) : Hp := fun b => if b = a then (if (K.lookup a).isSome = true then none else some (.frz o (.lst xs))) else if b ∈ ts then some (.tbl #[]) else none
theorem ahT_tab {K : PySem.W.Frag} {a : Addr} {ts : List Addr} {o : Obj} {xs : List V} (na : ¬ a ∈ ts) {b : Addr} (hb : b ∈ ts) : ahT K a ts o xs b = some (.tbl #[]) := by
  unfold ahT
  rw [if_neg (fun z : b = a => na (z ▸ hb)), if_pos hb]
theorem ahT_any {K : PySem.W.Frag} {a : Addr} {ts : List Addr} {o : Obj} {xs : List V} {b : Addr} {u : HO} (h : ahT K a ts o xs b = some u) : (b = a ∧ K.lookup a = none ∧ u = .frz o (.lst xs)) ∨ (b ∈ ts ∧ u = .tbl #[]) := by
  unfold ahT at h
  by_cases e : b = a
  · rw [if_pos e] at h
    cases k : K.lookup a with
    | none =>
      rw [k, if_neg (fun z => by cases z)] at h
      exact .inl ⟨e, rfl, (Option.some.inj h).symm⟩
    | some y =>
      rw [k] at h
      simp at h
  · rw [if_neg e] at h
    by_cases z : b ∈ ts
    · rw [if_pos z] at h
      exact .inr ⟨z, (Option.some.inj h).symm⟩
    · rw [if_neg z] at h
      cases h
/-- a code object, its table, and where they stand -/
structure TbAt (K : PySem.W.Frag) (h : Heap) (q : Addr × Addr) : Prop where
  ob : h.get? q.2 = some { cls := .none, data := .fields #[] }
  nk : K.lookup q.2 = none
  hd : PySem.W.CodeHd h q.1 q.2
theorem env_aheadT {P : Program} {w : World} {K : PySem.W.Frag} {mg mb : Str → Option Value} {a : Addr} {cs : List (Addr × Addr)} {s : Shared} {vs : List Value} {ns : List Int} (KX : K.In s.heap) (gl : s.heap.Ns mainGlobals mg) (bl : s.heap.Ns builtinsNs mb)
    (bb : ∀ x : Str, x ≠ "__name__" → mb x = bootBuiltins x) (nl : s.heap.NoLimit) (hg : s.gens = #[]) (tb : ∀ q, q ∈ cs → TbAt K s.heap q)
    (bm : ∃ (m : Addr) (om : Obj), mg "__builtins__" = some (.ref m) ∧ m ≠ builtinsNs ∧ s.heap.get? m = some om ∧ om.cls = .type "module" ∧ om.dict = some builtinsNs ∧ om.data = .plain)
    (ha : s.heap.get? a = some { cls := .type "list", data := .seq vs.toArray }) (hi : IntsAre vs ns) (hl : ns.length ≤ sizeLine) :
    ∃ H : Hp, (∀ q, q ∈ cs → H q.2 = some (.tbl #[])) ∧ (∀ b u, H b = some u → (∃ o xs, u = .frz o (.lst xs)) ∨ b ∈ cs.map Prod.snd) ∧ SqL K H a (ns.map V.int) ∧ HOk P w H s.heap ∧ K.In (hidT s.heap H) ∧ (hidT s.heap H).Ns mainGlobals mg ∧ (∀ q, q ∈ cs → GxR.TabB (hidT s.heap H) mg q.1 q.2) ∧ Env0 P w K mg (hidT s.heap H) callerA [] s H := by
  have tin : ∀ b, b ∈ cs.map Prod.snd → ∃ q, q ∈ cs ∧ q.2 = b := fun b h => List.mem_map.mp h
  have tob : ∀ b, b ∈ cs.map Prod.snd → s.heap.get? b = some { cls := .none, data := .fields #[] } := fun b h => by
    obtain ⟨q, hq, rfl⟩ := tin b h
    exact (tb q hq).ob
  have na : ¬ a ∈ cs.map Prod.snd := fun z => by
    have y := (tob a z).symm.trans ha
    cases y
  obtain ⟨H, eH⟩ : ∃ H : Hp, H = ahT K a (cs.map Prod.snd) { cls := .type "list", data := .seq vs.toArray } (ns.map V.int) := ⟨_, rfl⟩
  have any : ∀ {b u}, H b = some u → (b = a ∧ K.lookup a = none ∧ u = .frz { cls := .type "list", data := .seq vs.toArray } (.lst (ns.map V.int))) ∨ (b ∈ cs.map Prod.snd ∧ u = .tbl #[]) := fun {b u} h => ahT_any (by rw [← eH]; exact h)
  have ta : ∀ q, q ∈ cs → H q.2 = some (.tbl #[]) := fun q hq => by
    rw [eH]
    exact ahT_tab na (List.mem_map.mpr ⟨q, hq, rfl⟩)
  have hS : SqL K H a (ns.map V.int) := by
    cases k : K.lookup a with
    | none =>
      refine .inl (.inr ⟨{ cls := .type "list", data := .seq vs.toArray }, ?_⟩)
      rw [eH]
      unfold ahT
      rw [if_pos rfl, k]
      rfl
    | some o =>
      have e := KX a o k
      rw [ha] at e
      cases e
      exact .inr ⟨_, vs.toArray, _, k, rfl, rfl, rfl, by rw [List.size_toArray, hi.length]; exact hl, by simpa using vals_ints hi⟩
  -- what is neither a sequence nor a table stands untouched
  have free : ∀ {b : Addr} {o : Obj}, s.heap.get? b = some o → (∀ ys n, o.data ≠ .seq ys n) → o.data ≠ .fields #[] → H b = none := fun {b o} e n1 n2 => by
    cases k : H b with
    | none => rfl
    | some u =>
      rcases any k with ⟨rfl, _⟩ | ⟨z, _⟩
      · rw [ha] at e
        cases e
        exact absurd rfl (n1 _ _)
      · rw [tob b z] at e
        cases e
        exact absurd rfl n2
  have nsb : ∀ {b : Addr} {m : Str → Option Value}, s.heap.Ns b m → (hidT s.heap H).Ns b m := fun {b m} h => by
    obtain ⟨o, es, ep, e, d, r⟩ := h
    exact ⟨o, es, ep, hidT_get e (free e (fun ys n z => by rw [d] at z; cases z) (fun z => by rw [d] at z; cases z)), d, r⟩
  have Kb : K.In (hidT s.heap H) := fun b o e => hidT_get (KX b o e) (by
    cases k : H b with
    | none => rfl
    | some u =>
      rcases any k with ⟨rfl, n, _⟩ | ⟨z, _⟩
      · rw [n] at e
        cases e
      · obtain ⟨q, hq, rfl⟩ := tin b z
        rw [(tb q hq).nk] at e
        cases e)
  have hok : HOk P w H s.heap := fun b u z => by
    rcases any z with ⟨rfl, _, rfl⟩ | ⟨y, rfl⟩
    · exact ⟨ha, by rw [List.length_map]; exact hl, vs, _, vals_ints hi, ha⟩
    · exact tob b y
  refine ⟨H, ta, fun b u z => ?_, hS, hok, Kb, nsb gl, fun q hq => ⟨?_, ?_, fun z => ?_⟩, rfl, ⟨Kb, nsb gl, ⟨mb, nsb bl, bb⟩, ?_⟩, fun b o e => of_hidT e, Nat.le_of_eq (hidT_size _ _), trivial, fun b z => (by cases z), hok, .of_eq hg⟩
  · rcases any z with ⟨_, _, rfl⟩ | ⟨y, _⟩
    · exact .inl ⟨_, _, rfl⟩
    · exact .inr y
  · obtain ⟨o, us, fl, tf, gs, tg, iF, tx, tt, e1, r1, r2, r3, rest⟩ := (tb q hq).hd
    refine ⟨o, us, fl, tf, gs, tg, iF, tx, tt, hidT_get e1 (free e1 (fun ys n z => by rw [r2] at z; cases z) (fun z => ?_)), r1, r2, r3, rest⟩
    rw [r2] at z
    cases z
    simp at r3
  · obtain ⟨m, om, b1, b2, b3, b4, b5, b6⟩ := bm
    refine ⟨m, om, b1, b2, fun z => ?_, fun z => ?_, hidT_get b3 (free b3 (fun ys n z => by rw [b6] at z; cases z) (fun z => by rw [b6] at z; cases z)), b4, b5, b6⟩
    · obtain ⟨o, es, ep, e, d, _⟩ := gl
      rw [z, e] at b3
      cases b3
      rw [d] at b6
      cases b6
    · have y := (tb q hq).ob
      rw [← z, b3] at y
      cases y
      cases b6
  · obtain ⟨o, es, ep, e, d, _⟩ := gl
    rw [z, (tb q hq).ob] at e
    cases e
    cases d
  · obtain ⟨mc, h1, h2⟩ := nl
    exact ⟨mc, nsb h1, h2⟩
theorem walk_ofGT {l : PySem.W.OpenLaw} {n k : Nat} {q : Program} {loose : List Str} {XP : (Str → Option Value) → Heap → Prop} {YP : World → Heap → Prop} {d : DefRec} {x : Str}
    (hn : l.most = some n) (hn2 : n ≤ sizeLine) (hdf : d.params.defaults = []) (hr : Room k callerA)
    (F : ∀ (w : World) (mg : Str → Option Value) (fa : Addr) (h : Heap), YP w h → h.Ns mainGlobals mg → mg d.name = some (.ref fa) →
      ∃ (K : PySem.W.Frag) (fd : FuncData) (cs : List (Addr × Addr)) (sp : Sp), K.In h ∧ (∀ q, q ∈ cs → TbAt K h q) ∧ (∀ (s : Shared) (u : Value), BindsTo s fd ⟨[u], []⟩ [(x, u)]) ∧
        (∀ (H : Hp) (a : Addr) (ns : List Int), ns.length ≤ n → (∀ q, q ∈ cs → H q.2 = some (.tbl #[])) → SqL K H a (ns.map V.int) → sp [.ref a] H (fun v _ => v = .bl true) fun _ _ _ => False) ∧
        ∀ base : Heap, K.In base → base.Ns mainGlobals mg → (∀ q, q ∈ cs → GxR.TabB base mg q.1 q.2) → GOk l.prog w K mg base CX0 k fa fd [x] sp) :
    PySem.W.WalkO q loose XP YP l.row.toRowW d [] (fun f vs => PySem.call f vs) := by
  refine Att.attach_call hn hdf fun w s₀ s₁ mg mb fa o pm cd doc a vs ns G Y ho hd hcd hmg hobj hints hlen hg => ?_
  obtain ⟨K, fd, cs, sp, KX, tb, hbd, hsp, hF⟩ := F w mg fa _ Y G.T.g hmg
  obtain ⟨H, ta, hO, hS, hok, Kb, nb, TB, e0⟩ := env_aheadT (P := l.prog) (w := w) KX G.T.g G.T.b G.T.builtins G.T.nolimit hg tb G.T.bmain hobj hints (Nat.le_trans hlen hn2)
  refine codeAny_mono ((hF _ Kb nb TB).run callerA [] s₁ H ⟨[.ref a], []⟩ [.ref a] [.ref a] _ _ rfl hr e0 (hbd s₁ (.ref a)) (.cons rfl .nil) (hsp H a ns hlen ta hS)) fun r s' h => ?_
  match r, h with
  | .ok (.ret u), h =>
    obtain ⟨v, H', os, bare, un, hok', r', q⟩ := h
    have q : v = .bl true := q
    subst q
    obtain rfl : u = Value.bool true := r'
    have grow : ∀ t, t ∈ cs → ∃ more : Array Value, s'.heap.get? t.2 = some { cls := .none, data := .fields more } := fun t ht => by
      obtain ⟨more, z⟩ := un.tbls _ _ (ta t ht)
      exact ⟨_, hok' _ _ z⟩
    have stay : ∀ b o, ¬ b ∈ cs.map Prod.snd → s₁.heap.get? b = some o → s'.heap.get? b = some o := fun b o nb e => by
      cases k : H b with
      | none => exact un.keep b o e k (by intro y; cases y) (by simp)
      | some u =>
        rcases hO b u k with ⟨ob, xs, rfl⟩ | z
        · obtain ⟨e1, _⟩ := hok b _ k
          obtain ⟨e2, _⟩ := hok' b _ (un.frzs b ob _ k)
          rw [e] at e1
          cases e1
          exact e2
        · exact absurd z nb
    refine ⟨rfl, ⟨fun b o e => ?_, fun b o e => ?_⟩, os, bare⟩
    · by_cases z : b ∈ cs.map Prod.snd
      · obtain ⟨t, ht, rfl⟩ := List.mem_map.mp z
        obtain ⟨more, gm⟩ := grow t ht
        have y := (tb t ht).ob
        rw [e] at y
        cases y
        exact .inr (.inl ⟨((tb t ht).hd.tab (tb t ht).ob).isCodeTable, rfl, #[], more, rfl, by rw [Array.empty_append]; exact gm⟩)
      · exact .inl (stay b o z e)
    · by_cases z : b ∈ cs.map Prod.snd
      · obtain ⟨t, ht, rfl⟩ := List.mem_map.mp z
        obtain ⟨more, gm⟩ := grow t ht
        exact ⟨_, gm⟩
      · exact ⟨o, stay b o z e⟩
  | .ok .next, h => exact False.elim h
  | .ok .brk, h => exact False.elim h
  | .ok .cont, h => exact False.elim h
  | .error e, h => exact False.elim h
/-! things that are small enough -/
mutual
def gd (k : Nat) : PyData → Bool
  | .none | .bool _ => true
  | .int i => decide (i.natAbs < 10 ^ k)
  | .str x => PyData.strOk x
  | .list xs | .tuple xs => gdA k xs
  | .dict _ => false
def gdA (k : Nat) : List PyData → Bool
  | [] => true
  | x :: xs => gd k x && gdA k xs
end
mutual
theorem gd_lvs {k : Nat} : ∀ d : PyData, gd k d = true → lvs k d = true ∧ d.canLay0 = true
  | .none, _ => ⟨rfl, rfl⟩
  | .bool b, _ => ⟨rfl, rfl⟩
  | .int i, h => ⟨by simpa only [lvs, gd] using h, rfl⟩
  | .str x, h => by
    have h1 : PyData.strOk x = true := by simpa only [gd] using h
    refine ⟨?_, by simpa only [PyData.canLay0] using h1⟩
    simp only [lvs, List.all_eq_true, decide_eq_true_eq]
    intro c hc
    unfold PyData.strOk at h1
    have := Array.all_eq_true_iff_forall_mem.mp h1 c (Array.mem_toList_iff.mp hc)
    have : c < 0x110000 := by simpa using this
    exact Nat.lt_trans this (by decide)
  | .list xs, h => by
    have := gdA_lvs xs (by simpa only [gd] using h)
    simpa only [lvs, PyData.canLay0] using this
  | .tuple xs, h => by
    have := gdA_lvs xs (by simpa only [gd] using h)
    simpa only [lvs, PyData.canLay0] using this
  | .dict _, h => by simp only [gd] at h; exact nomatch h
theorem gdA_lvs {k : Nat} : ∀ xs : List PyData, gdA k xs = true → lvsA k xs = true ∧ PyData.canLayAll0 xs = true
  | [], _ => ⟨rfl, rfl⟩
  | x :: xs, h => by
    have h' : gd k x = true ∧ gdA k xs = true := by simpa only [gdA, Bool.and_eq_true] using h
    have a := gd_lvs x h'.1
    have b := gdA_lvs xs h'.2
    simp only [lvsA, PyData.canLayAll0, a.1, a.2, b.1, b.2]
    exact ⟨rfl, rfl⟩
end
theorem gdA_all {k : Nat} : ∀ {xs : List PyData}, gdA k xs = true ↔ ∀ x, x ∈ xs → gd k x = true
  | [] => ⟨fun _ x hx => (by cases hx), fun _ => rfl⟩
  | x :: xs => by
    simp only [gdA, Bool.and_eq_true, gdA_all (xs := xs)]
    exact ⟨fun h y hy => by
      rcases List.mem_cons.mp hy with rfl | hy
      · exact h.1
      · exact h.2 y hy, fun h => ⟨h x List.mem_cons_self, fun y hy => h y (List.mem_cons_of_mem _ hy)⟩⟩
mutual
theorem gd_mono {k m : Nat} (h : k ≤ m) : ∀ d : PyData, gd k d = true → gd m d = true
  | .none, _ => rfl
  | .bool b, _ => rfl
  | .int i, g => by
    simp only [gd, decide_eq_true_eq] at g ⊢
    exact Nat.lt_of_lt_of_le g (Nat.pow_le_pow_right (by decide) h)
  | .str x, g => by simpa only [gd] using g
  | .list xs, g => by
    have := gdA_mono h xs (by simpa only [gd] using g)
    simpa only [gd] using this
  | .tuple xs, g => by
    have := gdA_mono h xs (by simpa only [gd] using g)
    simpa only [gd] using this
  | .dict _, g => by simp only [gd] at g; exact nomatch g
theorem gdA_mono {k m : Nat} (h : k ≤ m) : ∀ xs : List PyData, gdA k xs = true → gdA m xs = true
  | [], _ => rfl
  | x :: xs, g => by
    have h' : gd k x = true ∧ gdA k xs = true := by simpa only [gdA, Bool.and_eq_true] using g
    simp only [gdA, gd_mono h x h'.1, gdA_mono h xs h'.2]
    rfl
end
structure Bd (k n w : Nat) (d : PyData) : Prop where
  g : gd k d = true
  dp : d.depth ≤ n
  wt : d.weight ≤ w
theorem Bd.mono {k n w m v j : Nat} {d : PyData} (h : Bd k n w d) (c : k ≤ j) (a : n ≤ m) (b : w ≤ v) : Bd j m v d := ⟨gd_mono c d h.g, Nat.le_trans h.dp a, Nat.le_trans h.wt b⟩
theorem Bd.shs {k n w : Nat} {d : PyData} (h : Bd k n w d) : Shs k n w d := ⟨(gd_lvs d h.g).1, h.dp, h.wt⟩
theorem Bd.shaped {k n w : Nat} {d : PyData} (h : Bd k n w d) (hn : n ≤ 64) : SeqAt.shaped d = true := by
  unfold SeqAt.shaped
  rw [(gd_lvs d h.g).2, decide_eq_true (Nat.le_trans h.dp hn)]
  rfl
theorem depA_mem {n : Nat} : ∀ {ds : List PyData} {d : PyData}, d ∈ ds → PyData.depthAll ds ≤ n → d.depth ≤ n
  | x :: xs, d, hd, h => by
    simp only [PyData.depthAll] at h
    rcases List.mem_cons.mp hd with rfl | hd
    · omega
    · exact depA_mem hd (by omega)
theorem weiA_mem : ∀ {ds : List PyData} {d : PyData}, d ∈ ds → d.weight + 1 ≤ PyData.weightAll ds
  | x :: xs, d, hd => by
    simp only [PyData.weightAll]
    rcases List.mem_cons.mp hd with rfl | hd
    · omega
    · have := weiA_mem hd
      omega
/-- the items of a list or tuple that is small enough -/
structure BdA (k n w : Nat) (ds : List PyData) : Prop where
  g : gdA k ds = true
  dp : PyData.depthAll ds ≤ n
  wt : PyData.weightAll ds ≤ w
theorem BdA.get {k n w : Nat} {ds : List PyData} (h : BdA k n w ds) {d : PyData} (hd : d ∈ ds) : Bd k n w d := ⟨gdA_all.mp h.g d hd, depA_mem hd h.dp, by have := weiA_mem hd; have := h.wt; omega⟩
theorem BdA.tup {k n w : Nat} {ds : List PyData} (h : BdA k n w ds) : Bd k (n + 1) w (.tuple ds) := ⟨by simpa only [gd] using h.g, by have := h.dp; simp only [PyData.depth]; omega, by simpa only [PyData.weight] using h.wt⟩
theorem BdA.lst {k n w : Nat} {ds : List PyData} (h : BdA k n w ds) : Bd k (n + 1) w (.list ds) := ⟨by simpa only [gd] using h.g, by have := h.dp; simp only [PyData.depth]; omega, by simpa only [PyData.weight] using h.wt⟩
theorem Bd.itemsT {k n w : Nat} {ds : List PyData} (h : Bd k n w (.tuple ds)) : 1 ≤ n ∧ BdA k (n - 1) w ds := by
  have := h.dp
  simp only [PyData.depth] at this
  exact ⟨by omega, ⟨by simpa only [gd] using h.g, by omega, by simpa only [PyData.weight] using h.wt⟩⟩
theorem Bd.itemsL {k n w : Nat} {ds : List PyData} (h : Bd k n w (.list ds)) : 1 ≤ n ∧ BdA k (n - 1) w ds := by
  have := h.dp
  simp only [PyData.depth] at this
  exact ⟨by omega, ⟨by simpa only [gd] using h.g, by omega, by simpa only [PyData.weight] using h.wt⟩⟩
theorem weiA_app : ∀ (xs ys : List PyData), PyData.weightAll (xs ++ ys) = PyData.weightAll xs + PyData.weightAll ys
  | [], ys => by simp [PyData.weightAll]
  | x :: xs, ys => by
    simp only [List.cons_append, PyData.weightAll, weiA_app xs ys]
    omega
theorem depA_app : ∀ (xs ys : List PyData), PyData.depthAll (xs ++ ys) = max (PyData.depthAll xs) (PyData.depthAll ys)
  | [], ys => by simp [PyData.depthAll]
  | x :: xs, ys => by
    simp only [List.cons_append, PyData.depthAll, depA_app xs ys]
    omega
theorem BdA.app {k n w m v : Nat} {xs ys : List PyData} (h : BdA k n w xs) (g : BdA k m v ys) : BdA k (max n m) (w + v) (xs ++ ys) := by
  refine ⟨gdA_all.mpr fun x hx => ?_, ?_, ?_⟩
  · rcases List.mem_append.mp hx with hx | hx
    · exact gdA_all.mp h.g x hx
    · exact gdA_all.mp g.g x hx
  · have := h.dp
    have := g.dp
    rw [depA_app]
    omega
  · have := h.wt
    have := g.wt
    rw [weiA_app]
    omega
theorem BdA.one {k n w : Nat} {x : PyData} (h : Bd k n w x) : BdA k n (w + 1) [x] := ⟨by simp only [gdA, h.g]; rfl, by have := h.dp; simp only [PyData.depthAll]; omega, by have := h.wt; simp only [PyData.weightAll]; omega⟩
/-- part of the items -/
theorem BdA.part {k n w : Nat} {xs ys zs : List PyData} (h : BdA k n w (xs ++ ys ++ zs)) : BdA k n (PyData.weightAll xs) xs ∧ BdA k n (PyData.weightAll ys) ys ∧ BdA k n (PyData.weightAll zs) zs ∧ PyData.weightAll xs + PyData.weightAll ys + PyData.weightAll zs ≤ w := by
  have a := h.dp
  have b := h.wt
  rw [depA_app, depA_app] at a
  rw [weiA_app, weiA_app] at b
  have c := gdA_all.mp h.g
  exact ⟨⟨gdA_all.mpr fun x hx => c x (List.mem_append_left _ (List.mem_append_left _ hx)), by omega, Nat.le_refl _⟩,
    ⟨gdA_all.mpr fun x hx => c x (List.mem_append_left _ (List.mem_append_right _ hx)), by omega, Nat.le_refl _⟩,
    ⟨gdA_all.mpr fun x hx => c x (List.mem_append_right _ hx), by omega, Nat.le_refl _⟩, b⟩
theorem BdA.mono {k n w m v j : Nat} {d : List PyData} (h : BdA k n w d) (c : k ≤ j) (a : n ≤ m) (b : w ≤ v) : BdA j m v d := ⟨gdA_mono c d h.g, Nat.le_trans h.dp a, Nat.le_trans h.wt b⟩
/-- repr(x) of any thing -/
def rReprX (K : PySem.W.Frag) : List V → Hp → VK → Prop := fun xs H Q => ∃ v d, xs = [v] ∧ Dp K H v d ∧ Sho d ∧ Q (.str d.shown) H
theorem cr_reprX {X : Cx} (hg : X.A.guards = some []) (hu : X.A.units + 65 < cLine) : CallR X (.builtin "repr") (rReprX X.K) := by
  intro pins s σ H vs us Q I r h
  obtain ⟨v, d, rfl, hd, sh, q⟩ := h
  cases hd with
  | non =>
    obtain ⟨u, rfl, r1⟩ := vals1 r
    cases r1
    exact PySem.P.repr_of_none ⟨.str _, H, I.tok _, ⟨_, rfl⟩, q⟩
  | bl b =>
    obtain ⟨u, rfl, r1⟩ := vals1 r
    cases r1
    exact PySem.P.repr_of_bool ⟨.str _, H, I.tok _, ⟨_, rfl⟩, by cases b <;> exact q⟩
  | int i =>
    obtain ⟨u, rfl, t, rfl⟩ := vals1 r
    have hs := sh.s
    simp only [PyData.showable] at hs
    exact PySem.P.repr_of_int (of_decide_eq_true hs) ⟨.str _, H, I.tok _, ⟨_, rfl⟩, q⟩
  | str z =>
    obtain ⟨u, rfl, t, rfl⟩ := vals1 r
    exact PySem.P.repr_of_str ⟨.str _, H, I.tok _, ⟨_, rfl⟩, q⟩ sh.len
  | lst h1 h2 => exact cr_repr hg hu pins s σ H _ us Q I r ⟨_, _, rfl, .lst h1 h2, sh, q⟩
  | tup h1 h2 => exact cr_repr hg hu pins s σ H _ us Q I r ⟨_, _, rfl, .tup h1 h2, sh, q⟩
/-! things, standing away from some lists -/
mutual
inductive Tg (p : Addr → Prop) (H : Hp) : V → PyData → Prop
  | non : Tg p H .non .none
  | bl (b : Bool) : Tg p H (.bl b) (.bool b)
  | int (i : Int) : Tg p H (.int i) (.int i)
  | str (x : Str) : Tg p H (.str x) (.str x)
  | lst {a : Addr} {xs : List V} {ds : List PyData} : ¬ p a → H a = some (.lst xs) → TgA p H xs ds → Tg p H (.ref a) (.list ds)
  | tup {a : Addr} {xs : List V} {ds : List PyData} : ¬ p a → H a = some (.tup xs) → TgA p H xs ds → Tg p H (.ref a) (.tuple ds)
inductive TgA (p : Addr → Prop) (H : Hp) : List V → List PyData → Prop
  | nil : TgA p H [] []
  | cons {v : V} {vs : List V} {d : PyData} {ds : List PyData} : Tg p H v d → TgA p H vs ds → TgA p H (v :: vs) (d :: ds)
end
mutual
theorem Tg.to {p q : Addr → Prop} {H H' : Hp} (s : ∀ a o, ¬ p a → H a = some o → H' a = some o ∧ ¬ q a) : ∀ (d : PyData) (v : V), Tg p H v d → Tg q H' v d
  | .none, _, h => by cases h; exact .non
  | .bool b, _, h => by cases h; exact .bl b
  | .int i, _, h => by cases h; exact .int i
  | .str x, _, h => by cases h; exact .str x
  | .list ds, _, h => by
    cases h with
    | lst n e t => exact .lst (s _ _ n e).2 (s _ _ n e).1 (TgA.to s ds _ t)
  | .tuple ds, _, h => by
    cases h with
    | tup n e t => exact .tup (s _ _ n e).2 (s _ _ n e).1 (TgA.to s ds _ t)
  | .dict _, _, h => by cases h
theorem TgA.to {p q : Addr → Prop} {H H' : Hp} (s : ∀ a o, ¬ p a → H a = some o → H' a = some o ∧ ¬ q a) : ∀ (ds : List PyData) (vs : List V), TgA p H vs ds → TgA q H' vs ds
  | [], _, h => by cases h; exact .nil
  | d :: ds, _, h => by
    cases h with
    | cons a b => exact .cons (Tg.to s d _ a) (TgA.to s ds _ b)
end
theorem Tg.keep {p : Addr → Prop} {H H' : Hp} {v : V} {d : PyData} (h : Tg p H v d) (s : ∀ a o, ¬ p a → H a = some o → H' a = some o) : Tg p H' v d := h.to fun a o n e => ⟨s a o n e, n⟩
theorem TgA.keep {p : Addr → Prop} {H H' : Hp} {v : List V} {d : List PyData} (h : TgA p H v d) (s : ∀ a o, ¬ p a → H a = some o → H' a = some o) : TgA p H' v d := h.to fun a o n e => ⟨s a o n e, n⟩
theorem Tg.but {l : Addr} {H H' : Hp} {v : V} {d : PyData} (h : Tg (· = l) H v d) (s : But l H H') : Tg (· = l) H' v d := h.keep s
theorem Tg.same {p : Addr → Prop} {H H' : Hp} {v : V} {d : PyData} (h : Tg p H v d) (s : Same H H') : Tg p H' v d := h.keep fun a o _ e => s a o e
theorem TgA.same {p : Addr → Prop} {H H' : Hp} {v : List V} {d : List PyData} (h : TgA p H v d) (s : Same H H') : TgA p H' v d := h.keep fun a o _ e => s a o e
theorem TgA.but {l : Addr} {H H' : Hp} {v : List V} {d : List PyData} (h : TgA (· = l) H v d) (s : But l H H') : TgA (· = l) H' v d := h.keep s
/-- away from a list that is new -/
theorem Tg.new {p : Addr → Prop} {l : Addr} {H : Hp} {v : V} {d : PyData} {o : HO} (h : Tg p H v d) (n : H l = none) : Tg (· = l) (upd H l o) v d := h.to fun a x _ e => ⟨same_upd n a x e, ne_of_none e n⟩
mutual
theorem Tg.dp {K : PySem.W.Frag} {p : Addr → Prop} {H : Hp} : ∀ (d : PyData) (v : V), Tg p H v d → Dp K H v d
  | .none, _, h => by cases h; exact .non
  | .bool b, _, h => by cases h; exact .bl b
  | .int i, _, h => by cases h; exact .int i
  | .str x, _, h => by cases h; exact .str x
  | .list ds, _, h => by
    cases h with
    | lst n e t => exact .lst (SqL.mk e) (TgA.dp ds _ t)
  | .tuple ds, _, h => by
    cases h with
    | tup n e t => exact .tup (SqT.mk e) (TgA.dp ds _ t)
  | .dict _, _, h => by cases h
theorem TgA.dp {K : PySem.W.Frag} {p : Addr → Prop} {H : Hp} : ∀ (ds : List PyData) (vs : List V), TgA p H vs ds → DpAll K H vs ds
  | [], _, h => by cases h; exact .nil
  | d :: ds, _, h => by
    cases h with
    | cons a b => exact .cons (Tg.dp d _ a) (TgA.dp ds _ b)
end
theorem TgA.len {p : Addr → Prop} {H : Hp} : ∀ {ds : List PyData} {vs : List V}, TgA p H vs ds → vs.length = ds.length
  | [], _, h => by cases h; rfl
  | d :: ds, _, h => by
    cases h with
    | cons a b => rw [List.length_cons, List.length_cons, TgA.len b]
theorem TgA.get {p : Addr → Prop} {H : Hp} : ∀ {ds : List PyData} {vs : List V}, TgA p H vs ds → ∀ {i : Nat} {v : V}, vs[i]? = some v → ∃ d, ds[i]? = some d ∧ Tg p H v d
  | [], _, h, i, v, e => by cases h; cases e
  | d :: ds, _, h, i, v, e => by
    cases h with
    | cons a b =>
      cases i with
      | zero => cases e; exact ⟨d, rfl, a⟩
      | succ i => exact TgA.get b (by simpa using e)
theorem TgA.app {p : Addr → Prop} {H : Hp} {ds es : List PyData} {vs us : List V} (h : TgA p H vs ds) (g : TgA p H us es) : TgA p H (vs ++ us) (ds ++ es) := by
  induction ds generalizing vs with
  | nil => cases h; exact g
  | cons d ds ih =>
    cases h with
    | cons a b => exact .cons a (ih b)
theorem TgA.split {p : Addr → Prop} {H : Hp} : ∀ {ds : List PyData} {vs : List V}, TgA p H vs ds → ∀ i : Nat, TgA p H (vs.take i) (ds.take i) ∧ TgA p H (vs.drop i) (ds.drop i)
  | [], _, h, i => by cases h; simp only [List.take_nil, List.drop_nil]; exact ⟨.nil, .nil⟩
  | d :: ds, _, h, i => by
    cases h with
    | cons a b =>
      cases i with
      | zero => exact ⟨.nil, .cons a b⟩
      | succ i => exact ⟨.cons a (TgA.split b i).1, (TgA.split b i).2⟩
def isIntD : PyData → Bool
  | .int _ => true
  | _ => false
def isBlD : PyData → Bool
  | .bool _ => true
  | _ => false
def isStrD : PyData → Bool
  | .str _ => true
  | _ => false
def isTupD : PyData → Bool
  | .tuple _ => true
  | _ => false
def isLstD : PyData → Bool
  | .list _ => true
  | _ => false
theorem kit2 {K : PySem.W.Frag} {t : String} {a b : Bool} (h1 : kitB t "tuple" = some a) (h2 : kitB t "list" = some b) : PySem.W.kitAny K (.type t) [.type "tuple", .type "list"] = some (a || b) :=
  kitAny_cons (kit_ty h1) (fun e => by subst e; exact kitAny_cons (r := b) (kit_ty h2) (fun e => by subst e; exact kitAny_nil) (fun e => e)) (fun e => by rw [e]; rfl)
theorem Tg.ty {K : PySem.W.Frag} {p : Addr → Prop} {H : Hp} {v : V} {d : PyData} (h : Tg p H v d) : ∃ t, TyX K H v t ∧ PySem.W.kitOne K t (.type "int") = some (isIntD d || isBlD d) ∧ PySem.W.kitOne K t (.type "bool") = some (isBlD d) ∧ PySem.W.kitOne K t (.type "tuple") = some (isTupD d) ∧
    PySem.W.kitOne K t (.type "str") = some (isStrD d) ∧ PySem.W.kitAny K t [.type "tuple", .type "list"] = some (isTupD d || isLstD d) := by
  cases h with
  | non => exact ⟨_, .base .non, kit_ty (by show _ = some false; decide +kernel), kit_ty (by show _ = some false; decide +kernel), kit_ty (by show _ = some false; decide +kernel), kit_ty (by show _ = some false; decide +kernel), kit2 (a := false) (b := false) (by decide +kernel) (by decide +kernel)⟩
  | bl b => exact ⟨_, .base (.bl b), kit_ty (by show _ = some true; decide +kernel), kit_ty (by show _ = some true; decide +kernel), kit_ty (by show _ = some false; decide +kernel), kit_ty (by show _ = some false; decide +kernel), kit2 (a := false) (b := false) (by decide +kernel) (by decide +kernel)⟩
  | int b => exact ⟨_, .base (.int b), kit_ty (by show _ = some true; decide +kernel), kit_ty (by show _ = some false; decide +kernel), kit_ty (by show _ = some false; decide +kernel), kit_ty (by show _ = some false; decide +kernel), kit2 (a := false) (b := false) (by decide +kernel) (by decide +kernel)⟩
  | str b => exact ⟨_, .base (.str b), kit_ty (by show _ = some false; decide +kernel), kit_ty (by show _ = some false; decide +kernel), kit_ty (by show _ = some false; decide +kernel), kit_ty (by show _ = some true; decide +kernel), kit2 (a := false) (b := false) (by decide +kernel) (by decide +kernel)⟩
  | lst ne h => exact ⟨_, .base (.lst h), kit_ty (by show _ = some false; decide +kernel), kit_ty (by show _ = some false; decide +kernel), kit_ty (by show _ = some false; decide +kernel), kit_ty (by show _ = some false; decide +kernel), kit2 (a := false) (b := true) (by decide +kernel) (by decide +kernel)⟩
  | tup ne h => exact ⟨_, .base (.tup h), kit_ty (by show _ = some false; decide +kernel), kit_ty (by show _ = some false; decide +kernel), kit_ty (by show _ = some true; decide +kernel), kit_ty (by show _ = some false; decide +kernel), kit2 (a := true) (b := false) (by decide +kernel) (by decide +kernel)⟩
def sp_is_number (K : PySem.W.Frag) : Sp := fun vs H Q _ => ∃ (p : Addr → Prop) (x : V) (d : PyData), vs = [x] ∧ Tg p H x d ∧ Q (.bl (isIntD d)) H
theorem ok_is_number (T : Defs K mg) (TT : Tabs T base) : FnOk P w K mg base CX0 1 T.f_is_number T.fd_is_number ["thing"] (sp_is_number K) := by
  refine T.F_is_number.ok sc_is_number (fun vs H Q E h => ?_) (fun cdv A outer s H vs Q E hr h => ?_)
  · obtain ⟨p, x, d, rfl, hx, q⟩ := h
    rfl
  · obtain ⟨p, x, d, rfl, hx, q⟩ := h
    refine ⟨_, PSs.nox (pss_one (ps_ret (pe_and (pe_callB call_isi (by rfl) T.m_isinstance bt_isinstance (pa_cons (pv 0) (pa_cons (pe_bltn (v := .ty "int") (by rfl) T.m_int bt_int rfl) pa_nil))) (pe_one (pe_not (pe_callB call_isi (by rfl) T.m_isinstance bt_isinstance (pa_cons (pv 0) (pa_cons (pe_bltn (v := .ty "bool") (by rfl) T.m_bool bt_bool rfl) pa_nil)))))))), ?_⟩
    obtain ⟨t, ty, ki, kb, _⟩ := hx.ty (K := K)
    refine ⟨x, rfl, _, _, _, _, _, rfl, .ty "int", ty, ki, _, rfl, ?_⟩
    refine ite2 (fun e => ?_) (fun e => ?_)
    · refine ⟨x, rfl, _, _, _, _, _, rfl, .ty "bool", ty, kb, _, rfl, ?_⟩
      have ee : (!isBlD d) = isIntD d := by
        cases d <;> first | rfl | cases e
      rw [ee]
      exact q
    · have ee : isIntD d = false := by
        cases d <;> first | rfl | exact absurd rfl e
      rw [ee] at q
      exact q
def withinD (d : PyData) (lo hi : Int) : Bool := match d with
  | .int i => decide (lo ≤ i ∧ i ≤ hi)
  | _ => false
def sp_is_within (K : PySem.W.Frag) : Sp := fun vs H Q _ => ∃ (p : Addr → Prop) (x : V) (d : PyData) (lo hi : Int), vs = [x, .int lo, .int hi] ∧ Tg p H x d ∧ Q (.bl (withinD d lo hi)) H
theorem ok_is_within (T : Defs K mg) (TT : Tabs T base) : FnOk P w K mg base CX0 2 T.f_is_within T.fd_is_within ["thing", "least", "greatest"] (sp_is_within K) := by
  have G_is_number : FnOk P w K mg base CX0 1 T.f_is_number T.fd_is_number ["thing"] (sp_is_number K) := ok_is_number T TT
  refine T.F_is_within.ok sc_is_within (fun vs H Q E h => ?_) (fun cdv A outer s H vs Q E hr h => ?_)
  · obtain ⟨p, x, d, lo, hi, rfl, hx, q⟩ := h
    rfl
  · obtain ⟨p, x, d, lo, hi, rfl, hx, q⟩ := h
    refine ⟨_, PSs.nox (pss_one (ps_ret (pe_and (pe_call G_is_number (hr.mono (by decide)) (by rfl) T.g_is_number T.F_is_number.kp T.b_is_number .nil pass0 (pa_cons (pv 0) pa_nil)) (pe_one (pe_chain op_le op_le (pv 1) (pv 0) (pv 2)))))), ?_⟩
    refine ⟨x, rfl, p, x, d, rfl, hx, _, rfl, ?_⟩
    cases hx with
    | int i =>
      refine iteT ⟨_, rfl, _, rfl, _, _, rfl, rfl, _, rfl, ?_⟩
      by_cases z : lo ≤ i
      · rw [decide_eq_true z]
        refine iteT ⟨_, rfl, _, _, rfl, rfl, ?_⟩
        have e : decide (i ≤ hi) = withinD (.int i) lo hi := decide_eq_decide.mpr ⟨fun y => ⟨z, y⟩, fun y => y.2⟩
        show Q (.bl (decide (i ≤ hi))) H
        rw [e]
        exact q
      · rw [decide_eq_false z]
        refine iteF ?_
        have e : withinD (.int i) lo hi = false := decide_eq_false (fun y => z y.1)
        rw [e] at q
        exact q
    | _ => exact iteF q
/-! tuples joined, cut, repeated: one way on -/
def rCatS (_ : PySem.W.Frag) : R2 := fun x y H Q => ∃ a b xs ys, x = .ref a ∧ y = .ref b ∧ H a = some (.tup xs) ∧ H b = some (.tup ys) ∧ xs.length + ys.length ≤ sizeLine ∧ ∀ G c, Same H G → G c = some (.tup (xs ++ ys)) → Q (.ref c) G
theorem op_catS {X : Cx} : OpR X (binaryOp .Add) (rCatS X.K) := by
  intro pins s σ H x y v u Q I rx ry h
  obtain ⟨a, b, xs, ys, rfl, rfl, ha, hb, hz, q⟩ := h
  refine op_catA pins s σ H _ _ v u Q I rx ry ⟨a, b, xs, ys, rfl, rfl, SqT.mk ha, SqT.mk hb, hz, fun e => ?_, fun _ e => ?_, fun _ _ p np => ?_⟩
  · subst e
    exact q H b (Same.refl H) hb
  · subst e
    exact q H a (Same.refl H) (by rw [List.append_nil]; exact ha)
  · exact q _ p (same_upd np) upd_same
def rSlS (_ : PySem.W.Frag) : V → Option Int → Option Int → Hp → VK → Prop := fun x lo hi H Q => ∃ a xs, x = .ref a ∧ H a = some (.tup xs) ∧ ∀ G c, Same H G → G c = some (.tup (cutV xs lo hi)) → Q (.ref c) G
theorem sl_tupS {X : Cx} : SlR X (rSlS X.K) := by
  intro pins s σ H x v vl vu lo hi sl Q I rx hs pl pu h
  obtain ⟨a, xs, rfl, ha, q⟩ := h
  refine sl_tupA pins s σ H _ v vl vu lo hi sl Q I rx hs pl pu ⟨a, xs, rfl, SqT.mk ha, fun e => ?_, fun _ p np => ?_⟩
  · refine q H a (Same.refl H) ?_
    unfold cutV
    rw [e.1, e.2, List.drop_zero, Nat.sub_zero, List.take_length]
    exact ha
  · exact q _ p (same_upd np) upd_same
def rRepS (_ : PySem.W.Frag) : R2 := fun x y H Q => ∃ (l : Addr) (k : Nat) (v : V), x = .ref l ∧ y = .int (k : Nat) ∧ H l = some (.tup [v]) ∧ k ≤ 1000000 ∧ ∀ G c, Same H G → G c = some (.tup (List.replicate k v)) → Q (.ref c) G
theorem rep_flat {α : Type} (v : α) : ∀ k : Nat, (List.replicate k [v]).flatten = List.replicate k v
  | 0 => rfl
  | k + 1 => by rw [List.replicate_succ, List.flatten_cons, rep_flat v k, List.replicate_succ]; rfl
theorem op_repS {X : Cx} : OpR X (binaryOp .Mult) (rRepS X.K) := by
  intro pins s σ H x y v u Q I rx ry h
  obtain ⟨l, k, z, rfl, rfl, hl, hk, q⟩ := h
  refine op_repB pins s σ H _ _ v u Q I rx ry ⟨l, k, [z], rfl, rfl, SqT.mk hl, by simp, by simpa using hk, fun e => ?_, fun _ p np => ?_⟩
  · refine q H l (Same.refl H) ?_
    rw [e]
    exact hl
  · refine q _ p (same_upd np) ?_
    rw [rep_flat]
    exact upd_same
theorem cut_lo (xs : List V) (m : Nat) (h : m ≤ xs.length) : cutV xs none (some (m : Nat)) = xs.take m := by
  unfold cutV
  show (xs.drop 0).take _ = _
  rw [HT.sIx_nat, List.drop_zero, show HT.sIx xs.length 0 none = 0 from rfl, Nat.sub_zero, Nat.min_eq_left h]
theorem cut_hi (xs : List V) (m : Nat) : cutV xs (some (m : Nat)) none = xs.drop m := by
  unfold cutV
  rw [HT.sIx_nat, show HT.sIx xs.length xs.length none = xs.length from rfl]
  by_cases h : m ≤ xs.length
  · rw [Nat.min_eq_left h]
    exact List.take_of_length_le (by rw [List.length_drop]; exact Nat.le_refl _)
  · rw [Nat.min_eq_right (by omega), List.drop_of_length_le (Nat.le_refl _), List.drop_of_length_le (by omega), List.take_nil]
/-! str(x) of any thing -/
def strD (d : PyData) : Str := match d with
  | .str z => z
  | d => d.shown
def rStrX (K : PySem.W.Frag) : List V → Hp → VK → Prop := fun xs H Q => ∃ v d, xs = [v] ∧ Dp K H v d ∧ ((∃ z, d = .str z) ∨ Sho d) ∧ Q (.str (strD d)) H
theorem u70g {k : Nat} {A : Around} (r : Room k A) : A.units + 70 < cLine := by
  have := r.un
  omega
theorem call_strX {X : Cx} (hg : X.A.guards = some []) (hu : X.A.units + 70 < cLine) : CallR X (.type "str") (rStrX X.K) := by
  intro pins s σ H vs us Q I r h
  obtain ⟨v, d, rfl, hd, sh, q⟩ := h
  cases hd with
  | non =>
    obtain ⟨u, rfl, r1⟩ := vals1 r
    cases r1
    exact PySem.P.str_of_none ⟨.str _, H, I.tok _, ⟨_, rfl⟩, q⟩
  | bl b =>
    obtain ⟨u, rfl, r1⟩ := vals1 r
    cases r1
    exact PySem.P.str_of_bool ⟨.str _, H, I.tok _, ⟨_, rfl⟩, by cases b <;> exact q⟩
  | int i =>
    obtain ⟨u, rfl, t, rfl⟩ := vals1 r
    rcases sh with ⟨z, e⟩ | sh
    · cases e
    have hs := sh.s
    simp only [PyData.showable] at hs
    exact PySem.P.str_of_int (of_decide_eq_true hs) ⟨.str _, H, I.tok _, ⟨_, rfl⟩, q⟩
  | str z =>
    obtain ⟨u, rfl, t, rfl⟩ := vals1 r
    exact PySem.P.str_of_str ⟨.str _, H, I, ⟨_, rfl⟩, q⟩
  | lst h1 h2 =>
    rcases sh with ⟨z, e⟩ | sh
    · cases e
    obtain ⟨shs, nd, dd, sz⟩ := sh
    rw [Vals.ref1 r]
    obtain ⟨as, rd⟩ := Dp.reads I _ (.ref _) (.ref _) (Dp.lst h1 h2) rfl
    refine str_of_reads rd shs (fun z => by rw [nd] at z; cases z) hg (by omega) (fun _ _ e => e) (fun h' u tk hk => ?_) sz
    exact ⟨.str _, H, I.kept (t' := tk) hk, ⟨_, rfl⟩, q⟩
  | tup h1 h2 =>
    rcases sh with ⟨z, e⟩ | sh
    · cases e
    obtain ⟨shs, nd, dd, sz⟩ := sh
    rw [Vals.ref1 r]
    obtain ⟨as, rd⟩ := Dp.reads I _ (.ref _) (.ref _) (Dp.tup h1 h2) rfl
    refine str_of_reads rd shs (fun z => by rw [nd] at z; cases z) hg (by omega) (fun _ _ e => e) (fun h' u tk hk => ?_) sz
    exact ⟨.str _, H, I.kept (t' := tk) hk, ⟨_, rfl⟩, q⟩
/-! things with tables about -/
mutual
theorem Tg.kp {p q : Addr → Prop} {H H' : Hp} (s1 : ∀ a xs, ¬ p a → H a = some (.lst xs) → H' a = some (.lst xs) ∧ ¬ q a) (s2 : ∀ a xs, ¬ p a → H a = some (.tup xs) → H' a = some (.tup xs) ∧ ¬ q a) : ∀ (d : PyData) (v : V), Tg p H v d → Tg q H' v d
  | .none, _, h => by cases h; exact .non
  | .bool b, _, h => by cases h; exact .bl b
  | .int i, _, h => by cases h; exact .int i
  | .str x, _, h => by cases h; exact .str x
  | .list ds, _, h => by
    cases h with
    | lst n e t => exact .lst (s1 _ _ n e).2 (s1 _ _ n e).1 (TgA.kp s1 s2 ds _ t)
  | .tuple ds, _, h => by
    cases h with
    | tup n e t => exact .tup (s2 _ _ n e).2 (s2 _ _ n e).1 (TgA.kp s1 s2 ds _ t)
  | .dict _, _, h => by cases h
theorem TgA.kp {p q : Addr → Prop} {H H' : Hp} (s1 : ∀ a xs, ¬ p a → H a = some (.lst xs) → H' a = some (.lst xs) ∧ ¬ q a) (s2 : ∀ a xs, ¬ p a → H a = some (.tup xs) → H' a = some (.tup xs) ∧ ¬ q a) : ∀ (ds : List PyData) (vs : List V), TgA p H vs ds → TgA q H' vs ds
  | [], _, h => by cases h; exact .nil
  | d :: ds, _, h => by
    cases h with
    | cons a b => exact .cons (Tg.kp s1 s2 d _ a) (TgA.kp s1 s2 ds _ b)
end
theorem Tg.sam {p : Addr → Prop} {H H' : Hp} {v : V} {d : PyData} (h : Tg p H v d) (s : Sam H H') : Tg p H' v d := h.kp (fun a xs n e => ⟨s.lst e, n⟩) (fun a xs n e => ⟨s.tup e, n⟩)
theorem TgA.sam {p : Addr → Prop} {H H' : Hp} {v : List V} {d : List PyData} (h : TgA p H v d) (s : Sam H H') : TgA p H' v d := h.kp (fun a xs n e => ⟨s.lst e, n⟩) (fun a xs n e => ⟨s.tup e, n⟩)
theorem tg_ints {p : Addr → Prop} {H : Hp} : ∀ rs : List Int, TgA p H (rs.map V.int) (rs.map PyData.int)
  | [] => .nil
  | x :: rs => .cons (.int x) (tg_ints rs)
theorem at_menuV {Pr : V → Prop} {xs : List V} {r : Int} (h0 : 0 ≤ r) (h1 : r < xs.length) (hx : ∀ x, x ∈ xs → Pr x) : ∃ v, atI xs r = some v ∧ Pr v := by
  obtain ⟨j, rfl⟩ := Int.eq_ofNat_of_zero_le h0
  have hj : j < xs.length := by omega
  exact ⟨xs[j], atI_nat (List.getElem?_eq_getElem hj), hx _ (List.getElem_mem hj)⟩
/-- a call of a def whose promise holds where no text is being made -/
theorem pe_callG {X : Cx} {CX : CXT} {lv : Nat} {fa : Addr} {fdt : FuncData} {prs : List Str} {pr : Sp} {EE : XK} {nm : Str} {p0 p1 : Pos} {a1 : Expr} {as : List Expr} {ta : TA} {us0 : List Value} {vs0 : List V}
    (none_ : X.A.guards = some []) (G : GOk X.prog X.w X.K X.mg X.base CX lv fa fdt prs pr) (room : Room lv X.A) (gl : Gl X nm) (md : X.mg nm = some (.ref fa)) (kp : PySem.W.keepIn X.K (.ref fa) = true) (bs : Binds X.K fdt prs us0) (rl : Vals vs0 us0) (ps : Passes CX X EE)
    (ar : PA X (a1 :: as) ta) (nd : (nm == ("__debug__" : Str)) = false := by decide) (st : starEach (a1 :: as) X.env = (false, eval a1 X.env) :: starEach as X.env := by rfl) (pl : (backTo p1 (starEach as X.env)).any (·.1) = false := by rfl) :
    PE X (.Call (.Name nm p0) (a1 :: as) [] p1) (tCall pr vs0 EE ta) := by
  constructor
  intro pins s0 σ0 H0 Q0 I0 hh
  have go : ∀ (us : List Value) (s1 : Shared) (vs : List V) (H1 : Hp), Inv X pins σ0 H1 s1 → Vals vs us → pr (vs ++ vs0) H1 Q0 EE → wpAny (model X.prog X.w) X.A (call (.ref fa) us) (EP X pins σ0 Q0) X.xe s1 := fun us s1 vs H1 J rv hp => by
    have both_ : Vals (vs ++ vs0) (us ++ us0) := rv.append rl
    have lns : (us ++ us0).length = prs.length := both_.length.symm.trans (G.len _ _ _ _ hp)
    have body := G.run X.A X.stack s1 H1 ⟨us, []⟩ (us ++ us0) (vs ++ vs0) Q0 EE none_ room J.env0 (bs s1 us J.kIn lns) both_ hp
    refine wpAny_call (codeAny_mono body fun res s2 hres => ?_)
    match res, hres with
    | .ok (.ret u), hres => exact J.after hres
    | .ok .next, hres => exact hres.elim
    | .ok .brk, hres => exact hres.elim
    | .ok .cont, hres => exact hres.elim
    | .error er, hres => exact ps pins σ0 H1 s1 er s2 J hres
  refine wpAny_Call_Name_kw (ld_glob I0 gl md ?_ nd)
  exact PySem.W.callWith_K (h₀ := X.base) I0.ok.mod.kin kp (thn (ar.run p1 pins s0 σ0 H0 _ I0 hh) fun us s1 ⟨vs, H1, J, rv, hp⟩ => ⟨J.kIn, go us s1 vs H1 J rv hp⟩) st pl
/-! k03: what a row is, and what is none -/
def isRowD (d : PyData) : Bool := match d with
  | .tuple ds => decide (1 ≤ ds.length ∧ ds.length ≤ 4096) && ds.all fun x => withinD x 0 1
  | _ => false
def sp_is_bit (K : PySem.W.Frag) : Sp := fun vs H Q _ => ∃ (p : Addr → Prop) (x : V) (d : PyData), vs = [x] ∧ Tg p H x d ∧ Q (.bl (withinD d 0 1)) H
theorem ok_is_bit (T : Defs K mg) (TT : Tabs T base) : FnOk P w K mg base CX0 3 T.f_is_bit T.fd_is_bit ["thing"] (sp_is_bit K) := by
  have G_is_within : FnOk P w K mg base CX0 2 T.f_is_within T.fd_is_within ["thing", "least", "greatest"] (sp_is_within K) := ok_is_within T TT
  refine T.F_is_bit.ok sc_is_bit (fun vs H Q E h => ?_) (fun cdv A outer s H vs Q E hr h => ?_)
  · obtain ⟨p, x, d, rfl, hx, q⟩ := h
    rfl
  · obtain ⟨p, x, d, rfl, hx, q⟩ := h
    refine ⟨_, PSs.nox (pss_one (ps_ret (pe_call G_is_within (hr.mono (by decide)) (by rfl) T.g_is_within T.F_is_within.kp T.b_is_within .nil pass0 (pa_cons (pv 0) (pa_cons pe_int (pa_cons pe_int pa_nil)))))), ?_⟩
    exact ⟨x, rfl, p, x, d, 0, 1, rfl, hx, q⟩
theorem all_take {α : Type} (f : α → Bool) (xs : List α) (i : Nat) (x : α) (h : xs[i]? = some x) (a : ∀ j y, j < i → xs[j]? = some y → f y = true) (b : f x = true) : ∀ j y, j < i + 1 → xs[j]? = some y → f y = true := fun j y hj e => by
  by_cases z : j < i
  · exact a j y z e
  · obtain rfl : j = i := by omega
    rw [h] at e
    cases e
    exact b
theorem all_of_get {α : Type} (f : α → Bool) (xs : List α) (h : ∀ j y, j < xs.length → xs[j]? = some y → f y = true) : xs.all f = true := List.all_eq_true.mpr fun x hx => by
  obtain ⟨i, e⟩ := List.getElem?_of_mem hx
  exact h i x (List.getElem?_eq_some_iff.mp e).1 e
theorem not_all {α : Type} (f : α → Bool) (xs : List α) {i : Nat} {x : α} (h : xs[i]? = some x) (b : f x = false) : xs.all f = false := by
  cases e : xs.all f
  · rfl
  · rw [List.all_eq_true.mp e x (List.mem_of_getElem? h)] at b
    cases b
def sp_is_row {K : PySem.W.Frag} {mg : Str → Option Value} (T : Defs K mg) : Sp := fun vs H Q _ => ∃ (p : Addr → Prop) (v : V) (d : PyData), vs = [v] ∧ Tg p H v d ∧ GxR.TabG H T.P_is_row ∧ ∀ H', Sam H H' → Q (.bl (isRowD d)) H'
theorem ok_is_row (T : Defs K mg) (TT : Tabs T base) : FnOk P w K mg base CX0 5 T.f_is_row T.fd_is_row ["thing"] (sp_is_row T) := by
  have G_is_bit : FnOk P w K mg base CX0 3 T.f_is_bit T.fd_is_bit ["thing"] (sp_is_bit K) := ok_is_bit T TT
  refine okC T.F_is_row T.k_is_row sc_is_row (fun vs H Q E h => ?_) (fun A outer s H vs Q E hr h => ?_)
  · obtain ⟨p, v, d, rfl, hv, tab, q⟩ := h
    rfl
  · obtain ⟨p, v, d, rfl, hv, tab, q⟩ := h
    refine ⟨_, PSs.nox (pss_cons (ps_if (PW.pt (pw_or (pt_not (pt_val (pe_callB call_isi (by rfl) T.m_isinstance bt_isinstance (pa_cons (pv 0) (pa_cons (pe_bltn (v := .ty "tuple") (by rfl) T.m_tuple bt_tuple rfl) pa_nil))))) (pw_or1 (pt_not (pt_chain op_le op_le pe_int (pe_callB call_len_seq (by rfl) T.m_len bt_len (pa_cons (pv 0) pa_nil)) (pe_globI (by rfl) T.i_LONGEST)))))) (pss_one (ps_ret pe_bl)) pss_nil)
    (pss_one (ps_ret (pe_allE (k := 3) (own := [("bit", 1)]) (g := gName 1) (tt := tYes) (hr.mono (by decide)) (by rfl) T.m_all bt_all rfl sc_is_row.nd TT.t_is_row rfl (genOk_by (N := N_is_row) (sc := defScope s_is_row) (own := [("bit", 1)]) (by decide +kernel) rfl (by decide +kernel) rfl) (pi_tup (pv 0)) (fun _ _ _ _ _ hr => (pg_name (i := 1) sc_is_row.nd rfl (.inl rfl))) (fun _ _ _ _ _ hr => pts_nil) (fun _ _ _ _ _ hr => (pe_call G_is_bit (hr.mono (by decide)) (by rfl) T.g_is_bit T.F_is_bit.kp T.b_is_bit .nil pass0 (pa_cons (pv 1) pa_nil))))))), ?_⟩
    have hsl : sizeLine = 16777216 := by decide
    obtain ⟨t, ty, -, -, kt, -, -⟩ := hv.ty (K := K)
    refine ⟨v, rfl, _, _, _, _, _, rfl, .ty "tuple", ty, kt, _, rfl, ?_⟩
    cases hv with
    | tup np ha hxs =>
      rename_i a xs ds
      have ln := hxs.len
      refine iteF ⟨.ref a, rfl, a, _, rfl, .inr (SqT.mk ha), _, _, rfl, rfl, _, rfl, ?_⟩
      have no : ¬ (1 ≤ ds.length ∧ ds.length ≤ 4096) → isRowD (.tuple ds) = false := fun z => by
        show (decide (1 ≤ ds.length ∧ ds.length ≤ 4096) && _) = false
        rw [decide_eq_false z]
        rfl
      by_cases c1 : (1 : Int) ≤ (xs.length : Nat)
      · rw [decide_eq_true c1]
        refine iteT ⟨_, _, rfl, rfl, _, rfl, ?_⟩
        by_cases c2 : ((xs.length : Nat) : Int) ≤ 4096
        · rw [decide_eq_true c2]
          refine iteF ?_
          refine ⟨.ref a, rfl, a, rfl, ⟨_, SqT.mk ha⟩, tab, fun H2 tb => ?_⟩
          have s2 := Sam.tabbed tab tb
          refine ga_it (walk_tup (xs := xs)) (fun i H3 => Sam H H3 ∧ ∀ j y, j < i → ds[j]? = some y → withinD y 0 1 = true) ⟨s2, fun j y hj => absurd hj (Nat.not_lt_zero j)⟩ (fun i H3 _ h => SqT.mk (h.1.tup ha)) ?_ ?_
          · rintro i x H3 H4 hi ⟨s3, hb⟩ ⟨rfl, hx⟩
            obtain ⟨e, he, tx⟩ := hxs.get hx
            refine ⟨rfl, yes_ite ?_⟩
            refine ⟨x, rfl, p, x, e, rfl, tx.sam s3, ⟨withinD e 0 1, rfl, fun z => ?_⟩, fun z => ⟨s3, all_take _ ds i e he hb (by injection z)⟩⟩
            have r : isRowD (.tuple ds) = false := by
              show (_ && ds.all fun x => withinD x 0 1) = false
              rw [not_all _ ds he z, Bool.and_false]
            rw [r] at q
            exact q _ s3
          · rintro H3 ⟨s3, hb⟩
            have r : isRowD (.tuple ds) = true := by
              show (decide (1 ≤ ds.length ∧ ds.length ≤ 4096) && ds.all fun x => withinD x 0 1) = true
              rw [decide_eq_true (by omega), all_of_get _ ds fun j y hj e => hb j y (by omega) e]
              rfl
            rw [r] at q
            exact q _ s3
        · rw [decide_eq_false c2]
          rw [no (by omega)] at q
          exact iteT (q _ (Sam.refl _))
      · rw [decide_eq_false c1]
        rw [no (by omega)] at q
        exact iteF ⟨_, rfl, iteT (q _ (Sam.refl _))⟩
    | _ => exact iteT (iteT (q _ (Sam.refl _)))
/-! k03: other things -/
def Okd (d : PyData) : Prop := (∃ z, d = .str z) ∨ Bd 25 8 20000 d
theorem bits_bd {rs : List Int} (hb : Bits rs) : BdA 25 0 (2 * rs.length) (rs.map PyData.int) := by
  induction rs with
  | nil => exact ⟨rfl, Nat.le_refl _, Nat.le_refl _⟩
  | cons x rs ih =>
    have h := ih fun y hy => hb y (List.mem_cons_of_mem _ hy)
    have one : BdA 25 0 2 [PyData.int x] := by
      rcases hb x List.mem_cons_self with rfl | rfl
      · exact ⟨by decide +kernel, by decide +kernel, by decide +kernel⟩
      · exact ⟨by decide +kernel, by decide +kernel, by decide +kernel⟩
    have := one.app h
    rw [List.map_cons, List.length_cons]
    exact this.mono (Nat.le_refl _) (Nat.le_refl _) (by omega)
theorem noughts_bd (n : Nat) : BdA 25 0 n (List.replicate n (PyData.int 0)) := by
  induction n with
  | zero => exact ⟨rfl, Nat.le_refl _, Nat.le_refl _⟩
  | succ n ih =>
    have one : BdA 25 0 1 [PyData.int 0] := ⟨by decide +kernel, by decide +kernel, by decide +kernel⟩
    have := one.app ih
    rw [List.replicate_succ]
    exact this.mono (Nat.le_refl _) (Nat.le_refl _) (by omega)
def oddD : List PyData := [.int (2), .int (-1), .bool true, .bool false, .str "0", .none, .tuple [], .tuple [.int (1)], .int (10 ^ Int.toNat 20), .str "1", .list [], .list [.int (1)], .list [.list [.int (0)]], .tuple [.list []]]
theorem odd_bd : BdA 25 3 200 oddD := ⟨by decide +kernel, by decide +kernel, by decide +kernel⟩
theorem tg_reps {p : Addr → Prop} {H : Hp} (n : Nat) : TgA p H (List.replicate n (V.int 0)) (List.replicate n (PyData.int 0)) := by
  induction n with
  | zero => exact .nil
  | succ n ih => exact .cons (.int 0) ih
def sp__law_otherwise (_ : PySem.W.Frag) : Sp := fun vs H Q _ => ∃ (p : Addr) (n : Nat) (a : Addr) (rs : List Int), vs = [.ref p, .ref a] ∧ Bx H p n ∧ H a = some (.tup (rs.map V.int)) ∧ Bits rs ∧ 1 ≤ rs.length ∧ rs.length ≤ 4096 ∧ n < 1000000 ∧
  ∀ H' v d, But p H H' → Bx H' p (n + 10) → Tg (fun q => q = p) H' v d → Okd d → Q v H'
theorem bd_ofA {k n w : Nat} {ds : List PyData} (h : BdA k n w ds) (hk : k ≤ 25) (hn : n ≤ 7) (hw : w ≤ 20000) : Okd (.tuple ds) ∧ Okd (.list ds) := ⟨.inr (h.tup.mono hk (by omega) hw), .inr (h.lst.mono hk (by omega) hw)⟩
theorem ok__law_otherwise (T : Defs K mg) (TT : Tabs T base) : GOk P w K mg base CX0 2 T.f__law_otherwise T.fd__law_otherwise ["_law_box_here", "_law_row_here"] (sp__law_otherwise K) := by
  have G__law_take : FnOk P w K mg base CX0 1 T.f__law_take T.fd__law_take ["_law_box_here", "_law_many"] (sp__law_take K) := ok__law_take T TT
  refine gok_of T.F__law_otherwise sc__law_otherwise (fun vs H Q E h => ?_) (fun cdv A outer s H vs Q E hg hr h => ?_)
  · obtain ⟨p, n, a, rs, rfl, hB, ha, hb, h1, h2, hn, q⟩ := h
    rfl
  · obtain ⟨p, n, a, rs, rfl, hB, ha, hb, h1, h2, hn, q⟩ := h
    refine ⟨_, PSs.nox (pss_cons (ps_par (i := 2) (j := 3) (by rfl) sc__law_otherwise.nd rfl rfl (by decide) rfl rfl (pa_cons (pe_call G__law_take (hr.mono (by decide)) (by rfl) T.g__law_take T.F__law_take.kp T.b__law_take .nil pass0 (pa_cons (pv 0) (pa_cons pe_int pa_nil))) (pa_cons (pe_call G__law_take (hr.mono (by decide)) (by rfl) T.g__law_take T.F__law_take.kp T.b__law_take .nil pass0 (pa_cons (pv 0) (pa_cons (pe_callB call_len_seq (by rfl) T.m_len bt_len (pa_cons (pv 1) pa_nil)) pa_nil))) pa_nil)) (by rfl))
    (pss_cons (ps_if (pt_cmpR op_eq (pv 2) pe_int (nomark _)) (pss_one (ps_ret (pe_ix ix_list (pe_lst (pa_cons (pe_callTy call_list_of (by rfl) T.m_list bt_list (pa_cons (pv 1) pa_nil)) (pa_cons (pe_tup (pa_cons (pv 1) pa_nil)) (pa_cons (pe_tup pa_nil) (pa_cons (pe_op op_catS (pv 1) (pe_op op_repS (pe_tup (pa_cons pe_int pa_nil)) (pe_op op_sub pe_int (pe_callB call_len_seq (by rfl) T.m_len bt_len (pa_cons (pv 1) pa_nil))))) (pa_cons (pe_callTy (call_strX hg (u70g hr)) (by rfl) T.m_str bt_str (pa_cons (pv 1) pa_nil)) (pa_cons pe_non pa_nil))))))) (pe_call G__law_take (hr.mono (by decide)) (by rfl) T.g__law_take T.F__law_take.kp T.b__law_take .nil pass0 (pa_cons (pv 0) (pa_cons pe_int pa_nil))) (fun _ _ => rfl)))) pss_nil)
    (pss_cons (ps_set (i := 4) sc__law_otherwise.nd rfl (.inl rfl) (pe_ix ix_list (pe_lst (pa_cons pe_int (pa_cons (pe_un un_neg pe_int) (pa_cons pe_bl (pa_cons pe_bl (pa_cons pe_str (pa_cons pe_non (pa_cons (pe_tup pa_nil) (pa_cons (pe_tup (pa_cons pe_int pa_nil)) (pa_cons (pe_op op_pow pe_int pe_int) (pa_cons pe_str (pa_cons (pe_lst pa_nil) (pa_cons (pe_lst (pa_cons pe_int pa_nil)) (pa_cons (pe_lst (pa_cons (pe_lst (pa_cons pe_int pa_nil)) pa_nil)) (pa_cons (pe_tup (pa_cons (pe_lst pa_nil) pa_nil)) pa_nil))))))))))))))) (pe_call G__law_take (hr.mono (by decide)) (by rfl) T.g__law_take T.F__law_take.kp T.b__law_take .nil pass0 (pa_cons (pv 0) (pa_cons pe_int pa_nil))) (fun _ _ => rfl)))
    (pss_one (ps_ret (pe_ifExp (pt_cmpR op_lt (pv 2) pe_int (nomark _)) (pe_op op_catS (pe_op op_catS (pe_slice sl_tupS (pv 1) po_none (po_some (pv 3))) (pe_tup (pa_cons (pv 4) pa_nil))) (pe_slice sl_tupS (pv 1) (po_some (pe_op op_add (pv 3) pe_int)) po_none)) (pe_op op_catS (pe_op op_catS (pe_slice sl_tupS (pv 1) po_none (po_some (pv 3))) (pe_tup (pa_cons (pv 4) pa_nil))) (pe_slice sl_tupS (pv 1) (po_some (pv 3)) po_none)))))))), ?_⟩
    have hsl : sizeLine = 16777216 := by decide
    refine ⟨.ref p, rfl, p, 6, n, rfl, hB, by decide, by decide, by omega, fun H1 way b1 B1 l1 u1 => ?_⟩
    have ha1 := b1 _ _ (hB.ne_tup ha) ha
    refine ⟨.ref p, rfl, .ref a, rfl, a, _, rfl, .inr (SqT.mk ha1), p, rs.length, n + 1, by rw [List.length_map]; rfl, B1, by omega, by omega, by omega, fun H2 at_ b2 B2 l2 u2 => ?_⟩
    have ha2 := b2 _ _ (B1.ne_tup ha1) ha1
    have b12 := b1.trans b2
    have ta : ∀ G, G a = some (.tup (rs.map V.int)) → ∀ m, Bx G p m → Tg (fun q => q = p) G (.ref a) (.tuple (rs.map PyData.int)) := fun G h m B => .tup (B.ne_tup h) h (tg_ints rs)
    have rb := bits_bd hb
    refine ⟨_, _, rfl, ?_⟩
    refine ⟨.int way, rfl, rfl, _, rfl, ite2 (fun _ => ?_) (fun _ => ?_)⟩
    · refine ⟨.ref a, rfl, a, _, rfl, .inr (SqT.mk ha2), fun t1 n1 => ?_⟩
      have s1 := same_upd n1 (o := .lst (rs.map V.int))
      have k1 : Tg (fun q => q = p) (upd H2 t1 (.lst (rs.map V.int))) (.ref t1) (.list (rs.map PyData.int)) := .lst (ne_new B2 n1) upd_same (tg_ints rs)
      have x1 := B2.same s1
      have ha3 := s1 _ _ ha2
      generalize upd H2 t1 (.lst (rs.map V.int)) = G1 at s1 k1 x1 ha3 ⊢
      refine ⟨.ref a, rfl, (show 1 ≤ sizeLine by decide), fun t2 n2 => ?_⟩
      have s2 := same_upd n2 (o := .tup [.ref a])
      have k2 : Tg (fun q => q = p) (upd G1 t2 (.tup [.ref a])) (.ref t2) (.tuple [.tuple (rs.map PyData.int)]) := .tup (ne_new x1 n2) upd_same (.cons ((ta G1 ha3 _ x1).same s2) .nil)
      have x2 := x1.same s2
      have ha4 := s2 _ _ ha3
      generalize upd G1 t2 (.tup [.ref a]) = G2 at s2 k2 x2 ha4 ⊢
      refine ⟨Nat.zero_le _, fun t3 n3 => ?_⟩
      have s3 := same_upd n3 (o := .tup [])
      have k3 : Tg (fun q => q = p) (upd G2 t3 (.tup [])) (.ref t3) (.tuple []) := .tup (ne_new x2 n3) upd_same .nil
      have x3 := x2.same s3
      have ha5 := s3 _ _ ha4
      generalize upd G2 t3 (.tup []) = G3 at s3 k3 x3 ha5 ⊢
      refine ⟨.ref a, rfl, (show 1 ≤ sizeLine by decide), fun t4 n4 => ?_⟩
      have s4 := same_upd n4 (o := .tup [.int 0])
      have h4 := upd_same (H := G3) (a := t4) (o := .tup [.int 0])
      have x4 := x3.same s4
      have ha6 := s4 _ _ ha5
      generalize upd G3 t4 (.tup [.int 0]) = G4 at s4 h4 x4 ha6 ⊢
      refine ⟨.ref a, rfl, a, _, rfl, .inr (SqT.mk ha6), _, _, rfl, rfl, ?_⟩
      refine ⟨t4, 4097 - rs.length, .int 0, rfl, by rw [List.length_map]; show V.int _ = V.int _; congr 1; omega, h4, by omega, fun G5 t5 s5 h5 => ?_⟩
      refine ⟨a, t5, _, _, rfl, rfl, s5 _ _ ha6, h5, by rw [List.length_map, List.length_replicate]; omega, fun G6 t6 s6 h6 => ?_⟩
      have x6 := (x4.same s5).same s6
      have k6 : Tg (fun q => q = p) G6 (.ref t6) (.tuple (rs.map PyData.int ++ List.replicate (4097 - rs.length) (PyData.int 0))) := .tup (x6.ne_tup h6) h6 ((tg_ints rs).app (tg_reps _))
      have m36 := s4.trans (s5.trans s6)
      have ha7 := m36 _ _ ha5
      have sh : Sho (.tuple (rs.map PyData.int)) := rb.tup.shs.sho (by decide) (by decide) (by decide) (by omega)
      refine ⟨.ref a, rfl, .ref a, _, rfl, (ta G6 ha7 _ x6).dp, .inr sh, ?_⟩
      generalize strD (.tuple (rs.map PyData.int)) = txt
      refine ⟨(show 6 ≤ sizeLine by decide), fun l nl => ?_⟩
      have sl := same_upd nl (o := .lst [.ref t1, .ref t2, .ref t3, .ref t6, .str txt, .non])
      have hl := upd_same (H := G6) (a := l) (o := .lst [.ref t1, .ref t2, .ref t3, .ref t6, .str txt, .non])
      have xl := x6.same sl
      have nel := ne_new x6 nl
      have k6' := k6.same sl
      have k3' := (k3.same m36).same sl
      have k2' := ((k2.same s3).same m36).same sl
      have k1' := (((k1.same s2).same s3).same m36).same sl
      have bl : But p H (upd G6 l (.lst [.ref t1, .ref t2, .ref t3, .ref t6, .str txt, .non])) := b12.trans (same_but (s1.trans (s2.trans (s3.trans (m36.trans sl)))))
      generalize upd G6 l (.lst [.ref t1, .ref t2, .ref t3, .ref t6, .str txt, .non]) = G7 at sl hl xl k6' k3' k2' k1' bl ⊢
      refine ⟨.ref p, rfl, p, 6, _, rfl, xl, by decide, by decide, by omega, fun G8 r b8 B8 l8 u8 => ?_⟩
      obtain ⟨w, hw, dw, kw, ow⟩ := at_menuV (Pr := fun v => ∃ d, Tg (fun q => q = p) G7 v d ∧ Okd d) (xs := [.ref t1, .ref t2, .ref t3, .ref t6, .str txt, .non]) l8 u8 (fun x hx => by
        simp only [List.mem_cons, List.not_mem_nil, or_false] at hx
        rcases hx with rfl | rfl | rfl | rfl | rfl | rfl
        · exact ⟨_, k1', (bd_ofA rb (by decide) (by decide) (by omega)).2⟩
        · exact ⟨_, k2', (bd_ofA (BdA.one rb.tup) (by decide) (by decide) (by omega)).1⟩
        · exact ⟨_, k3', .inr ⟨by decide +kernel, by decide +kernel, by decide +kernel⟩⟩
        · exact ⟨_, k6', (bd_ofA (rb.app (noughts_bd _)) (by decide) (by decide) (by omega)).1⟩
        · exact ⟨_, .str _, .inl ⟨_, rfl⟩⟩
        · exact ⟨_, .non, .inr ⟨by decide +kernel, by decide +kernel, by decide +kernel⟩⟩)
      exact ⟨l, _, r, w, rfl, rfl, SqL.mk (b8 _ _ nel hl), hw, q G8 w dw (bl.trans b8) (B8.mono (by omega)) (kw.but b8) ow⟩
    have H3 := H2
    refine ⟨_, rfl, Nat.zero_le _, fun tx1 nx1 => ?_⟩
    have sx1 := same_upd nx1 (o := .tup [])
    have kx1 : Tg (fun q => q = p) (upd H2 tx1 (.tup [])) (.ref tx1) (.tuple []) := .tup (ne_new B2 nx1) upd_same .nil
    have bx1 := B2.same sx1
    generalize upd H2 tx1 (.tup []) = Kx1 at sx1 kx1 bx1 ⊢
    refine ⟨(show 1 ≤ sizeLine by decide), fun tx2 nx2 => ?_⟩
    have sx2 := same_upd nx2 (o := .tup [.int (1)])
    have kx2 : Tg (fun q => q = p) (upd Kx1 tx2 (.tup [.int (1)])) (.ref tx2) (.tuple [.int (1)]) := .tup (ne_new bx1 nx2) upd_same (.cons (.int _) .nil)
    have bx2 := bx1.same sx2
    generalize upd Kx1 tx2 (.tup [.int (1)]) = Kx2 at sx2 kx2 bx2 ⊢
    refine ⟨_, _, rfl, rfl, ⟨by decide, by decide, by decide⟩, Nat.zero_le _, fun tx3 nx3 => ?_⟩
    have sx3 := same_upd nx3 (o := .lst [])
    have kx3 : Tg (fun q => q = p) (upd Kx2 tx3 (.lst [])) (.ref tx3) (.list []) := .lst (ne_new bx2 nx3) upd_same .nil
    have bx3 := bx2.same sx3
    generalize upd Kx2 tx3 (.lst []) = Kx3 at sx3 kx3 bx3 ⊢
    refine ⟨(show 1 ≤ sizeLine by decide), fun tx4 nx4 => ?_⟩
    have sx4 := same_upd nx4 (o := .lst [.int (1)])
    have kx4 : Tg (fun q => q = p) (upd Kx3 tx4 (.lst [.int (1)])) (.ref tx4) (.list [.int (1)]) := .lst (ne_new bx3 nx4) upd_same (.cons (.int _) .nil)
    have bx4 := bx3.same sx4
    generalize upd Kx3 tx4 (.lst [.int (1)]) = Kx4 at sx4 kx4 bx4 ⊢
    refine ⟨(show 1 ≤ sizeLine by decide), fun tx5 nx5 => ?_⟩
    have sx5 := same_upd nx5 (o := .lst [.int (0)])
    have kx5 : Tg (fun q => q = p) (upd Kx4 tx5 (.lst [.int (0)])) (.ref tx5) (.list [.int (0)]) := .lst (ne_new bx4 nx5) upd_same (.cons (.int _) .nil)
    have bx5 := bx4.same sx5
    generalize upd Kx4 tx5 (.lst [.int (0)]) = Kx5 at sx5 kx5 bx5 ⊢
    refine ⟨(show 1 ≤ sizeLine by decide), fun tx6 nx6 => ?_⟩
    have sx6 := same_upd nx6 (o := .lst [.ref tx5])
    have kx6 : Tg (fun q => q = p) (upd Kx5 tx6 (.lst [.ref tx5])) (.ref tx6) (.list [.list [.int (0)]]) := .lst (ne_new bx5 nx6) upd_same (.cons (kx5.same sx6) .nil)
    have bx6 := bx5.same sx6
    generalize upd Kx5 tx6 (.lst [.ref tx5]) = Kx6 at sx6 kx6 bx6 ⊢
    refine ⟨Nat.zero_le _, fun tx7 nx7 => ?_⟩
    have sx7 := same_upd nx7 (o := .lst [])
    have kx7 : Tg (fun q => q = p) (upd Kx6 tx7 (.lst [])) (.ref tx7) (.list []) := .lst (ne_new bx6 nx7) upd_same .nil
    have bx7 := bx6.same sx7
    generalize upd Kx6 tx7 (.lst []) = Kx7 at sx7 kx7 bx7 ⊢
    refine ⟨(show 1 ≤ sizeLine by decide), fun tx8 nx8 => ?_⟩
    have sx8 := same_upd nx8 (o := .tup [.ref tx7])
    have kx8 : Tg (fun q => q = p) (upd Kx7 tx8 (.tup [.ref tx7])) (.ref tx8) (.tuple [.list []]) := .tup (ne_new bx7 nx8) upd_same (.cons (kx7.same sx8) .nil)
    have bx8 := bx7.same sx8
    generalize upd Kx7 tx8 (.tup [.ref tx7]) = Kx8 at sx8 kx8 bx8 ⊢
    refine ⟨(show 14 ≤ sizeLine by decide), fun l nl => ?_⟩
    have sl := same_upd nl (o := .lst [.int (2), .int (-1), .bl true, .bl false, .str "0", .non, .ref tx1, .ref tx2, .int (10 ^ Int.toNat 20), .str "1", .ref tx3, .ref tx4, .ref tx6, .ref tx8])
    have kl : TgA (fun q => q = p) (upd Kx8 l (.lst [.int (2), .int (-1), .bl true, .bl false, .str "0", .non, .ref tx1, .ref tx2, .int (10 ^ Int.toNat 20), .str "1", .ref tx3, .ref tx4, .ref tx6, .ref tx8])) [.int (2), .int (-1), .bl true, .bl false, .str "0", .non, .ref tx1, .ref tx2, .int (10 ^ Int.toNat 20), .str "1", .ref tx3, .ref tx4, .ref tx6, .ref tx8] [.int (2), .int (-1), .bool true, .bool false, .str "0", .none, .tuple [], .tuple [.int (1)], .int (10 ^ Int.toNat 20), .str "1", .list [], .list [.int (1)], .list [.list [.int (0)]], .tuple [.list []]] := (.cons (.int _) (.cons (.int _) (.cons (.bl _) (.cons (.bl _) (.cons (.str _) (.cons .non (.cons ((((((((kx1.same sx2).same sx3).same sx4).same sx5).same sx6).same sx7).same sx8).same sl) (.cons (((((((kx2.same sx3).same sx4).same sx5).same sx6).same sx7).same sx8).same sl) (.cons (.int _) (.cons (.str _) (.cons ((((((kx3.same sx4).same sx5).same sx6).same sx7).same sx8).same sl) (.cons (((((kx4.same sx5).same sx6).same sx7).same sx8).same sl) (.cons (((kx6.same sx7).same sx8).same sl) (.cons (kx8.same sl) .nil))))))))))))))
    have bl := bx8.same sl
    have hl := upd_same (H := Kx8) (a := l) (o := .lst [.int (2), .int (-1), .bl true, .bl false, .str "0", .non, .ref tx1, .ref tx2, .int (10 ^ Int.toNat 20), .str "1", .ref tx3, .ref tx4, .ref tx6, .ref tx8])
    have nel := ne_new bx8 nl
    have ml : Same H2 (upd Kx8 l (.lst [.int (2), .int (-1), .bl true, .bl false, .str "0", .non, .ref tx1, .ref tx2, .int (10 ^ Int.toNat 20), .str "1", .ref tx3, .ref tx4, .ref tx6, .ref tx8])) := sx1.trans (sx2.trans (sx3.trans (sx4.trans (sx5.trans (sx6.trans (sx7.trans (sx8.trans (sl))))))))
    try dsimp only
    generalize upd Kx8 l (.lst [.int (2), .int (-1), .bl true, .bl false, .str "0", .non, .ref tx1, .ref tx2, .int (10 ^ Int.toNat 20), .str "1", .ref tx3, .ref tx4, .ref tx6, .ref tx8]) = Hl at kl bl hl ml ⊢
    refine ⟨.ref p, rfl, p, 14, _, rfl, bl, by decide, by decide, by omega, fun G8 r b8 B8 l8 u8 => ?_⟩
    have hak := b8 _ _ (bl.ne_tup (ml _ _ ha2)) (ml _ _ ha2)
    obtain ⟨w, hw, dw, kw, ow⟩ := at_menuV (Pr := fun v => ∃ d, Tg (fun q => q = p) Hl v d ∧ Bd 25 3 200 d) (xs := [.int (2), .int (-1), .bl true, .bl false, .str "0", .non, .ref tx1, .ref tx2, .int (10 ^ Int.toNat 20), .str "1", .ref tx3, .ref tx4, .ref tx6, .ref tx8]) l8 u8 (fun x hx => by
      obtain ⟨i, e⟩ := List.getElem?_of_mem hx
      obtain ⟨d, h1, h2⟩ := kl.get e
      exact ⟨d, h2, odd_bd.get (List.mem_of_getElem? h1)⟩)
    refine ⟨l, _, r, w, rfl, rfl, SqL.mk (b8 _ _ nel hl), hw, ?_⟩
    have bx : But p H G8 := b12.trans ((same_but ml).trans b8)
    have kw8 := kw.but b8
    obtain ⟨m, rfl⟩ := nat_of l2
    have ml2 : m < rs.length := by omega
    refine ⟨.int way, rfl, _, _, rfl, rfl, _, rfl, ?_⟩
    have fin : ∀ (j : Nat) (G : Hp) (c : Addr), Same G8 G → G c = some (.tup ((rs.map V.int).take m ++ [w] ++ (rs.map V.int).drop j)) → Q (.ref c) G := fun j G c s h => by
      have xG := B8.same s
      refine q G _ (.tuple ((rs.map PyData.int).take m ++ [dw] ++ (rs.map PyData.int).drop j)) (bx.trans (same_but s)) (xG.mono (by omega)) (.tup (xG.ne_tup h) h ((((tg_ints rs).split m).1.app (.cons (kw8.same s) .nil)).app ((tg_ints rs).split j).2)) ?_
      have r1 : BdA 25 0 (2 * rs.length) ((rs.map PyData.int).take m) := by
        rw [← List.map_take]
        exact (bits_bd fun x hx => hb x (List.mem_of_mem_take hx)).mono (Nat.le_refl _) (Nat.le_refl _) (by rw [List.length_take]; omega)
      have r2 : BdA 25 0 (2 * rs.length) ((rs.map PyData.int).drop j) := by
        rw [← List.map_drop]
        exact (bits_bd fun x hx => hb x (List.mem_of_mem_drop hx)).mono (Nat.le_refl _) (Nat.le_refl _) (by rw [List.length_drop]; omega)
      exact (bd_ofA ((r1.app (BdA.one ow)).app r2) (by decide) (by decide) (by omega)).1
    refine ite2 (fun _ => ?_) (fun _ => ?_)
    · refine ⟨.ref a, rfl, .int (m : Nat), rfl, (m : Nat), rfl, a, _, rfl, hak, fun G1 c1 s1 h1 => ?_⟩
      rw [cut_lo _ _ (by rw [List.length_map]; omega)] at h1
      refine ⟨w, rfl, (show 1 ≤ sizeLine by decide), fun t2 n2 => ?_⟩
      have s2 := same_upd n2 (o := .tup [w])
      refine ⟨c1, t2, _, _, rfl, rfl, s2 _ _ h1, upd_same, by rw [List.length_take, List.length_map, List.length_singleton]; omega, fun G3 c3 s3 h3 => ?_⟩
      have s13 := s1.trans (s2.trans s3)
      refine ⟨.ref a, rfl, .int (m : Nat), rfl, _, _, rfl, rfl, ((m + 1 : Nat) : Int), rfl, a, _, rfl, s13 _ _ hak, fun G4 c4 s4 h4 => ?_⟩
      rw [cut_hi] at h4
      refine ⟨c3, c4, _, _, rfl, rfl, s4 _ _ h3, h4, by rw [List.length_append, List.length_take, List.length_drop, List.length_map, List.length_singleton]; omega, fun G5 c5 s5 h5 => fin (m + 1) G5 c5 (s13.trans (s4.trans s5)) h5⟩
    · refine ⟨.ref a, rfl, .int (m : Nat), rfl, (m : Nat), rfl, a, _, rfl, hak, fun G1 c1 s1 h1 => ?_⟩
      rw [cut_lo _ _ (by rw [List.length_map]; omega)] at h1
      refine ⟨w, rfl, (show 1 ≤ sizeLine by decide), fun t2 n2 => ?_⟩
      have s2 := same_upd n2 (o := .tup [w])
      refine ⟨c1, t2, _, _, rfl, rfl, s2 _ _ h1, upd_same, by rw [List.length_take, List.length_map, List.length_singleton]; omega, fun G3 c3 s3 h3 => ?_⟩
      have s13 := s1.trans (s2.trans s3)
      refine ⟨.ref a, rfl, .int (m : Nat), rfl, (m : Nat), rfl, a, _, rfl, s13 _ _ hak, fun G4 c4 s4 h4 => ?_⟩
      rw [cut_hi] at h4
      refine ⟨c3, c4, _, _, rfl, rfl, s4 _ _ h3, h4, by rw [List.length_append, List.length_take, List.length_drop, List.length_map, List.length_singleton]; omega, fun G5 c5 s5 h5 => fin m G5 c5 (s13.trans (s4.trans s5)) h5⟩
/-! k03: the law's own look -/
def sp__law_due (K : PySem.W.Frag) : Sp := fun vs H Q _ => ∃ (p : Addr → Prop) (v : V) (d : PyData), vs = [v] ∧ Tg p H v d ∧ Q (.bl (isRowD d)) H
theorem within_int {i : Int} : withinD (.int i) 0 1 = decide (0 ≤ i ∧ i ≤ 1) := rfl
theorem ok__law_due (T : Defs K mg) (TT : Tabs T base) : FnOk P w K mg base CX0 1 T.f__law_due T.fd__law_due ["_law_thing"] (sp__law_due K) := by
  refine T.F__law_due.ok sc__law_due (fun vs H Q E h => ?_) (fun cdv A outer s H vs Q E hr h => ?_)
  · obtain ⟨p, v, d, rfl, hv, q⟩ := h
    rfl
  · obtain ⟨p, v, d, rfl, hv, q⟩ := h
    refine ⟨_, PSs.nox (pss_cons (ps_if (PW.pt (pw_or (pt_not (pt_val (pe_callB call_isi (by rfl) T.m_isinstance bt_isinstance (pa_cons (pv 0) (pa_cons (pe_bltn (v := .ty "tuple") (by rfl) T.m_tuple bt_tuple rfl) pa_nil))))) (pw_or1 (pt_not (pt_chain op_lt op_lt pe_int (pe_callB call_len_seq (by rfl) T.m_len bt_len (pa_cons (pv 0) pa_nil)) pe_int))))) (pss_one (ps_ret pe_bl)) pss_nil)
    (pss_cons ((ps_for PassesOwn.never rfl (pi_tup (pv 0)) (pg_name (i := 1) sc__law_due.nd rfl (.inl rfl)) (pss_one (ps_if (PW.pt (pw_or (pt_not (pt_val (pe_callB call_isi (by rfl) T.m_isinstance bt_isinstance (pa_cons (pv 1) (pa_cons (pe_bltn (v := .ty "int") (by rfl) T.m_int bt_int rfl) pa_nil))))) (pw_or (pt_val (pe_callB call_isi (by rfl) T.m_isinstance bt_isinstance (pa_cons (pv 1) (pa_cons (pe_bltn (v := .ty "bool") (by rfl) T.m_bool bt_bool rfl) pa_nil)))) (pw_or (pt_cmpR op_lt (pv 1) pe_int (nomark _)) (pw_or1 (pt_cmpR op_gt (pv 1) pe_int (nomark _))))))) (pss_one (ps_ret pe_bl)) pss_nil))))
    (pss_one (ps_ret pe_bl)))), ?_⟩
    have hsl : sizeLine = 16777216 := by decide
    obtain ⟨t, ty, -, -, kt, -, -⟩ := hv.ty (K := K)
    refine ⟨v, rfl, _, _, _, _, _, rfl, .ty "tuple", ty, kt, _, rfl, ?_⟩
    cases hv with
    | tup np ha hxs =>
      rename_i a xs ds
      have ln := hxs.len
      have no : ¬ (1 ≤ ds.length ∧ ds.length ≤ 4096) → isRowD (.tuple ds) = false := fun z => by
        show (decide (1 ≤ ds.length ∧ ds.length ≤ 4096) && _) = false
        rw [decide_eq_false z]
        rfl
      refine iteF ⟨.ref a, rfl, a, _, rfl, .inr (SqT.mk ha), _, _, rfl, rfl, _, rfl, ?_⟩
      by_cases c1 : (0 : Int) < (xs.length : Nat)
      · rw [decide_eq_true c1]
        refine iteT ⟨_, _, rfl, rfl, _, rfl, ?_⟩
        by_cases c2 : ((xs.length : Nat) : Int) < 4097
        · rw [decide_eq_true c2]
          refine iteF ?_
          refine ⟨.ref a, rfl, a, rfl, ⟨_, SqT.mk ha⟩, ?_⟩
          refine for_it (walk_tup (xs := xs)) (fun i σ H3 => H3 = H ∧ (∃ y, σ = [some (.ref a), y]) ∧ ∀ j y, j < i → ds[j]? = some y → withinD y 0 1 = true) ⟨rfl, ⟨none, rfl⟩, fun j y hj => absurd hj (Nat.not_lt_zero j)⟩ ?_ ?_ ?_
          · rintro i σ H3 _ ⟨rfl, _⟩
            exact SqT.mk ha
          · rintro i x σ H3 H4 hi ⟨rfl, ⟨y, rfl⟩, hb⟩ ⟨rfl, hx⟩
            obtain ⟨e, he, tx⟩ := hxs.get hx
            obtain ⟨t1, ty1, ki, kb, -, -, -⟩ := tx.ty (K := K)
            have bad : withinD e 0 1 = false → isRowD (.tuple ds) = false := fun z => by
              show (_ && ds.all fun x => withinD x 0 1) = false
              rw [not_all _ ds he z, Bool.and_false]
            refine ⟨x, rfl, _, _, _, _, _, rfl, .ty "int", ty1, ki, _, rfl, ?_⟩
            cases tx with
            | int i0 =>
              refine iteF ⟨_, rfl, _, _, _, _, _, rfl, .ty "bool", ty1, kb, _, rfl, ?_⟩
              refine iteF ⟨_, rfl, _, _, rfl, rfl, _, rfl, ?_⟩
              by_cases l0 : i0 < 0
              · rw [decide_eq_true l0]
                rw [bad (decide_eq_false (by omega))] at q
                exact iteT (iteT q)
              · rw [decide_eq_false l0]
                refine iteF ⟨_, rfl, _, _, rfl, rfl, _, rfl, ?_⟩
                by_cases l1 : i0 > 1
                · have l2 : decide ((1 : Int) < i0) = true := decide_eq_true l1
                  rw [l2]
                  rw [bad (decide_eq_false (by omega))] at q
                  exact iteT q
                · have l2 : decide ((1 : Int) < i0) = false := decide_eq_false l1
                  rw [l2]
                  refine iteF ?_
                  exact ⟨rfl, ⟨_, rfl⟩, all_take _ ds i _ he hb (decide_eq_true (by omega))⟩
            | bl b =>
              refine iteF ⟨_, rfl, _, _, _, _, _, rfl, .ty "bool", ty1, kb, _, rfl, ?_⟩
              rw [bad rfl] at q
              exact iteT (iteT q)
            | _ =>
              rw [bad rfl] at q
              exact iteT (iteT q)
          · rintro σ H3 ⟨rfl, _, hb⟩
            have r : isRowD (.tuple ds) = true := by
              show (decide (1 ≤ ds.length ∧ ds.length ≤ 4096) && ds.all fun x => withinD x 0 1) = true
              rw [decide_eq_true (by omega), all_of_get _ ds fun j y hj e => hb j y (by omega) e]
              rfl
            rw [r] at q
            exact q
        · rw [decide_eq_false c2]
          rw [no (by omega)] at q
          exact iteT q
      · rw [decide_eq_false c1]
        rw [no (by omega)] at q
        exact iteF ⟨_, rfl, iteT q⟩
    | _ => exact iteT (iteT q)
theorem bits_sum {rs : List Int} (hb : Bits rs) : ((rs.filter fun x => decide (x = 1)).length : Int) = rs.sum := by
  induction rs with
  | nil => rfl
  | cons x rs ih =>
    have h := ih fun y hy => hb y (List.mem_cons_of_mem _ hy)
    rw [List.sum_cons, ← h]
    rcases hb x List.mem_cons_self with rfl | rfl
    · rw [List.filter_cons_of_neg (by decide)]
      omega
    · rw [List.filter_cons_of_pos (by decide), List.length_cons]
      omega
theorem cnt_first {c n b : Nat} (hn : 0 < n) (h : n ∣ c * b) : n / Nat.gcd c n ∣ b := by
  have hg : 0 < Nat.gcd c n := Nat.gcd_pos_of_pos_right c hn
  obtain ⟨x, hx⟩ := Nat.gcd_dvd_left c n
  obtain ⟨y, hy⟩ := Nat.gcd_dvd_right c n
  have ey : n / Nat.gcd c n = y := by
    conv => lhs; lhs; rw [hy]
    exact Nat.mul_div_cancel_left y hg
  have ex : c / Nat.gcd c n = x := by
    conv => lhs; lhs; rw [hx]
    exact Nat.mul_div_cancel_left x hg
  have co : Nat.Coprime y x := by
    have := Nat.coprime_div_gcd_div_gcd hg
    rw [ex, ey] at this
    exact this.symm
  rw [ey]
  refine co.dvd_of_dvd_mul_left (n := b) ?_
  have h2 : Nat.gcd c n * y ∣ Nat.gcd c n * (x * b) := by
    rw [← hy, ← Nat.mul_assoc, ← hx]
    exact h
  exact Nat.dvd_of_mul_dvd_mul_left hg h2
theorem cnt_there (c n : Nat) (hn : 0 < n) : n ∣ c * (n / Nat.gcd c n) ∧ n / Nat.gcd c n ∣ n ∧ c * (n / Nat.gcd c n) / n = c / Nat.gcd c n ∧ 0 < n / Nat.gcd c n := by
  have hg : 0 < Nat.gcd c n := Nat.gcd_pos_of_pos_right c hn
  have hle : Nat.gcd c n ≤ n := Nat.gcd_le_right c hn
  have e : c * (n / Nat.gcd c n) = n * (c / Nat.gcd c n) := by
    rw [← Nat.mul_div_assoc _ (Nat.gcd_dvd_right c n), Nat.mul_comm, Nat.mul_div_assoc _ (Nat.gcd_dvd_left c n)]
  exact ⟨⟨_, e⟩, Nat.div_dvd_of_dvd (Nat.gcd_dvd_right c n), by rw [e]; exact Nat.mul_div_cancel_left _ hn, Nat.div_pos hle hg⟩
theorem fr_nat (c n : Nat) (hn : 0 < n) : frT c n = ((c / Nat.gcd c n : Nat) : Int) ∧ frB c n = ((n / Nat.gcd c n : Nat) : Int) := by
  have e : Int.gcd (c : Int) (n : Int) = Nat.gcd c n := rfl
  constructor
  · unfold frT
    rw [e, Int.sign_eq_one_of_pos (by omega), Int.one_mul]
    rfl
  · unfold frB
    rw [e, Int.natAbs_natCast]
    rfl
def sp__law_counted (_ : PySem.W.Frag) : Sp := fun vs H Q _ => ∃ (a : Addr) (rs : List Int), vs = [.ref a] ∧ H a = some (.tup (rs.map V.int)) ∧ Bits rs ∧ 1 ≤ rs.length ∧ rs.length ≤ 4096 ∧
  ∀ H' t u, Same H H' → H' t = some (.tup [.int rs.sum, .ref u]) → H' u = some (.tup [.int (frT rs.sum rs.length), .int (frB rs.sum rs.length)]) → Q (.ref t) H'
theorem ok__law_counted (T : Defs K mg) (TT : Tabs T base) : FnOk P w K mg base CX0 1 T.f__law_counted T.fd__law_counted ["_law_row_here"] (sp__law_counted K) := by
  refine T.F__law_counted.ok sc__law_counted (fun vs H Q E h => ?_) (fun cdv A outer s H vs Q E hr h => ?_)
  · obtain ⟨a, rs, rfl, ha, hb, h1, h2, q⟩ := h
    rfl
  · obtain ⟨a, rs, rfl, ha, hb, h1, h2, q⟩ := h
    refine ⟨_, PSs.nox (pss_cons (ps_set (i := 1) sc__law_counted.nd rfl (.inl rfl) (pe_callB call_len_seq (by rfl) T.m_len bt_len (pa_cons (pe_lc (own := [("_law_bit", 3)]) (g := gName 3) rfl sc__law_counted.nd (pi_tup (pv 0)) (blkOk_by (N := N__law_counted) (sc := defScope s__law_counted) (by decide +kernel)) (fun _ _ _ _ _ => (pg_name (i := 3) sc__law_counted.nd rfl (.inl rfl))) (fun _ _ _ _ _ => pts_one (pt_cmpR op_eq (pv 3) pe_int (nomark _))) (fun _ _ _ _ _ => (pv 3))) pa_nil)))
    (pss_cons ((ps_for PassesOwn.never rfl (pi_range2 (by rfl) T.m_range (pa_cons pe_int (pa_cons (pe_op op_add (pe_callB call_len_seq (by rfl) T.m_len bt_len (pa_cons (pv 0) pa_nil)) pe_int) pa_nil))) (pg_name (i := 2) sc__law_counted.nd rfl (.inl rfl)) (pss_one (ps_if (PW.pt (pw_and (pt_cmpR op_eq (pe_op op_mod (pe_callB call_len_seq (by rfl) T.m_len bt_len (pa_cons (pv 0) pa_nil)) (pv 2)) pe_int (nomark _)) (pw_and1 (pt_cmpR op_eq (pe_op op_mod (pe_op op_mul (pv 1) (pv 2)) (pe_callB call_len_seq (by rfl) T.m_len bt_len (pa_cons (pv 0) pa_nil))) pe_int (nomark _))))) (pss_one (ps_ret (pe_tup (pa_cons (pv 1) (pa_cons (pe_tup (pa_cons (pe_op op_fdivN (pe_op op_mul (pv 1) (pv 2)) (pe_callB call_len_seq (by rfl) T.m_len bt_len (pa_cons (pv 0) pa_nil))) (pa_cons (pv 2) pa_nil))) pa_nil))))) pss_nil))))
    (pss_one (ps_ret pe_non)))), ?_⟩
    have hsl : sizeLine = 16777216 := by decide
    refine ⟨.ref a, rfl, a, rfl, ⟨_, SqT.mk ha⟩, fun D nD => ?_⟩
    refine lc_it (walk_tup (xs := rs.map V.int)) (fun i H3 => Same H H3 ∧ H3 D = some (.lst (((rs.take i).filter fun x => decide (x = 1)).map V.int))) ⟨same_upd nD, upd_same⟩ (fun i H3 _ h => SqT.mk (h.1 _ _ ha)) ?_ ?_
    · rintro i x H3 H4 hi ⟨s3, hD⟩ ⟨rfl, hx⟩
      rw [List.length_map] at hi
      have ex : x = .int rs[i] := by
        have hx : (rs.map V.int)[i]? = some x := hx
        rw [List.getElem?_map, List.getElem?_eq_getElem hi] at hx
        exact (Option.some.inj hx).symm
      subst ex
      have tk : rs.take (i + 1) = rs.take i ++ [rs[i]] := by
        rw [List.take_add_one, List.getElem?_eq_getElem hi]
        rfl
      have lf : ((rs.take i).filter fun x => decide (x = 1)).length ≤ rs.length := Nat.le_trans (List.length_filter_le _ _) (by rw [List.length_take]; omega)
      refine ⟨rfl, _, rfl, rfl, _, rfl, ?_⟩
      have e : decide (V.int rs[i] = V.int 1) = decide (rs[i] = 1) := decide_eq_decide.mpr ⟨V.int.inj, fun z => by rw [z]⟩
      rw [e]
      by_cases z : rs[i] = 1
      · rw [decide_eq_true z]
        refine iteT ⟨_, rfl, _, hD, by rw [List.length_map]; omega, same_newer s3 nD, ?_⟩
        rw [upd_same, tk, List.filter_append, List.filter_cons_of_pos (by rw [z]; rfl), List.map_append]
        rfl
      · rw [decide_eq_false z]
        refine iteF ⟨s3, ?_⟩
        rw [hD, tk, List.filter_append, List.filter_cons_of_neg (by rw [decide_eq_false z]; exact Bool.false_ne_true), List.filter_nil, List.append_nil]
    rintro H3 ⟨s3, hD⟩
    rw [List.length_map, List.take_length] at hD
    refine ⟨D, _, rfl, .inl (SqL.mk hD), ?_⟩
    rw [List.length_map]
    have hs := bits_sum hb
    generalize hc : (rs.filter fun x => decide (x = 1)).length = c at hs
    have lc : c ≤ rs.length := by rw [← hc]; exact List.length_filter_le _ _
    rw [← hs] at q
    clear hD hc
    have ha3 := s3 _ _ ha
    generalize hn : rs.length = n at *
    have n0 : 0 < n := h1
    obtain ⟨f1, f2⟩ := fr_nat c n n0
    obtain ⟨g1, g2, g3, g4⟩ := cnt_there c n n0
    have gle : n / Nat.gcd c n ≤ n := Nat.div_le_self _ _
    have ln : (rs.map V.int).length = n := by rw [List.length_map, hn]
    refine ⟨.ref a, rfl, a, _, rfl, .inr (SqT.mk ha3), _, _, rfl, rfl, ?_⟩
    rw [ln]
    refine ⟨1, ((n : Nat) : Int) + 1, rfl, ⟨by decide, by decide, by omega, by omega⟩, ?_⟩
    refine for_range (lo := 1) (n := (((n : Nat) : Int) + 1 - 1).toNat) (fun i σ H4 => H4 = H3 ∧ i < n / Nat.gcd c n ∧ ∃ y z, σ = [some (.ref a), some (.int (c : Nat)), y, z]) ⟨rfl, g4, none, none, rfl⟩ ?_ ?_
    · rintro i σ H4 hi ⟨rfl, hg, y, z, rfl⟩
      have hi2 : i < n := by omega
      refine ⟨.ref a, rfl, a, _, rfl, .inr (SqT.mk ha3), .int (1 + (i : Int)), rfl, _, _, rfl, rfl, (show (0 : Int) < 1 + (i : Int) by omega), rfl, _, rfl, ?_⟩
      rw [ln]
      have e1' : ((n : Nat) : Int) % (1 + (i : Int)) = ((n % (i + 1) : Nat) : Int) := by
        rw [Int.add_comm, Int.natCast_emod]
        rfl
      have e1 : decide (V.int (((n : Nat) : Int) % (1 + (i : Int))) = V.int 0) = decide (n % (i + 1) = 0) := by
        rw [e1']
        exact decide_eq_decide.mpr ⟨fun z => by have := V.int.inj z; omega, fun z => by rw [z]; rfl⟩
      rw [e1]
      have step : ¬ (i + 1 = n / Nat.gcd c n) → i + 1 < n / Nat.gcd c n := fun z => by omega
      by_cases c1 : n % (i + 1) = 0
      · rw [decide_eq_true c1]
        refine iteT ⟨.int (c : Nat), rfl, .int (1 + (i : Int)), rfl, _, _, rfl, rfl, .inl ⟨by omega, by omega⟩, .ref a, rfl, a, _, rfl, .inr (SqT.mk ha3), _, _, rfl, rfl, (by rw [ln]; show (0 : Int) < (n : Nat); omega), rfl, _, rfl, ?_⟩
        rw [ln]
        have e0 : ((c : Nat) : Int) * (1 + (i : Int)) = ((c * (i + 1) : Nat) : Int) := by rw [Int.natCast_mul, Int.natCast_add, Int.add_comm]; rfl
        rw [e0]
        have e2 : decide (V.int (((c * (i + 1) : Nat) : Int) % (n : Nat)) = V.int 0) = decide (c * (i + 1) % n = 0) := decide_eq_decide.mpr ⟨fun z => by have := V.int.inj z; omega, fun z => by congr 1; omega⟩
        rw [e2]
        by_cases c2 : c * (i + 1) % n = 0
        · rw [decide_eq_true c2]
          have le := Nat.le_of_dvd (Nat.succ_pos i) (cnt_first n0 (Nat.dvd_of_mod_eq_zero c2))
          have eb : i + 1 = n / Nat.gcd c n := by omega
          refine iteT ⟨.int (c : Nat), rfl, .int (c : Nat), rfl, .int (1 + (i : Int)), rfl, _, _, rfl, rfl, .inl ⟨by omega, by omega⟩, .ref a, rfl, a, _, rfl, .inr (SqT.mk ha3), _, _, rfl, rfl, ⟨by rw [ln]; omega, by rw [ln]; omega⟩, .int (1 + (i : Int)), rfl, (show 2 ≤ sizeLine by decide), fun u nu => ⟨(show 2 ≤ sizeLine by decide), fun t nt => ?_⟩⟩
          rw [ln, e0] at nt ⊢
          refine q _ t u (s3.trans ((same_upd nu).trans (same_upd nt))) upd_same ?_
          rw [upd_ne (ne_of_none upd_same nt), upd_same, f1, f2]
          have e3 : (((c * (i + 1) : Nat) : Int)).fdiv ((n : Nat) : Int) = ((c / Nat.gcd c n : Nat) : Int) := by
            rw [Int.fdiv_eq_ediv_of_nonneg _ (by omega), ← Int.natCast_ediv, eb, g3]
          have e4 : (1 + (i : Int)) = ((n / Nat.gcd c n : Nat) : Int) := by omega
          show some (HO.tup [V.int ((((c * (i + 1) : Nat) : Int)).fdiv ((n : Nat) : Int)), V.int (1 + (i : Int))]) = _
          rw [e3, e4]
        · rw [decide_eq_false c2]
          refine iteF ⟨rfl, step fun e => c2 ?_, _, _, rfl⟩
          rw [e]
          exact Nat.mod_eq_zero_of_dvd g1
      · rw [decide_eq_false c1]
        refine iteF (iteF ⟨rfl, step fun e => c1 ?_, _, _, rfl⟩)
        rw [e]
        exact Nat.mod_eq_zero_of_dvd g2
    · rintro σ H4 ⟨rfl, hg, _⟩
      omega
theorem row_is {rs : List Int} (hb : Bits rs) (h1 : 1 ≤ rs.length) (h2 : rs.length ≤ 4096) : isRowD (.tuple (rs.map PyData.int)) = true := by
  show (decide (1 ≤ (rs.map PyData.int).length ∧ (rs.map PyData.int).length ≤ 4096) && (rs.map PyData.int).all fun x => withinD x 0 1) = true
  rw [List.length_map, decide_eq_true ⟨h1, h2⟩, Bool.true_and, List.all_eq_true]
  intro x hx
  obtain ⟨y, hy, rfl⟩ := List.mem_map.mp hx
  show decide (0 ≤ y ∧ y ≤ 1) = true
  exact decide_eq_true (by rcases hb y hy with rfl | rfl <;> omega)
theorem fr_small {c n : Nat} (hc : c ≤ 4096) (hn : n ≤ 4096) (n0 : 0 < n) : (frT c n).natAbs < 10 ^ 12 ∧ (frB c n).natAbs < 10 ^ 12 := by
  obtain ⟨a, b⟩ := fr_nat c n n0
  have := Nat.div_le_self c (Nat.gcd c n)
  have := Nat.div_le_self n (Nat.gcd c n)
  rw [a, b, Int.natAbs_natCast, Int.natAbs_natCast]
  omega
theorem two_sho {s t b : Int} (h1 : s.natAbs < 10 ^ 12) (h2 : t.natAbs < 10 ^ 12) (h3 : b.natAbs < 10 ^ 12) : Sho (.tuple [.int s, .tuple [.int t, .int b]]) := by
  have a := (shs_all (k := 12) (n := 0) (w := 49) (ds := [.int t, .int b]) (fun d hd => by
    simp only [List.mem_cons, List.not_mem_nil, or_false] at hd
    rcases hd with rfl | rfl
    · exact shs_int h2
    · exact shs_int h3)).2
  have c := (shs_all (k := 12) (n := 1) (w := 100) (ds := [.int s, .tuple [.int t, .int b]]) (fun d hd => by
    simp only [List.mem_cons, List.not_mem_nil, or_false] at hd
    rcases hd with rfl | rfl
    · exact (shs_int h1).mono (by decide) (by decide)
    · exact a.mono (by decide) (show 2 * (49 + 1) ≤ 100 by decide))).2
  exact c.sho (by decide) (by decide) (by decide) (show (12 + 3) * (2 * (100 + 1)) ≤ 16000000 by decide)
theorem okd_sho {d : PyData} (h : Okd d) : (∃ z, d = .str z) ∨ Sho d := h.imp id fun b => b.shs.sho (by decide) (by decide) (by decide) (by decide)
theorem kBB : PySem.W.kitOne K (.type "bool") (.type "bool") = some true := kit_ty (by decide +kernel)
def sp_law {K : PySem.W.Frag} {mg : Str → Option Value} (T : Defs K mg) : Sp := fun vs H Q _ => ∃ (a : Addr) (ns : List Int), vs = [.ref a] ∧ SqL K H a (ns.map V.int) ∧ ns.length ≤ 63 ∧ (GxR.TabG H T.P_is_row ∧ True) ∧ ∀ H', Q (.bl true) H'
theorem ok_law (T : Defs K mg) (TT : Tabs T base) : GOk P w K mg base CX0 6 T.f_law T.fd_law ["_law_script"] (sp_law T) := by
  have G__law_folded : FnOk P w K mg base CX0 1 T.f__law_folded T.fd__law_folded ["_law_script", "_law_many"] (sp__law_folded K) := ok__law_folded T TT
  have G__law_box : FnOk P w K mg base CX0 1 T.f__law_box T.fd__law_box ["_law_script", "_law_k"] (sp__law_box K) := ok__law_box T TT
  have G__law_row : FnOk P w K mg base CX0 2 T.f__law_row T.fd__law_row ["_law_box_here", "_law_long_here"] (sp__law_row K) := ok__law_row T TT
  have G__law_long : FnOk P w K mg base CX0 2 T.f__law_long T.fd__law_long ["_law_box_here"] (sp__law_long K) := ok__law_long T TT
  have G__law_otherwise : GOk P w K mg base CX0 2 T.f__law_otherwise T.fd__law_otherwise ["_law_box_here", "_law_row_here"] (sp__law_otherwise K) := ok__law_otherwise T TT
  have G__law_take : FnOk P w K mg base CX0 1 T.f__law_take T.fd__law_take ["_law_box_here", "_law_many"] (sp__law_take K) := ok__law_take T TT
  have G_is_row : FnOk P w K mg base CX0 5 T.f_is_row T.fd_is_row ["thing"] (sp_is_row T) := ok_is_row T TT
  have G__law_counted : FnOk P w K mg base CX0 1 T.f__law_counted T.fd__law_counted ["_law_row_here"] (sp__law_counted K) := ok__law_counted T TT
  have G__law_due : FnOk P w K mg base CX0 1 T.f__law_due T.fd__law_due ["_law_thing"] (sp__law_due K) := ok__law_due T TT
  have G_ones : FnOk P w K mg base CX0 1 T.f_ones T.fd_ones ["row"] (sp_ones K) := ok_ones T TT
  have G_share_of : FnOk P w K mg base CX0 3 T.f_share_of T.fd_share_of ["row"] (sp_share_of K) := ok_share_of T TT
  refine gok_of T.F_law sc_law (fun vs H Q E h => ?_) (fun cdv A outer s H vs Q E hg hr h => ?_)
  · obtain ⟨a, ns, rfl, hS, hlen, ⟨tH, _⟩, q⟩ := h
    rfl
  · obtain ⟨a, ns, rfl, hS, hlen, ⟨tH, _⟩, q⟩ := h
    refine ⟨_, PSs.nox (pss_cons (ps_set (i := 1) sc_law.nd rfl (.inl rfl) (pe_call G__law_folded (hr.mono (by decide)) (by rfl) T.g__law_folded T.F__law_folded.kp T.b__law_folded .nil pass0 (pa_cons (pv 0) (pa_cons pe_int pa_nil))))
    (pss_cons ((ps_for PassesOwn.never rfl (pi_range1 (by rfl) T.m_range (pa_cons (pe_callB (call_max2 rfl) (by rfl) T.m_max bt_max (pa_cons pe_int (pa_cons (pe_callB call_len_seq (by rfl) T.m_len bt_len (pa_cons (pv 1) pa_nil)) pa_nil))) pa_nil)) (pg_name (i := 2) sc_law.nd rfl (.inl rfl)) (pss_cons (ps_set (i := 3) sc_law.nd rfl (.inl rfl) (pe_call G__law_box (hr.mono (by decide)) (by rfl) T.g__law_box T.F__law_box.kp T.b__law_box .nil pass0 (pa_cons (pv 1) (pa_cons (pv 2) pa_nil))))
    (pss_cons (ps_set (i := 4) sc_law.nd rfl (.inl rfl) (pe_ifExp (pt_cmpR op_eq (pe_call G__law_take (hr.mono (by decide)) (by rfl) T.g__law_take T.F__law_take.kp T.b__law_take .nil pass0 (pa_cons (pv 3) (pa_cons pe_int pa_nil))) pe_int (nomark _)) pe_int (pe_call G__law_long (hr.mono (by decide)) (by rfl) T.g__law_long T.F__law_long.kp T.b__law_long .nil pass0 (pa_cons (pv 3) pa_nil))))
    (pss_cons (ps_set (i := 5) sc_law.nd rfl (.inl rfl) (pe_call G__law_row (hr.mono (by decide)) (by rfl) T.g__law_row T.F__law_row.kp T.b__law_row .nil pass0 (pa_cons (pv 3) (pa_cons (pv 4) pa_nil))))
    (pss_cons (ps_if (PW.pt (pw_or (pt_cmpR op_notBl (pe_call G_is_row (hr.mono (by decide)) (by rfl) T.g_is_row T.F_is_row.kp T.b_is_row .nil pass0 (pa_cons (pv 5) pa_nil)) pe_bl (nomark _)) (pw_or1 (pt_cmpR op_ne (pe_callB (cr_repr hg (u65g hr)) (by rfl) T.m_repr bt_repr (pa_cons (pe_tup (pa_cons (pe_call G_ones (hr.mono (by decide)) (by rfl) T.g_ones T.F_ones.kp T.b_ones .nil pass0 (pa_cons (pv 5) pa_nil)) (pa_cons (pe_call G_share_of (hr.mono (by decide)) (by rfl) T.g_share_of T.F_share_of.kp T.b_share_of .nil pass0 (pa_cons (pv 5) pa_nil)) pa_nil))) pa_nil)) (pe_callB (cr_repr hg (u65g hr)) (by rfl) T.m_repr bt_repr (pa_cons (pe_call G__law_counted (hr.mono (by decide)) (by rfl) T.g__law_counted T.F__law_counted.kp T.b__law_counted .nil pass0 (pa_cons (pv 5) pa_nil)) pa_nil)) (nomark _))))) (pss_one (ps_ret pe_bl)) pss_nil)
    (pss_one ((ps_for PassesOwn.never rfl (pi_range1 (by rfl) T.m_range (pa_cons pe_int pa_nil)) (pg_name (i := 6) sc_law.nd rfl (.inl rfl)) (pss_cons (ps_set (i := 7) sc_law.nd rfl (.inl rfl) (pe_callG hg G__law_otherwise (hr.mono (by decide)) (by rfl) T.g__law_otherwise T.F__law_otherwise.kp T.b__law_otherwise .nil pass0 (pa_cons (pv 3) (pa_cons (pv 5) pa_nil))))
    (pss_cons (ps_par (i := 8) (j := 9) (by rfl) sc_law.nd rfl rfl (by decide) rfl rfl (pa_cons (pe_callTy (call_strX hg (u70g hr)) (by rfl) T.m_str bt_str (pa_cons (pv 7) pa_nil)) (pa_cons (pe_call G_is_row (hr.mono (by decide)) (by rfl) T.g_is_row T.F_is_row.kp T.b_is_row .nil pass0 (pa_cons (pv 7) pa_nil)) pa_nil)) (by rfl))
    (pss_one (ps_if (PW.pt (pw_or (pt_not (pt_val (pe_callB call_isi (by rfl) T.m_isinstance bt_isinstance (pa_cons (pv 9) (pa_cons (pe_bltn (v := .ty "bool") (by rfl) T.m_bool bt_bool rfl) pa_nil))))) (pw_or (pt_cmpR op_ne (pv 9) (pe_call G__law_due (hr.mono (by decide)) (by rfl) T.g__law_due T.F__law_due.kp T.b__law_due .nil pass0 (pa_cons (pv 7) pa_nil)) (nomark _)) (pw_or1 (pt_cmpR op_ne (pe_callTy (call_strX hg (u70g hr)) (by rfl) T.m_str bt_str (pa_cons (pv 7) pa_nil)) (pv 8) (nomark _)))))) (pss_one (ps_ret pe_bl)) pss_nil)))))))))))))
    (pss_one (ps_ret pe_bl)))), ?_⟩
    have hsl : sizeLine = 16777216 := by decide
    refine ⟨.ref a, rfl, a, ns, 4, rfl, hS, hlen, by decide, by decide, fun H1 c cs s1 nc hc lc => ?_⟩
    have t1 := (Sam.of s1).tabG tH
    have hn : (if (((cs.map V.int).length : Nat) : Int) > 2 then (((cs.map V.int).length : Nat) : Int) else 2) ≤ 4 ∧ 0 ≤ (if (((cs.map V.int).length : Nat) : Int) > 2 then (((cs.map V.int).length : Nat) : Int) else 2) := by
      rw [List.length_map]
      split <;> omega
    refine ⟨.ref c, rfl, c, _, rfl, .inl (SqL.mk hc), _, _, rfl, _, rfl, by omega, by omega, for_range (fun i σ H2 => ∃ y2 y3 y4 y5 y6 y7 y8 y9, σ = [some (.ref a), some (.ref c), y2, y3, y4, y5, y6, y7, y8, y9] ∧ Sam H1 H2) ⟨none, none, none, none, none, none, none, none, rfl, Sam.refl H1⟩ ?_ ?_⟩
    rotate_left
    · rintro σ H2 ⟨y2, y3, y4, y5, y6, y7, y8, y9, rfl, s2⟩
      exact q _
    rintro i σ H2 hi ⟨y2, y3, y4, y5, y6, y7, y8, y9, rfl, s2⟩
    have hi2 : i < 1000 := by omega
    refine ⟨.ref c, rfl, .int (0 + (i : Int)), rfl, c, cs, i, by rw [Int.zero_add]; rfl, SqL.mk (s2.lst hc), hi2, fun H3 b s3 nb hB => ?_⟩
    have nb1 : H1 b = none := s2.free nb
    have s13 := s2.trans (Sam.of s3)
    have t3 := s13.tabG t1
    refine nx_via (fun σ F => ∃ L : Nat, σ = [some (.ref a), some (.ref c), some (.int (0 + (i : Int))), some (.ref b), some (.int (L : Nat)), y5, y6, y7, y8, y9] ∧ But b H3 F ∧ Bx F b 5 ∧ 1 ≤ L ∧ L ≤ 4096) (fun N key => ?_) ?_
    · refine ⟨.ref b, rfl, b, 32, 0, rfl, hB, by decide, by decide, by omega, fun H4 r4 b4 B4 l4 u4 => ⟨rfl, _, rfl, ite2 (fun _ => ?_) (fun _ => ?_)⟩⟩
      · exact key _ _ ⟨4096, rfl, b4, B4.mono (by omega), by decide, by decide⟩
      · exact ⟨.ref b, rfl, b, 1, rfl, B4, by decide, fun H5 m b5 B5 m1 m2 => key _ _ ⟨m, rfl, b4.trans b5, B5.mono (by omega), m1, by omega⟩⟩
    rintro σ F ⟨L, rfl, cF, BF, L1, L2'⟩
    refine ⟨.ref b, rfl, .int (L : Nat), rfl, b, L, _, rfl, BF, L1, L2', by omega, fun G rw_ rs cG BG hr lr br => ?_⟩
    have c3G := cF.trans cG
    have s1G : Sam H1 G := bus_same nb1 s13 (Bus.of c3G)
    have tG := s1G.tabG t1
    have tgr : Tg (fun q => q = b) G (.ref rw_) (.tuple (rs.map PyData.int)) := .tup (BG.ne_tup hr) hr (tg_ints rs)
    refine ⟨.ref rw_, rfl, _, _, _, rfl, tgr, tG, fun G1 s1 => ?_⟩
    rw [row_is br (by omega) (by omega)]
    have hr1 := s1.tup hr
    refine ⟨_, _, rfl, rfl, _, rfl, ?_⟩
    refine iteF ⟨.ref rw_, rfl, rw_, rs, rfl, hr1, .ref rw_, rfl, rw_, rs, rfl, hr1, by omega, by omega, fun G2 p s2' np hp => ?_⟩
    refine ⟨(show 2 ≤ sizeLine by decide), fun t nt => ?_⟩
    have cs1 := bits_sum br
    have lf : (rs.filter fun x => decide (x = 1)).length ≤ rs.length := List.length_filter_le _ _
    have fs := fr_small (c := (rs.filter fun x => decide (x = 1)).length) (n := rs.length) (by omega) (by omega) (by omega)
    rw [cs1] at fs
    have sm : rs.sum.natAbs < 10 ^ 12 := by omega
    have sh := two_sho sm fs.1 fs.2
    have st := same_upd nt (o := .tup [.int rs.sum, .ref p])
    refine ⟨t, _, rfl, .tup (SqT.mk upd_same) (.cons (.int _) (.cons (.tup (SqT.mk (st _ _ hp)) (.cons (.int _) (.cons (.int _) .nil))) .nil)), sh, ?_⟩
    have s2t := s2'.trans st
    generalize upd G2 t (.tup [.int rs.sum, .ref p]) = G3 at s2t ⊢
    refine ⟨.ref rw_, rfl, rw_, rs, rfl, s2t _ _ hr1, br, by omega, by omega, fun G4 t4 u4 s4 ht4 hu4 => ?_⟩
    refine ⟨t4, _, rfl, .tup (SqT.mk ht4) (.cons (.int _) (.cons (.tup (SqT.mk hu4) (.cons (.int _) (.cons (.int _) .nil))) .nil)), sh, ?_⟩
    refine ⟨rfl, _, rfl, ?_⟩
    have e : ∀ z : Str, decide (V.str z = V.str z) = true := fun z => decide_eq_true rfl
    rw [e]
    refine iteF ?_
    have s14 := (s1.trans (Sam.of s2t)).trans (Sam.of s4)
    have BG4 := BG.sam s14
    have hr4 := s14.tup hr
    have t4' := s14.tabG tG
    have s1G4 := s1G.trans s14
    clear e hu4 ht4 st sh sm fs lf cs1
    generalize hN : 5 + 5000 = N0 at BG4
    refine ⟨10, rfl, by decide, by decide, for_range (fun t σ X => ∃ y6 y7 y8 y9, σ = [some (.ref a), some (.ref c), some (.int (0 + (i : Int))), some (.ref b), some (.int (L : Nat)), some (.ref rw_), y6, y7, y8, y9] ∧ Sam H1 X ∧ X rw_ = some (.tup (rs.map V.int)) ∧ Bx X b (N0 + 10 * t)) ⟨_, _, _, _, rfl, s1G4, hr4, BG4.mono (by omega)⟩ ?_ ?_⟩
    rotate_left
    · rintro σ X ⟨y6, y7, y8, y9, rfl, sX, _, _⟩
      exact ⟨_, _, _, _, _, _, _, _, rfl, sX⟩
    rintro t' σ X ht ⟨y6, y7, y8, y9, rfl, sX, hX, BX⟩
    have ht2 : t' < 10 := ht
    refine ⟨.ref b, rfl, .ref rw_, rfl, b, _, rw_, rs, rfl, BX, hX, br, by omega, by omega, by omega, fun X1 v d b1 B1 tv ov => ?_⟩
    have hX1 := b1 _ _ (BX.ne_tup hX) hX
    have sX1 : Sam H1 X1 := bus_same nb1 sX (Bus.of b1)
    refine ⟨v, rfl, v, d, rfl, tv.dp, okd_sho ov, ?_⟩
    refine ⟨v, rfl, _, v, d, rfl, tv, sX1.tabG t1, fun X2 s2 => ?_⟩
    refine ⟨_, _, rfl, ?_⟩
    refine ⟨.bl (isRowD d), rfl, _, _, _, _, _, rfl, .ty "bool", .base (.bl _), kBB, _, rfl, ?_⟩
    have tv2 := tv.sam s2
    refine iteF ⟨.bl (isRowD d), rfl, v, rfl, _, v, d, rfl, tv2, rfl, _, rfl, ?_⟩
    have eb : decide (V.bl (isRowD d) = V.bl (isRowD d)) = true := decide_eq_true rfl
    rw [eb]
    refine iteF ⟨v, rfl, v, d, rfl, tv2.dp, okd_sho ov, .str (strD d), rfl, rfl, _, rfl, ?_⟩
    have es : decide (V.str (strD d) = V.str (strD d)) = true := decide_eq_true rfl
    rw [es]
    refine iteF ?_
    exact ⟨_, _, _, _, rfl, sX1.trans s2, s2.tup hX1, (B1.sam s2).mono (by omega)⟩
end
def d_is_number : He.DefD := ⟨("is_number", none), "is_number", "is_number", defArgs s_is_number, defBody s_is_number, defScope s_is_number, [], []⟩
def d_is_within : He.DefD := ⟨("is_within", none), "is_within", "is_within", defArgs s_is_within, defBody s_is_within, defScope s_is_within, [], []⟩
def d_common_divisor : He.DefD := ⟨("common_divisor", none), "common_divisor", "common_divisor", defArgs s_common_divisor, defBody s_common_divisor, defScope s_common_divisor, [], []⟩
def d_fraction : He.DefD := ⟨("fraction", none), "fraction", "fraction", defArgs s_fraction, defBody s_fraction, defScope s_fraction, [], []⟩
def d_is_bit : He.DefD := ⟨("is_bit", none), "is_bit", "is_bit", defArgs s_is_bit, defBody s_is_bit, defScope s_is_bit, [], []⟩
def d_is_row : He.DefD := ⟨("is_row", none), "is_row", "is_row", defArgs s_is_row, defBody s_is_row, defScope s_is_row, [], []⟩
def d_ones : He.DefD := ⟨("ones", none), "ones", "ones", defArgs s_ones, defBody s_ones, defScope s_ones, [], []⟩
def d_share_of : He.DefD := ⟨("share_of", none), "share_of", "share_of", defArgs s_share_of, defBody s_share_of, defScope s_share_of, [], []⟩
def d__law_box : He.DefD := ⟨("_law_box", none), "_law_box", "_law_box", defArgs s__law_box, defBody s__law_box, defScope s__law_box, [], []⟩
def d__law_take : He.DefD := ⟨("_law_take", none), "_law_take", "_law_take", defArgs s__law_take, defBody s__law_take, defScope s__law_take, [], []⟩
def d__law_folded : He.DefD := ⟨("_law_folded", none), "_law_folded", "_law_folded", defArgs s__law_folded, defBody s__law_folded, defScope s__law_folded, [], []⟩
def d__law_row : He.DefD := ⟨("_law_row", none), "_law_row", "_law_row", defArgs s__law_row, defBody s__law_row, defScope s__law_row, [], []⟩
def d__law_long : He.DefD := ⟨("_law_long", none), "_law_long", "_law_long", defArgs s__law_long, defBody s__law_long, defScope s__law_long, [], []⟩
def d__law_otherwise : He.DefD := ⟨("_law_otherwise", none), "_law_otherwise", "_law_otherwise", defArgs s__law_otherwise, defBody s__law_otherwise, defScope s__law_otherwise, [], []⟩
def d__law_due : He.DefD := ⟨("_law_due", none), "_law_due", "_law_due", defArgs s__law_due, defBody s__law_due, defScope s__law_due, [], []⟩
def d__law_counted : He.DefD := ⟨("_law_counted", none), "_law_counted", "_law_counted", defArgs s__law_counted, defBody s__law_counted, defScope s__law_counted, [], []⟩
def d_law : He.DefD := ⟨("law", none), "law", "law", defArgs s_law, defBody s_law, defScope s_law, [], []⟩
def hfn : List He.DefD := [d_is_number, d_is_within, d_common_divisor, d_fraction, d_is_bit, d_is_row, d_ones, d_share_of, d__law_box, d__law_take, d__law_folded, d__law_row, d__law_long, d__law_otherwise, d__law_due, d__law_counted, d_law]
def hfa : List He.Fa := [.glo "is_number", .glo "is_within", .glo "common_divisor", .glo "fraction", .glo "is_bit", .glo "is_row", .glo "ones", .glo "share_of", .glo "_law_box", .glo "_law_take", .glo "_law_folded", .glo "_law_row", .glo "_law_long", .glo "_law_otherwise", .glo "_law_due", .glo "_law_counted", .glo "law", .free "abs", .free "all", .free "bool", .free "divmod", .free "enumerate", .free "int", .free "isinstance", .free "len", .free "list", .free "max", .free "range", .free "repr", .free "str", .free "sum", .free "tuple", .int "LONGEST" 4096]
def hts : List He.Tab := []
def htf : List He.Defn := [("is_row", none)]
def hex : PySem.W.Frag → Bool := fun _ => true
abbrev R : PySem.W.OpenRow := PySem.W.OpenLaw.row PySem.Challenge.rw_shareones_k03_rows_or_not
abbrev hk : PySem.W.Hook := He.hookX 4 hfa hfn hts htf hex
def ob (s : PySem.W.SharedT) : He.AlX := He.obsX 4 hfa hfn hts htf hex (HandSHeadRun.getT s)
theorem ob_eq (s : PySem.W.SharedT) : ob s = hk.obs s.abs := He.obsX_eq (HandSHeadRun.getT_eq s)
def loose : List Str := "is_number" :: "is_within" :: "common_divisor" :: "fraction" :: "is_bit" :: "is_row" :: "ones" :: "share_of" :: "_law_box" :: "_law_take" :: "_law_folded" :: "_law_row" :: "_law_long" :: "_law_otherwise" :: "_law_due" :: "_law_counted" :: "LONGEST" :: []
theorem run (w : World) : HandSHeadRun.RunEq R (PySem.W.view R.prog [20]) hk ob 6000 loose w := by
  intro os
  kernel_rfl
theorem codeAt {K : PySem.W.Frag} {p : He.Defn} : CodeAt K (He.fAd K p) (He.cT K p).1 := fun oc od fd osl lk b e => (He.codeOf_eq lk e).symm
theorem facts {l : PySem.W.OpenLaw} {w : World} {K : PySem.W.Frag} {h : Heap} {mg : Str → Option Value} {f : Addr} (X : K.In h) (G : h.Ns mainGlobals mg) (hfa_ : mg ("law" : Str) = some (.ref f)) (cc : He.SaysX hfa hfn hts htf hex w h K) :
    ∃ (fd : FuncData) (cs : List (Addr × Addr)) (sp : Sp), (∀ q, q ∈ cs → TbAt K h q) ∧ (∀ (s : Shared) (u : Value), BindsTo s fd ⟨[u], []⟩ [("_law_script", u)]) ∧ (∀ (H : Hp) (a : Addr) (ns : List Int), ns.length ≤ 63 → (∀ q, q ∈ cs → H q.2 = some (.tbl #[])) → SqL K H a (ns.map V.int) → sp [.ref a] H (fun v _ => v = .bl true) fun _ _ _ => False) ∧ ∀ base : Heap, K.In base → base.Ns mainGlobals mg → (∀ q, q ∈ cs → GxR.TabB base mg q.1 q.2) → GOk l.prog w K mg base CX0 6 f fd ["_law_script"] sp := by
  have c : He.SaysD hfa hfn K := congrArg (fun z : He.AlT => z.1) cc.t
  obtain ⟨fd_is_number, F_is_number⟩ := c.def_ 0 (d := d_is_number) rfl
  obtain ⟨fd_is_within, F_is_within⟩ := c.def_ 1 (d := d_is_within) rfl
  obtain ⟨fd_common_divisor, F_common_divisor⟩ := c.def_ 2 (d := d_common_divisor) rfl
  obtain ⟨fd_fraction, F_fraction⟩ := c.def_ 3 (d := d_fraction) rfl
  obtain ⟨fd_is_bit, F_is_bit⟩ := c.def_ 4 (d := d_is_bit) rfl
  obtain ⟨fd_is_row, F_is_row⟩ := c.def_ 5 (d := d_is_row) rfl
  obtain ⟨fd_ones, F_ones⟩ := c.def_ 6 (d := d_ones) rfl
  obtain ⟨fd_share_of, F_share_of⟩ := c.def_ 7 (d := d_share_of) rfl
  obtain ⟨fd__law_box, F__law_box⟩ := c.def_ 8 (d := d__law_box) rfl
  obtain ⟨fd__law_take, F__law_take⟩ := c.def_ 9 (d := d__law_take) rfl
  obtain ⟨fd__law_folded, F__law_folded⟩ := c.def_ 10 (d := d__law_folded) rfl
  obtain ⟨fd__law_row, F__law_row⟩ := c.def_ 11 (d := d__law_row) rfl
  obtain ⟨fd__law_long, F__law_long⟩ := c.def_ 12 (d := d__law_long) rfl
  obtain ⟨fd__law_otherwise, F__law_otherwise⟩ := c.def_ 13 (d := d__law_otherwise) rfl
  obtain ⟨fd__law_due, F__law_due⟩ := c.def_ 14 (d := d__law_due) rfl
  obtain ⟨fd__law_counted, F__law_counted⟩ := c.def_ 15 (d := d__law_counted) rfl
  obtain ⟨fd_law, F_law⟩ := c.def_ 16 (d := d_law) rfl
  have e := hfa_.symm.trans (He.glo_ok X G (c.fact 16 (f := .glo "law") rfl))
  cases e
  have b := FunD.bindsA (ps := ["_law_script"]) F_law fun _ _ _ _ _ _ us hl => match us, hl with | [_], _ => rfl
  let T : Defs K mg := ⟨_, fd_is_number, F_is_number, (He.glo_ok X G (c.fact 0 (f := .glo "is_number") rfl)), (FunD.bindsN F_is_number fun _ _ _ _ _ _ us hl => match us, hl with | [_], _ => rfl), _, fd_is_within, F_is_within, (He.glo_ok X G (c.fact 1 (f := .glo "is_within") rfl)), (FunD.bindsN F_is_within fun _ _ _ _ _ _ us hl => match us, hl with | [_, _, _], _ => rfl), _, fd_common_divisor, F_common_divisor, (He.glo_ok X G (c.fact 2 (f := .glo "common_divisor") rfl)), (FunD.bindsN F_common_divisor fun _ _ _ _ _ _ us hl => match us, hl with | [_, _], _ => rfl), _, fd_fraction, F_fraction, (He.glo_ok X G (c.fact 3 (f := .glo "fraction") rfl)), (FunD.bindsN F_fraction fun _ _ _ _ _ _ us hl => match us, hl with | [_, _], _ => rfl), _, fd_is_bit, F_is_bit, (He.glo_ok X G (c.fact 4 (f := .glo "is_bit") rfl)), (FunD.bindsN F_is_bit fun _ _ _ _ _ _ us hl => match us, hl with | [_], _ => rfl), _, fd_is_row, F_is_row, (He.glo_ok X G (c.fact 5 (f := .glo "is_row") rfl)), (FunD.bindsN F_is_row fun _ _ _ _ _ _ us hl => match us, hl with | [_], _ => rfl), _, fd_ones, F_ones, (He.glo_ok X G (c.fact 6 (f := .glo "ones") rfl)), (FunD.bindsN F_ones fun _ _ _ _ _ _ us hl => match us, hl with | [_], _ => rfl), _, fd_share_of, F_share_of, (He.glo_ok X G (c.fact 7 (f := .glo "share_of") rfl)), (FunD.bindsN F_share_of fun _ _ _ _ _ _ us hl => match us, hl with | [_], _ => rfl), _, fd__law_box, F__law_box, (He.glo_ok X G (c.fact 8 (f := .glo "_law_box") rfl)), (FunD.bindsN F__law_box fun _ _ _ _ _ _ us hl => match us, hl with | [_, _], _ => rfl), _, fd__law_take, F__law_take, (He.glo_ok X G (c.fact 9 (f := .glo "_law_take") rfl)), (FunD.bindsN F__law_take fun _ _ _ _ _ _ us hl => match us, hl with | [_, _], _ => rfl), _, fd__law_folded, F__law_folded, (He.glo_ok X G (c.fact 10 (f := .glo "_law_folded") rfl)), (FunD.bindsN F__law_folded fun _ _ _ _ _ _ us hl => match us, hl with | [_, _], _ => rfl), _, fd__law_row, F__law_row, (He.glo_ok X G (c.fact 11 (f := .glo "_law_row") rfl)), (FunD.bindsN F__law_row fun _ _ _ _ _ _ us hl => match us, hl with | [_, _], _ => rfl), _, fd__law_long, F__law_long, (He.glo_ok X G (c.fact 12 (f := .glo "_law_long") rfl)), (FunD.bindsN F__law_long fun _ _ _ _ _ _ us hl => match us, hl with | [_], _ => rfl), _, fd__law_otherwise, F__law_otherwise, (He.glo_ok X G (c.fact 13 (f := .glo "_law_otherwise") rfl)), (FunD.bindsN F__law_otherwise fun _ _ _ _ _ _ us hl => match us, hl with | [_, _], _ => rfl), _, fd__law_due, F__law_due, (He.glo_ok X G (c.fact 14 (f := .glo "_law_due") rfl)), (FunD.bindsN F__law_due fun _ _ _ _ _ _ us hl => match us, hl with | [_], _ => rfl), _, fd__law_counted, F__law_counted, (He.glo_ok X G (c.fact 15 (f := .glo "_law_counted") rfl)), (FunD.bindsN F__law_counted fun _ _ _ _ _ _ us hl => match us, hl with | [_], _ => rfl), _, fd_law, F_law, (He.glo_ok X G (c.fact 16 (f := .glo "law") rfl)), (FunD.bindsN F_law fun _ _ _ _ _ _ us hl => match us, hl with | [_], _ => rfl), (He.cT K ("is_row", none)).1, (He.cT K ("is_row", none)).2, codeAt, (He.free_ok X G (c.fact 17 (f := .free "abs") rfl)), (He.free_ok X G (c.fact 18 (f := .free "all") rfl)), (He.free_ok X G (c.fact 19 (f := .free "bool") rfl)), (He.free_ok X G (c.fact 20 (f := .free "divmod") rfl)), (He.free_ok X G (c.fact 21 (f := .free "enumerate") rfl)), (He.free_ok X G (c.fact 22 (f := .free "int") rfl)), (He.free_ok X G (c.fact 23 (f := .free "isinstance") rfl)), (He.free_ok X G (c.fact 24 (f := .free "len") rfl)), (He.free_ok X G (c.fact 25 (f := .free "list") rfl)), (He.free_ok X G (c.fact 26 (f := .free "max") rfl)), (He.free_ok X G (c.fact 27 (f := .free "range") rfl)), (He.free_ok X G (c.fact 28 (f := .free "repr") rfl)), (He.free_ok X G (c.fact 29 (f := .free "str") rfl)), (He.free_ok X G (c.fact 30 (f := .free "sum") rfl)), (He.free_ok X G (c.fact 31 (f := .free "tuple") rfl)), (He.int_ok X G (c.fact 32 (f := .int "LONGEST" 4096) rfl))⟩
  refine ⟨fd_law, htf.map (He.cT K), sp_law T, fun p hp => ?_, fun s v => b s [v] rfl, fun H a ns hl hH hS => ⟨a, ns, rfl, hS, hl, ?_, fun _ => rfl⟩, fun base _ _ TB => ok_law T ?_⟩
  · obtain ⟨q, hq, rfl⟩ := List.mem_map.mp hp
    exact ⟨cc.empty q hq, cc.out q hq, PySem.W.codeHd_of_K X (cc.hd q hq)⟩
  · exact ⟨⟨#[], hH _ (List.mem_map.mpr ⟨_, List.mem_cons_self, rfl⟩), trip0⟩, trivial⟩
  · exact ⟨⟨(TB _ (List.mem_map.mpr ⟨_, List.mem_cons_self, rfl⟩)).code, (TB _ (List.mem_map.mpr ⟨_, List.mem_cons_self, rfl⟩)).bm, (TB _ (List.mem_map.mpr ⟨_, List.mem_cons_self, rfl⟩)).gP⟩⟩
end Fq
open PySem PySem.W PySem.Calls PyProof.Rows
set_option maxHeartbeats 0 in
theorem PySem.Challenge.cw_shareones_k03_rows_or_not_holds : PySem.Challenge.rw_shareones_k03_rows_or_not.Holds := by
  w_on; o_law
  refine HandSHeadRun.head_any (r := OpenLaw.row PySem.Challenge.rw_shareones_k03_rows_or_not) (q := view (OpenLaw.row PySem.Challenge.rw_shareones_k03_rows_or_not).prog [20]) (H := Fq.hk) (ob := Fq.ob) (M := 6000) (loose := Fq.loose) (d := HandSHeadRun.topDef (OpenLaw.row PySem.Challenge.rw_shareones_k03_rows_or_not).prog 20) (kwd := []) Fq.ob_eq
    (by kernel_rfl) (fun s => by kernel_rfl) Fq.run (by kernel_rfl) (by kernel_rfl) (by kernel_rfl) (by rfl) (by first | assumption | decide +kernel) (by decide +kernel) ⟨rfl, rfl, rfl, rfl, rfl, by decide +kernel⟩ ?hw ?hc
  case hw => w_witness2
  case hc =>
    refine Fq.walk_ofGT (l := PySem.Challenge.rw_shareones_k03_rows_or_not) (n := 63) (k := 6) (x := "_law_script") rfl (by decide) (by kernel_rfl) ⟨rfl, by decide, by decide⟩ ?F
    intro w mg fa h Y G hmg0
    obtain ⟨K, KX, c⟩ := Y
    have hmg : mg ("law" : PySem.Str) = some (.ref fa) := by
      have e : (HandSHeadRun.topDef (OpenLaw.row PySem.Challenge.rw_shareones_k03_rows_or_not).prog 20).name = ("law" : PySem.Str) := by kernel_rfl
      rw [← e]
      exact hmg0
    obtain ⟨fd, cs, sp, a1, a2, a3, a4⟩ := Fq.facts (l := PySem.Challenge.rw_shareones_k03_rows_or_not) KX G hmg c
    exact ⟨K, fd, cs, sp, KX, a1, a2, a3, a4⟩
