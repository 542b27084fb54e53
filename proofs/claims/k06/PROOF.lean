import PyProof.Rows.All
import Wide.All
import OpenK.AllK
import Wide.FinOn
import KE.KStateDown
import Lean
import HandS.ForMost
import HandS.Wide
import HandS.WideBits
import HandS.IsInst
import HandS.Walk
import HandS.Evl
import HandS.Style
import HandS.NoneIn
import HandS.Defaults
import HandS.Head0
import HandS.Head1
import HandS.Head2
import HandS.HeadEnd
import HandS.HeadHook1
import HandS.HeadHook2
import HandS.AnyAll
import HandS.TupAny
import HandS.TupMul
import HandS.Zip
import HandS.HeadHook3
import HandS.HeadHook4
import HandS.HeadWalk
import HandS.EndTab
import PyProof.TupleOfGen
import KE.KNest
import KE.KDictWalk
import HandS.Set
import HandS.Strs
import KE.GoesSet
import KE.GoesMore
import KE.GoesZip
import KE.GoesEnum
import PyProof.GenCompT
import HandS.Exc
import HandS.ExcOwn
import HandS.ExcIs
import HandS.WordsExc
import HandS.SetFor
import PySem.Challenge.RW_shareones_k06_leans_of_rows
set_option Elab.async false
set_option linter.all false
set_option maxRecDepth 100000
set_option maxHeartbeats 4000000
namespace Fq
open PySem PySem.Spec PyProof.Rows L2
section
variable {P : Program} {w : World} {K : PySem.W.Frag} {mg : Str → Option Value} {base : Heap}
def topS (i : Nat) : Stmt := PySem.Challenge.pw_shareones_k06_leans_of_rows.main.body.getD i (.Pass ⟨0, 0, 0, 0⟩)
abbrev FnP (K : PySem.W.Frag) (x : Str) (st : Stmt) (f : Addr) (fd : FuncData) : Prop := FunD K x x (defArgs st) (defBody st) (defScope st) [] [] f fd
abbrev s_refuse_unlike : Stmt := topS 9
abbrev N_refuse_unlike : List Str := ["rows", "row"]
theorem sc_refuse_unlike : FnScope N_refuse_unlike ["rows"] (defScope s_refuse_unlike) := ⟨rfl, rfl, rfl, by decide +kernel, rfl, by decide +kernel, by decide +kernel⟩
abbrev s_ones : Stmt := topS 10
abbrev N_ones : List Str := ["row"]
theorem sc_ones : FnScope N_ones ["row"] (defScope s_ones) := ⟨rfl, rfl, rfl, by decide +kernel, rfl, by decide +kernel, by decide +kernel⟩
abbrev s_both : Stmt := topS 11
abbrev N_both : List Str := ["one", "other", "a", "b"]
theorem sc_both : FnScope N_both ["one", "other"] (defScope s_both) := ⟨rfl, rfl, rfl, by decide +kernel, rfl, by decide +kernel, by decide +kernel⟩
abbrev s_overlap : Stmt := topS 13
abbrev N_overlap : List Str := ["one", "other"]
theorem sc_overlap : FnScope N_overlap ["one", "other"] (defScope s_overlap) := ⟨rfl, rfl, rfl, by decide +kernel, rfl, by decide +kernel, by decide +kernel⟩
abbrev s_lean : Stmt := topS 14
abbrev N_lean : List Str := ["one", "other"]
theorem sc_lean : FnScope N_lean ["one", "other"] (defScope s_lean) := ⟨rfl, rfl, rfl, by decide +kernel, rfl, by decide +kernel, by decide +kernel⟩
abbrev s_leans : Stmt := topS 15
abbrev N_leans : List Str := ["one", "other", "length", "due", "places", "at", "by"]
theorem sc_leans : FnScope N_leans ["one", "other"] (defScope s_leans) := ⟨rfl, rfl, rfl, by decide +kernel, rfl, by decide +kernel, by decide +kernel⟩
abbrev s_parting : Stmt := topS 16
abbrev N_parting : List Str := ["one", "other", "found"]
theorem sc_parting : FnScope N_parting ["one", "other"] (defScope s_parting) := ⟨rfl, rfl, rfl, by decide +kernel, rfl, by decide +kernel, by decide +kernel⟩
abbrev s__law_box : Stmt := topS 18
abbrev N__law_box : List Str := ["_law_script", "_law_k", "_law_cell"]
theorem sc__law_box : FnScope N__law_box ["_law_script", "_law_k"] (defScope s__law_box) := ⟨rfl, rfl, rfl, by decide +kernel, rfl, by decide +kernel, by decide +kernel⟩
abbrev s__law_take : Stmt := topS 19
abbrev N__law_take : List Str := ["_law_box_here", "_law_many", "_law_found", "_law_once"]
theorem sc__law_take : FnScope N__law_take ["_law_box_here", "_law_many"] (defScope s__law_take) := ⟨rfl, rfl, rfl, by decide +kernel, rfl, by decide +kernel, by decide +kernel⟩
abbrev s__law_folded : Stmt := topS 20
abbrev N__law_folded : List Str := ["_law_script", "_law_many", "_law_cells", "_law_k", "_law_cell"]
theorem sc__law_folded : FnScope N__law_folded ["_law_script", "_law_many"] (defScope s__law_folded) := ⟨rfl, rfl, rfl, by decide +kernel, rfl, by decide +kernel, by decide +kernel⟩
abbrev s__law_row : Stmt := topS 21
abbrev N__law_row : List Str := ["_law_box_here", "_law_long_here", "_law_way", "_law_at", "_law_bit", "_law_every", "_law_first", "_law_place"]
theorem sc__law_row : FnScope N__law_row ["_law_box_here", "_law_long_here"] (defScope s__law_row) := ⟨rfl, rfl, rfl, by decide +kernel, rfl, by decide +kernel, by decide +kernel⟩
abbrev s__law_long : Stmt := topS 22
abbrev N__law_long : List Str := ["_law_box_here"]
theorem sc__law_long : FnScope N__law_long ["_law_box_here"] (defScope s__law_long) := ⟨rfl, rfl, rfl, by decide +kernel, rfl, by decide +kernel, by decide +kernel⟩
abbrev s__law_same : Stmt := topS 23
abbrev N__law_same : List Str := ["_law_found", "_law_due", "_law_one", "_law_other"]
theorem sc__law_same : FnScope N__law_same ["_law_found", "_law_due"] (defScope s__law_same) := ⟨rfl, rfl, rfl, by decide +kernel, rfl, by decide +kernel, by decide +kernel⟩
abbrev s__law_met : Stmt := topS 24
abbrev N__law_met : List Str := ["_law_one", "_law_other", "_law_by", "_law_many", "_law_place"]
theorem sc__law_met : FnScope N__law_met ["_law_one", "_law_other", "_law_by"] (defScope s__law_met) := ⟨rfl, rfl, rfl, by decide +kernel, rfl, by decide +kernel, by decide +kernel⟩
abbrev s__law_refused : Stmt := topS 25
abbrev N__law_refused : List Str := ["_law_which", "_law_one", "_law_other", "_law_caught", "error"]
theorem sc__law_refused : FnScope N__law_refused ["_law_which", "_law_one", "_law_other"] (defScope s__law_refused) := ⟨rfl, rfl, rfl, by decide +kernel, rfl, by decide +kernel, by decide +kernel⟩
abbrev s__law_two_right : Stmt := topS 26
abbrev N__law_two_right : List Str := ["_law_one", "_law_other", "_law_long_here", "_law_a", "_law_b", "_law_due", "_law_least", "_law_turn", "_law_found", "_law_by"]
theorem sc__law_two_right : FnScope N__law_two_right ["_law_one", "_law_other"] (defScope s__law_two_right) := ⟨rfl, rfl, rfl, by decide +kernel, rfl, by decide +kernel, by decide +kernel⟩
abbrev s__law_long_right : Stmt := topS 27
abbrev N__law_long_right : List Str := ["_law_box_here", "_law_one", "_law_other", "_law_met_here", "_law_due", "_law_bit", "_law_more"]
theorem sc__law_long_right : FnScope N__law_long_right ["_law_box_here"] (defScope s__law_long_right) := ⟨rfl, rfl, rfl, by decide +kernel, rfl, by decide +kernel, by decide +kernel⟩
abbrev s__law_late_right : Stmt := topS 28
abbrev N__law_late_right : List Str := ["_law_box_here", "_law_long_here", "_law_spots", "_law_one", "_law_other", "_law_due", "_law_by", "_law_h", "_law_s", "_law_turn", "_law_place"]
theorem sc__law_late_right : FnScope N__law_late_right ["_law_box_here"] (defScope s__law_late_right) := ⟨rfl, rfl, rfl, by decide +kernel, rfl, by decide +kernel, by decide +kernel⟩
abbrev s_law : Stmt := topS 29
abbrev N_law : List Str := ["_law_script", "_law_cells", "_law_k", "_law_box_here", "_law_long_here", "_law_one", "_law_other", "_law_by", "_law_longer", "_law_which"]
theorem sc_law : FnScope N_law ["_law_script"] (defScope s_law) := ⟨rfl, rfl, rfl, by decide +kernel, rfl, by decide +kernel, by decide +kernel⟩
/-- the code object of the def at f is the one at c -/
def CodeAt (K : PySem.W.Frag) (f c : Addr) : Prop := ∀ (oc : Value) (od : Option Addr) (fd : FuncData) (osl : Array (Option Value)), K.lookup f = some ⟨oc, od, .func fd, osl⟩ → ∀ b, fd.code = .ref b → b = c
theorem okC {P : Program} {w : World} {K : PySem.W.Frag} {mg : Str → Option Value} {base : Heap} {x : Str} {st : Stmt} {f c : Addr} {fd : FuncData} {N ps : List Str} {k : Nat} {sp : Sp} (F : FnP K x st f fd) (hc : CodeAt K f c) (S : FnScope N ps (defScope st)) (len : ∀ vs H Q E, sp vs H Q E → vs.length = ps.length)
    (hb : ∀ (A : Around) (outer : List Env) (s : Shared) (H : Hp) (vs : List V) (Q : VK) (E : XK), Room k (A.deeper (envOfC x (defScope st) s.heap.objs.size f (.ref c))) → sp vs H Q E →
      ∃ t, PSs (cxOf CX0 P w K mg base N x (defScope st) f (.ref c) A outer s H E) (defBody st) t ∧ t { nx := fun _ H' => Q .non H', rt := Q } (L2.start N vs) H) : FnOk P w K mg base CX0 (k + 1) f fd ps sp := by
  obtain ⟨oc, od, dV, kV, doc, pm, an, cdv, ct, osl, rfl, lk, hcd, _, _⟩ := F.ex
  obtain ⟨b, rfl⟩ := He.codeIn_ref hcd
  have e := hc oc od _ osl lk b rfl
  subst e
  exact fn_of lk hcd S len hb
theorem okX {P : Program} {w : World} {K : PySem.W.Frag} {mg : Str → Option Value} {base : Heap} {x : Str} {st : Stmt} {f : Addr} {fd : FuncData} {N ps : List Str} {k : Nat} {sp : Sp} (F : FnP K x st f fd) (S : FnScope N ps (defScope st)) (len : ∀ vs H Q E, sp vs H Q E → vs.length = ps.length)
    (hb : ∀ (cdv : Value) (A : Around) (outer : List Env) (s : Shared) (H : Hp) (vs : List V) (Q : VK) (E : XK), Room k (A.deeper (envOfC x (defScope st) s.heap.objs.size f cdv)) → sp vs H Q E →
      ∃ t, PSs (cxOf (L2.CX P w) P w K mg base N x (defScope st) f cdv A outer s H E) (defBody st) t ∧ t { nx := fun _ H' => Q .non H', rt := Q } (L2.start N vs) H) : FnOk P w K mg base (L2.CX P w) (k + 1) f fd ps sp := by
  obtain ⟨oc, od, dV, kV, doc, pm, an, cdv, ct, osl, rfl, lk, hcd, _, _⟩ := F.ex
  exact fn_of lk hcd S len fun A outer s H vs Q E hr h => hb cdv A outer s H vs Q E hr h
theorem okXC {P : Program} {w : World} {K : PySem.W.Frag} {mg : Str → Option Value} {base : Heap} {x : Str} {st : Stmt} {f c : Addr} {fd : FuncData} {N ps : List Str} {k : Nat} {sp : Sp} (F : FnP K x st f fd) (hc : CodeAt K f c) (S : FnScope N ps (defScope st)) (len : ∀ vs H Q E, sp vs H Q E → vs.length = ps.length)
    (hb : ∀ (A : Around) (outer : List Env) (s : Shared) (H : Hp) (vs : List V) (Q : VK) (E : XK), Room k (A.deeper (envOfC x (defScope st) s.heap.objs.size f (.ref c))) → sp vs H Q E →
      ∃ t, PSs (cxOf (L2.CX P w) P w K mg base N x (defScope st) f (.ref c) A outer s H E) (defBody st) t ∧ t { nx := fun _ H' => Q .non H', rt := Q } (L2.start N vs) H) : FnOk P w K mg base (L2.CX P w) (k + 1) f fd ps sp := by
  obtain ⟨oc, od, dV, kV, doc, pm, an, cdv, ct, osl, rfl, lk, hcd, _, _⟩ := F.ex
  obtain ⟨b, rfl⟩ := He.codeIn_ref hcd
  have e := hc oc od _ osl lk b rfl
  subst e
  exact fn_of lk hcd S len hb
structure Defs (K : PySem.W.Frag) (mg : Str → Option Value) where
  f_refuse_unlike : Addr
  fd_refuse_unlike : FuncData
  F_refuse_unlike : FnP K "refuse_unlike" s_refuse_unlike f_refuse_unlike fd_refuse_unlike
  g_refuse_unlike : mg "refuse_unlike" = some (.ref f_refuse_unlike)
  b_refuse_unlike : Binds K fd_refuse_unlike ["rows"] []
  f_ones : Addr
  fd_ones : FuncData
  F_ones : FnP K "ones" s_ones f_ones fd_ones
  g_ones : mg "ones" = some (.ref f_ones)
  b_ones : Binds K fd_ones ["row"] []
  f_both : Addr
  fd_both : FuncData
  F_both : FnP K "both" s_both f_both fd_both
  g_both : mg "both" = some (.ref f_both)
  b_both : Binds K fd_both ["one", "other"] []
  f_overlap : Addr
  fd_overlap : FuncData
  F_overlap : FnP K "overlap" s_overlap f_overlap fd_overlap
  g_overlap : mg "overlap" = some (.ref f_overlap)
  b_overlap : Binds K fd_overlap ["one", "other"] []
  f_lean : Addr
  fd_lean : FuncData
  F_lean : FnP K "lean" s_lean f_lean fd_lean
  g_lean : mg "lean" = some (.ref f_lean)
  b_lean : Binds K fd_lean ["one", "other"] []
  f_leans : Addr
  fd_leans : FuncData
  F_leans : FnP K "leans" s_leans f_leans fd_leans
  g_leans : mg "leans" = some (.ref f_leans)
  b_leans : Binds K fd_leans ["one", "other"] []
  f_parting : Addr
  fd_parting : FuncData
  F_parting : FnP K "parting" s_parting f_parting fd_parting
  g_parting : mg "parting" = some (.ref f_parting)
  b_parting : Binds K fd_parting ["one", "other"] []
  f__law_box : Addr
  fd__law_box : FuncData
  F__law_box : FnP K "_law_box" s__law_box f__law_box fd__law_box
  g__law_box : mg "_law_box" = some (.ref f__law_box)
  b__law_box : Binds K fd__law_box ["_law_script", "_law_k"] []
  f__law_take : Addr
  fd__law_take : FuncData
  F__law_take : FnP K "_law_take" s__law_take f__law_take fd__law_take
  g__law_take : mg "_law_take" = some (.ref f__law_take)
  b__law_take : Binds K fd__law_take ["_law_box_here", "_law_many"] []
  f__law_folded : Addr
  fd__law_folded : FuncData
  F__law_folded : FnP K "_law_folded" s__law_folded f__law_folded fd__law_folded
  g__law_folded : mg "_law_folded" = some (.ref f__law_folded)
  b__law_folded : Binds K fd__law_folded ["_law_script", "_law_many"] []
  f__law_row : Addr
  fd__law_row : FuncData
  F__law_row : FnP K "_law_row" s__law_row f__law_row fd__law_row
  g__law_row : mg "_law_row" = some (.ref f__law_row)
  b__law_row : Binds K fd__law_row ["_law_box_here", "_law_long_here"] []
  f__law_long : Addr
  fd__law_long : FuncData
  F__law_long : FnP K "_law_long" s__law_long f__law_long fd__law_long
  g__law_long : mg "_law_long" = some (.ref f__law_long)
  b__law_long : Binds K fd__law_long ["_law_box_here"] []
  f__law_same : Addr
  fd__law_same : FuncData
  F__law_same : FnP K "_law_same" s__law_same f__law_same fd__law_same
  g__law_same : mg "_law_same" = some (.ref f__law_same)
  b__law_same : Binds K fd__law_same ["_law_found", "_law_due"] []
  f__law_met : Addr
  fd__law_met : FuncData
  F__law_met : FnP K "_law_met" s__law_met f__law_met fd__law_met
  g__law_met : mg "_law_met" = some (.ref f__law_met)
  b__law_met : Binds K fd__law_met ["_law_one", "_law_other", "_law_by"] []
  f__law_refused : Addr
  fd__law_refused : FuncData
  F__law_refused : FnP K "_law_refused" s__law_refused f__law_refused fd__law_refused
  g__law_refused : mg "_law_refused" = some (.ref f__law_refused)
  b__law_refused : Binds K fd__law_refused ["_law_which", "_law_one", "_law_other"] []
  f__law_two_right : Addr
  fd__law_two_right : FuncData
  F__law_two_right : FnP K "_law_two_right" s__law_two_right f__law_two_right fd__law_two_right
  g__law_two_right : mg "_law_two_right" = some (.ref f__law_two_right)
  b__law_two_right : Binds K fd__law_two_right ["_law_one", "_law_other"] []
  f__law_long_right : Addr
  fd__law_long_right : FuncData
  F__law_long_right : FnP K "_law_long_right" s__law_long_right f__law_long_right fd__law_long_right
  g__law_long_right : mg "_law_long_right" = some (.ref f__law_long_right)
  b__law_long_right : Binds K fd__law_long_right ["_law_box_here"] []
  f__law_late_right : Addr
  fd__law_late_right : FuncData
  F__law_late_right : FnP K "_law_late_right" s__law_late_right f__law_late_right fd__law_late_right
  g__law_late_right : mg "_law_late_right" = some (.ref f__law_late_right)
  b__law_late_right : Binds K fd__law_late_right ["_law_box_here"] []
  f_law : Addr
  fd_law : FuncData
  F_law : FnP K "law" s_law f_law fd_law
  g_law : mg "law" = some (.ref f_law)
  b_law : Binds K fd_law ["_law_script"] []
  c_both : Addr
  P_both : Addr
  k_both : CodeAt K f_both c_both
  C_OnesError : Addr
  g_OnesError : mg "OnesError" = some (.ref C_OnesError)
  C_Unlike : Addr
  g_Unlike : mg "Unlike" = some (.ref C_Unlike)
  C_NoSuch : Addr
  g_NoSuch : mg "NoSuch" = some (.ref C_NoSuch)
  C_NoOne : Addr
  g_NoOne : mg "NoOne" = some (.ref C_NoOne)
  C_NoRound : Addr
  g_NoRound : mg "NoRound" = some (.ref C_NoRound)
  C_BadText : Addr
  g_BadText : mg "BadText" = some (.ref C_BadText)
  C_BadSheet : Addr
  g_BadSheet : mg "BadSheet" = some (.ref C_BadSheet)
  xi_Unlike : PySem.W.excIn K C_Unlike He.veBase "ValueError.__new__" = true
  xk_Unlike : PySem.W.keepIn K (.ref C_Unlike) = true
  xs_Unlike : PySem.W.subIn K (.ref C_Unlike) (.type "BaseException") = some true
  xt_Unlike : PySem.W.typeIn K (.ref C_Unlike) = some (.type "type")
  xc_Unlike : ExcC K C_Unlike
  xm_Unlike : PySem.W.exmOne K (.ref C_Unlike) (.ref C_OnesError) = some true
  xo_Unlike_OnesError : PySem.W.kitOne K (.ref C_Unlike) (.ref C_OnesError) = some true
  xo_Unlike_Unlike : PySem.W.kitOne K (.ref C_Unlike) (.ref C_Unlike) = some true
  xo_Unlike_NoSuch : PySem.W.kitOne K (.ref C_Unlike) (.ref C_NoSuch) = some false
  xo_Unlike_NoOne : PySem.W.kitOne K (.ref C_Unlike) (.ref C_NoOne) = some false
  xo_Unlike_NoRound : PySem.W.kitOne K (.ref C_Unlike) (.ref C_NoRound) = some false
  xo_Unlike_BadText : PySem.W.kitOne K (.ref C_Unlike) (.ref C_BadText) = some false
  xo_Unlike_BadSheet : PySem.W.kitOne K (.ref C_Unlike) (.ref C_BadSheet) = some false
  xv_Unlike : PySem.W.kitOne K (.ref C_Unlike) (.type "ValueError") = some true
  m_ValueError : mg "ValueError" = none
  m_abs : mg "abs" = none
  m_all : mg "all" = none
  m_bool : mg "bool" = none
  m_divmod : mg "divmod" = none
  m_enumerate : mg "enumerate" = none
  m_int : mg "int" = none
  m_isinstance : mg "isinstance" = none
  m_len : mg "len" = none
  m_list : mg "list" = none
  m_max : mg "max" = none
  m_min : mg "min" = none
  m_range : mg "range" = none
  m_set : mg "set" = none
  m_sorted : mg "sorted" = none
  m_str : mg "str" = none
  m_sum : mg "sum" = none
  m_tuple : mg "tuple" = none
  m_zip : mg "zip" = none
structure Tabs {K : PySem.W.Frag} {mg : Str → Option Value} (T : Defs K mg) (base : Heap) : Prop where
  t_both : GxR.TabB base mg T.c_both T.P_both
theorem bt_ValueError : bootBuiltins "ValueError" = some (.type "ValueError") := by decide +kernel
theorem bt_abs : bootBuiltins "abs" = some (.builtin "abs") := by decide +kernel
theorem bt_all : bootBuiltins "all" = some (.builtin "all") := by decide +kernel
theorem bt_bool : bootBuiltins "bool" = some (.type "bool") := by decide +kernel
theorem bt_divmod : bootBuiltins "divmod" = some (.builtin "divmod") := by decide +kernel
theorem bt_enumerate : bootBuiltins "enumerate" = some (.type "enumerate") := by decide +kernel
theorem bt_int : bootBuiltins "int" = some (.type "int") := by decide +kernel
theorem bt_isinstance : bootBuiltins "isinstance" = some (.builtin "isinstance") := by decide +kernel
theorem bt_len : bootBuiltins "len" = some (.builtin "len") := by decide +kernel
theorem bt_list : bootBuiltins "list" = some (.type "list") := by decide +kernel
theorem bt_max : bootBuiltins "max" = some (.builtin "max") := by decide +kernel
theorem bt_min : bootBuiltins "min" = some (.builtin "min") := by decide +kernel
theorem bt_range : bootBuiltins "range" = some (.type "range") := by decide +kernel
theorem bt_set : bootBuiltins "set" = some (.type "set") := by decide +kernel
theorem bt_sorted : bootBuiltins "sorted" = some (.builtin "sorted") := by decide +kernel
theorem bt_str : bootBuiltins "str" = some (.type "str") := by decide +kernel
theorem bt_sum : bootBuiltins "sum" = some (.builtin "sum") := by decide +kernel
theorem bt_tuple : bootBuiltins "tuple" = some (.type "tuple") := by decide +kernel
theorem bt_zip : bootBuiltins "zip" = some (.type "zip") := by decide +kernel
def frT (t b : Int) : Int := (b.sign * t) / (Int.gcd t b : Int)
def frB (t b : Int) : Int := (b.natAbs : Int) / (Int.gcd t b : Int)
theorem fr_ex (t : Int) {b : Int} (hb : b ≠ 0) : ∃ (g : Nat) (x y : Int), 0 < g ∧ Int.gcd t b = g ∧ t = (g : Int) * x ∧ b = (g : Int) * y ∧ y ≠ 0 ∧ Int.gcd x y = 1 := by
  have hg : 0 < Int.gcd t b := Int.gcd_pos_of_ne_zero_right t hb
  obtain ⟨x, hx⟩ := Int.gcd_dvd_left t b
  obtain ⟨y, hy⟩ := Int.gcd_dvd_right t b
  refine ⟨Int.gcd t b, x, y, hg, rfl, hx, hy, fun e => hb (by rw [hy, e, Int.mul_zero]), ?_⟩
  generalize eg : Int.gcd t b = g at hg hx hy
  have e : g = g * Int.gcd x y := by
    rw [← eg]
    conv => lhs; rw [hx, hy, Int.gcd_mul_left]
    rw [Int.natAbs_natCast, eg]
  exact Nat.eq_of_mul_eq_mul_left hg (by rw [← e, Nat.mul_one])
theorem sgn {b : Int} {g : Nat} {y : Int} (hg : 0 < g) (hb : b = (g : Int) * y) : b.sign = y.sign := by
  rw [hb, Int.sign_mul, Int.sign_eq_one_of_pos (by omega), Int.one_mul]
theorem fr_vals {t b : Int} {g : Nat} {x y : Int} (hg : 0 < g) (eg : Int.gcd t b = g) (ht : t = (g : Int) * x) (hb : b = (g : Int) * y) : frT t b = y.sign * x ∧ frB t b = (y.natAbs : Int) := by
  have g0 : (g : Int) ≠ 0 := by omega
  constructor
  · unfold frT
    rw [eg, sgn hg hb, ht, show y.sign * ((g : Int) * x) = (g : Int) * (y.sign * x) by rw [Int.mul_left_comm]]
    exact Int.mul_ediv_cancel_left _ g0
  · unfold frB
    rw [eg, hb, Int.natAbs_mul, Int.natAbs_natCast, Int.natCast_mul]
    exact Int.mul_ediv_cancel_left _ g0
theorem sgn_abs {y : Int} (hy : y ≠ 0) : y.sign.natAbs = 1 := Int.natAbs_sign_of_ne_zero hy
theorem fr_pos (t : Int) {b : Int} (hb : b ≠ 0) : 0 < frB t b := by
  obtain ⟨g, x, y, hg, eg, ht, hy, hy0, h1⟩ := fr_ex t hb
  rw [(fr_vals hg eg ht hy).2]
  omega
theorem fr_gcd (t : Int) {b : Int} (hb : b ≠ 0) : Int.gcd (frT t b) (frB t b) = 1 := by
  obtain ⟨g, x, y, hg, eg, ht, hy, hy0, h1⟩ := fr_ex t hb
  rw [(fr_vals hg eg ht hy).1, (fr_vals hg eg ht hy).2]
  show Nat.gcd (y.sign * x).natAbs ((y.natAbs : Int)).natAbs = 1
  rw [Int.natAbs_mul, sgn_abs hy0, Nat.one_mul, Int.natAbs_natCast]
  exact h1
theorem fr_eq (t : Int) {b : Int} (hb : b ≠ 0) : frT t b * b = t * frB t b := by
  obtain ⟨g, x, y, hg, eg, ht, hy, hy0, h1⟩ := fr_ex t hb
  rw [(fr_vals hg eg ht hy).1, (fr_vals hg eg ht hy).2]
  rw [ht, hy]
  have e : y * y.sign = (y.natAbs : Int) := Int.mul_sign_self y
  rw [← e]
  simp only [Int.mul_comm, Int.mul_left_comm, Int.mul_assoc]
theorem fr_absT (t : Int) {b : Int} (hb : b ≠ 0) : (frT t b).natAbs ≤ t.natAbs := by
  obtain ⟨g, x, y, hg, eg, ht, hy, hy0, h1⟩ := fr_ex t hb
  rw [(fr_vals hg eg ht hy).1, ht, Int.natAbs_mul, sgn_abs hy0, Nat.one_mul, Int.natAbs_mul, Int.natAbs_natCast]
  exact Nat.le_mul_of_pos_left _ hg
theorem fr_absB (t : Int) {b : Int} (hb : b ≠ 0) : (frB t b).natAbs ≤ b.natAbs := by
  obtain ⟨g, x, y, hg, eg, ht, hy, hy0, h1⟩ := fr_ex t hb
  rw [(fr_vals hg eg ht hy).2, hy, Int.natAbs_mul, Int.natAbs_natCast, Int.natAbs_natCast]
  exact Nat.le_mul_of_pos_left _ hg
theorem fr_negT (t b : Int) : frT (-t) (-b) = frT t b := by
  unfold frT
  rw [Int.sign_neg, Int.neg_mul_neg, Int.gcd_neg, Int.neg_gcd]
theorem fr_negB (t b : Int) : frB (-t) (-b) = frB t b := by
  unfold frB
  rw [Int.natAbs_neg, Int.gcd_neg, Int.neg_gcd]
/-- what the program's two ways reckon -/
theorem fd_pos {g : Nat} {x : Int} (hg : 0 < g) : ((g : Int) * x).fdiv (g : Int) = x := by
  rw [Int.fdiv_eq_ediv_of_nonneg _ (by omega)]
  exact Int.mul_ediv_cancel_left _ (by omega)
theorem fd_neg {g : Nat} {x : Int} (hg : 0 < g) : ((g : Int) * x).fdiv (-(g : Int)) = -x := by
  rw [show (g : Int) * x = -(g : Int) * (-x) by rw [Int.neg_mul_neg]]
  exact Int.mul_fdiv_cancel_left _ (by omega)
theorem fr_lt (t : Int) {b : Int} (hb : b < 0) : t.fdiv (-(Int.gcd t b : Int)) = frT t b ∧ b.fdiv (-(Int.gcd t b : Int)) = frB t b := by
  obtain ⟨g, x, y, hg, eg, ht, hy, hy0, h1⟩ := fr_ex t (show b ≠ 0 by omega)
  rw [(fr_vals hg eg ht hy).1, (fr_vals hg eg ht hy).2, eg]
  have yn : y < 0 := by
    rw [hy] at hb
    exact Int.neg_of_mul_neg_right hb (by omega)
  constructor
  · conv => lhs; rw [ht]
    rw [fd_neg hg, Int.sign_eq_neg_one_of_neg yn]
    omega
  · conv => lhs; rw [hy]
    rw [fd_neg hg]
    omega
theorem fr_ge (t : Int) {b : Int} (hb : 0 < b) : t.fdiv (Int.gcd t b : Int) = frT t b ∧ b.fdiv (Int.gcd t b : Int) = frB t b := by
  obtain ⟨g, x, y, hg, eg, ht, hy, hy0, h1⟩ := fr_ex t (show b ≠ 0 by omega)
  rw [(fr_vals hg eg ht hy).1, (fr_vals hg eg ht hy).2, eg]
  have yn : 0 < y := by
    rw [hy] at hb
    exact Int.pos_of_mul_pos_right hb (by omega)
  constructor
  · conv => lhs; rw [ht]
    rw [fd_pos hg, Int.sign_eq_one_of_pos yn]
    omega
  · conv => lhs; rw [hy]
    rw [fd_pos hg]
    omega
/-! sizes -/
def S (n : Nat) (x : Int) : Prop := x.natAbs < 2 ^ n
theorem S.mono {n m : Nat} {x : Int} (h : S n x) (l : n ≤ m) : S m x := Nat.lt_of_lt_of_le h (Nat.pow_le_pow_right (by decide) l)
theorem S.mul {n m : Nat} {x y : Int} (h : S n x) (k : S m y) : S (n + m) (x * y) := by
  unfold S at *
  rw [Int.natAbs_mul, Nat.pow_add]
  exact Nat.mul_lt_mul'' h k
theorem S.add {n : Nat} {x y : Int} (h : S n x) (k : S n y) : S (n + 1) (x + y) := by
  unfold S at *
  rw [Nat.pow_succ]
  omega
theorem S.sub {n : Nat} {x y : Int} (h : S n x) (k : S n y) : S (n + 1) (x - y) := by
  unfold S at *
  rw [Nat.pow_succ]
  omega
theorem S.frT {n : Nat} {t b : Int} (h : S n t) (hb : b ≠ 0) : S n (frT t b) := Nat.lt_of_le_of_lt (fr_absT t hb) h
theorem S.frB {n : Nat} {t b : Int} (h : S n b) (hb : b ≠ 0) : S n (frB t b) := Nat.lt_of_le_of_lt (fr_absB t hb) h
theorem abs_eq (i : Int) : (if i < 0 then -i else i) = (i.natAbs : Int) := by
  split <;> omega
/-! the same rules with the written part by its name: for the inside of comprehensions -/
theorem pg_tupK {X : Cx} {K : PySem.W.Frag} {es : List Expr} {k n : Nat} {pos : Pos} {t : TGs} (h : X.K = K) (hc : X.calm = true) (hg : PGs X es t) (hn : (assignEach es X.env).length = n := by rfl) (hst : (assignEach es X.env).findIdx? (·.1) = none := by rfl) : PG X (.Tuple es k pos) (gTup K n t) := by
  subst h
  exact pg_tup hc hg hn hst
theorem isiK {X : Cx} {K : PySem.W.Frag} (h : X.K = K) : CallR X (.builtin "isinstance") (rIsi K) := by
  subst h
  exact call_isi
theorem ixlK {X : Cx} {K : PySem.W.Frag} (h : X.K = K) : IxR X (rIxL K) := by
  subst h
  exact ix_list
theorem ixtK {X : Cx} {K : PySem.W.Frag} (h : X.K = K) : IxR X (rIxT K) := by
  subst h
  exact ix_tup
theorem lenK {X : Cx} {K : PySem.W.Frag} (h : X.K = K) : CallR X (.builtin "len") (fun xs H Q => ∃ p ys, xs = [.ref p] ∧ (SqL K H p ys ∨ SqT K H p ys) ∧ Q (.int ys.length) H) := by
  subst h
  exact call_len_seq
theorem sumK {X : Cx} {K : PySem.W.Frag} (h : X.K = K) (hc : X.calm = true) : CallR X (.builtin "sum") (rSum K) := by
  subst h
  exact cr_sum hc
theorem yes_ite {σ : L2.St} {H : Hp} {A B : Hp → Prop} (h : A H) : tYes σ H (fun b H3 => if b = true then A H3 else B H3) := by
  show if true = true then A H else B H
  rw [if_pos rfl]
  exact h
/-! heaps -/
theorem same_upd {H : Hp} {p : Addr} {o : HO} (h : H p = none) : Same H (upd H p o) := fun b x e => by
  rw [upd_ne (ne_of_none e h)]
  exact e
def But (p : Addr) (H H' : Hp) : Prop := ∀ b o, b ≠ p → H b = some o → H' b = some o
theorem But.trans {p : Addr} {H H1 H2 : Hp} (a : But p H H1) (b : But p H1 H2) : But p H H2 := fun c o n e => b c o n (a c o n e)
theorem But.refl (p : Addr) (H : Hp) : But p H H := fun _ _ _ e => e
theorem But.put {p : Addr} {H H' : Hp} {o : HO} (a : But p H H') : But p H (L2.upd H' p o) := fun c x n e => by
  rw [upd_ne n]
  exact a c x n e
theorem same_but {p : Addr} {H H' : Hp} (a : Same H H') : But p H H' := fun c x _ e => a c x e
theorem But.new {p q : Addr} {H H' : Hp} {o : HO} (a : But p H H') (n : H' q = none) : But p H (upd H' q o) := fun c x hn e => by
  have e2 := a c x hn e
  rw [upd_ne (ne_of_none e2 n)]
  exact e2
/-- objects made since H may change: what H has stays -/
theorem same_newer {H H' : Hp} {q : Addr} {o : HO} (a : Same H H') (n : H q = none) : Same H (upd H' q o) := fun c x e => by
  rw [upd_ne (ne_of_none e n)]
  exact a c x e
theorem But.same {p : Addr} {H H1 H2 : Hp} (n : H p = none) (a : Same H H1) (b : But p H1 H2) : Same H H2 := fun c x e =>
  b c x (ne_of_none e n) (a c x e)
/-- the box: a rest, a begin, how often -/
def Bx (H : Hp) (p : Addr) (n : Nat) : Prop := ∃ a b c : Int, H p = some (.lst [.int a, .int b, .int c]) ∧ 0 ≤ a ∧ 0 ≤ b ∧ b < 2147483647 ∧ 0 ≤ c ∧ c ≤ n
theorem Bx.same {H H' : Hp} {p : Addr} {n : Nat} (h : Bx H p n) (s : Same H H') : Bx H' p n := by
  obtain ⟨a, b, c, hp, r⟩ := h
  exact ⟨a, b, c, s _ _ hp, r⟩
theorem Bx.mono {H : Hp} {p : Addr} {n m : Nat} (h : Bx H p n) (l : n ≤ m) : Bx H p m := by
  obtain ⟨a, b, c, hp, h1, h2, h3, h4, h5⟩ := h
  exact ⟨a, b, c, hp, h1, h2, h3, h4, by omega⟩
theorem Bx.new {H : Hp} {p q : Addr} {n : Nat} {o : HO} (h : Bx H p n) (nq : H q = none) : Bx (L2.upd H q o) p n := h.same (same_upd nq)
theorem Bx.ne_tup {H : Hp} {p q : Addr} {n : Nat} {xs : List V} (h : Bx H p n) (e : H q = some (.tup xs)) : q ≠ p := by
  obtain ⟨a, b, c, hp, _⟩ := h
  exact ne_of e hp (fun z => by cases z)
/-- an item of a menu of numbers -/
theorem at_menu {Pr : Int → Prop} {xs : List Int} {r : Int} (h0 : 0 ≤ r) (h1 : r < xs.length) (hx : ∀ x, x ∈ xs → Pr x) : ∃ v, atI (xs.map V.int) r = some (V.int v) ∧ Pr v := by
  obtain ⟨j, rfl⟩ := Int.eq_ofNat_of_zero_le h0
  have hj : j < xs.length := by omega
  refine ⟨xs[j], atI_nat (by rw [List.getElem?_map, List.getElem?_eq_getElem hj]; rfl), hx _ (List.getElem_mem hj)⟩
theorem SqL.mk {K : PySem.W.Frag} {H : Hp} {a : Addr} {xs : List V} (h : H a = some (.lst xs)) : SqL K H a xs := .inl (.inl h)
theorem SqT.mk {K : PySem.W.Frag} {H : Hp} {a : Addr} {xs : List V} (h : H a = some (.tup xs)) : SqT K H a xs := .inl (.inl h)
theorem same_tup {K : PySem.W.Frag} {H H' : Hp} {a : Addr} {xs : List V} (e : Same H H') (h : SqT K H a xs) : SqT K H' a xs := by
  rcases h with (h | ⟨o, h⟩) | h
  · exact .inl (.inl (e _ _ h))
  · exact .inl (.inr ⟨o, e _ _ h⟩)
  · exact .inr h
theorem ixn {n j : Nat} (hj : j < n) : ixN n (j : Int) = some j := by
  unfold ixN
  rw [if_pos (by omega), if_pos (by omega)]
  simp
theorem cdivP {a m : Int} (h0 : 0 < m) (h1 : m < 2 ^ 60) : CDivP a m := ⟨h0, PyProof.noPylong_of_log2 (wide_div (i := a) (b := 60) h0 (by omega) (by decide) (by decide)).2⟩
theorem i01 {c : Prop} [Decidable c] : -(2 ^ 64) < (if c then (1 : Int) else 0) ∧ (if c then (1 : Int) else 0) < 2 ^ 64 := by
  split <;> decide
theorem i01n {c : Prop} [Decidable c] : 0 ≤ (if c then (1 : Int) else 0) := by
  split <;> decide
theorem absn (i : Int) : 0 ≤ (if i < 0 then -i else i) := by
  split <;> omega
/-! the box of a cell -/
def sp__law_box (K : PySem.W.Frag) : Sp := fun vs H Q _ => ∃ (a : Addr) (ns : List Int) (k : Nat), vs = [.ref a, .int (k : Nat)] ∧ SqL K H a (ns.map V.int) ∧ k < 1000 ∧
  ∀ H' p, Same H H' → H p = none → Bx H' p 0 → Q (.ref p) H'
theorem ok__law_box (T : Defs K mg) (TT : Tabs T base) : FnOk P w K mg base CX0 1 T.f__law_box T.fd__law_box ["_law_script", "_law_k"] (sp__law_box K) := by
  refine T.F__law_box.ok sc__law_box (fun vs H Q E h => ?_) (fun cdv A outer s H vs Q E hr h => ?_)
  · obtain ⟨a, ns, k, rfl, hS, hk, q⟩ := h
    rfl
  · obtain ⟨a, ns, k, rfl, hS, hk, q⟩ := h
    refine ⟨_, PSs.nox (pss_cons (ps_set (i := 2) sc__law_box.nd rfl (.inl rfl) pe_int)
    (pss_cons (ps_if (pt_cmpR op_lt (pv 1) (pe_callB call_len_seq (by rfl) T.m_len bt_len (pa_cons (pv 0) pa_nil)) (nomark _)) (pss_one (ps_set (i := 2) sc__law_box.nd rfl (.inl rfl) (pe_ix ix_list (pv 0) (pv 1) (fun _ _ => rfl)))) pss_nil)
    (pss_one (ps_ret (pe_lst (pa_cons (pe_op op_mul (pe_callB call_abs (by rfl) T.m_abs bt_abs (pa_cons (pv 2) pa_nil)) (pe_callTy call_int1 (by rfl) T.m_int bt_int (pa_cons (pe_cmpR op_ge (pe_callB call_abs (by rfl) T.m_abs bt_abs (pa_cons (pv 2) pa_nil)) (pe_op op_pow pe_int pe_int) (nomark _)) pa_nil))) (pa_cons (pe_op op_mod (pe_op op_add (pv 2) (pe_op op_mul (pe_op op_mul pe_int (pv 1)) (pv 1))) pe_int) (pa_cons pe_int pa_nil)))))))), ?_⟩
    refine ⟨.int k, rfl, .ref a, rfl, a, _, rfl, .inl hS, _, _, rfl, rfl, _, rfl, ite2 (fun e => ?_) (fun e => ?_)⟩
    · have hl : (k : Int) < ((ns.map V.int).length : Nat) := of_decide_eq_true e
      rw [List.length_map] at hl
      have hj : k < ns.length := by omega
      refine ⟨.ref a, rfl, .int k, rfl, a, _, _, .int ns[k], rfl, rfl, hS, atI_nat (by rw [List.getElem?_map, List.getElem?_eq_getElem hj]; rfl), ?_⟩
      refine ⟨_, rfl, _, rfl, _, rfl, _, rfl, _, _, rfl, rfl, ⟨by decide, by decide, by decide⟩, _, _, rfl, rfl, .inr ⟨_, rfl, _, _, rfl, rfl, .inr i01, _, rfl, .int k, rfl, _, _, rfl, rfl, .inl ⟨by decide, by decide⟩, .int k, rfl, _, _, rfl, rfl, .inr ⟨by omega, by omega⟩, _, _, rfl, rfl, _, _, rfl, rfl, (show (0 : Int) < 2147483647 by decide), (show 3 ≤ sizeLine by decide), fun p np => ?_⟩⟩
      refine q _ p (same_upd np) np ⟨_, _, _, upd_same, ?_, Int.emod_nonneg _ (by decide), Int.emod_lt_of_pos _ (by decide), Int.le_refl 0, Int.le_refl 0⟩
      exact Int.mul_nonneg (absn _) i01n
    · refine ⟨_, rfl, _, rfl, _, rfl, _, rfl, _, _, rfl, rfl, ⟨by decide, by decide, by decide⟩, _, _, rfl, rfl, .inr ⟨_, rfl, _, _, rfl, rfl, .inr i01, _, rfl, .int k, rfl, _, _, rfl, rfl, .inl ⟨by decide, by decide⟩, .int k, rfl, _, _, rfl, rfl, .inr ⟨by omega, by omega⟩, _, _, rfl, rfl, _, _, rfl, rfl, (show (0 : Int) < 2147483647 by decide), (show 3 ≤ sizeLine by decide), fun p np => ?_⟩⟩
      refine q _ p (same_upd np) np ⟨_, _, _, upd_same, ?_, Int.emod_nonneg _ (by decide), Int.emod_lt_of_pos _ (by decide), Int.le_refl 0, Int.le_refl 0⟩
      exact Int.mul_nonneg (absn _) i01n
/-! one number taken -/
def sp__law_take (K : PySem.W.Frag) : Sp := fun vs H Q _ => ∃ (p : Addr) (m : Int) (n : Nat), vs = [.ref p, .int m] ∧ Bx H p n ∧ 0 < m ∧ m < 2 ^ 60 ∧ n < 1000000000000 ∧
  ∀ H' r, But p H H' → Bx H' p (n + 1) → 0 ≤ r → r < m → Q (.int r) H'
theorem ok__law_take (T : Defs K mg) (TT : Tabs T base) : FnOk P w K mg base CX0 1 T.f__law_take T.fd__law_take ["_law_box_here", "_law_many"] (sp__law_take K) := by
  refine T.F__law_take.ok sc__law_take (fun vs H Q E h => ?_) (fun cdv A outer s H vs Q E hr h => ?_)
  · obtain ⟨p, m, n, rfl, ⟨a, b, c, hp, ha, hb, hb2, hc, hc2⟩, h0, h1, hn, q⟩ := h
    rfl
  · obtain ⟨p, m, n, rfl, ⟨a, b, c, hp, ha, hb, hb2, hc, hc2⟩, h0, h1, hn, q⟩ := h
    refine ⟨_, PSs.nox (pss_cons (ps_if (pt_cmpR op_gt (pe_ix ix_list (pv 0) pe_int (fun _ _ => rfl)) pe_int (nomark _)) (pss_cons (ps_asg (pe_callB call_divmodW (by rfl) T.m_divmod bt_divmod (pa_cons (pe_ix ix_list (pv 0) pe_int (fun _ _ => rfl)) (pa_cons (pv 1) pa_nil))) (pg_tup rfl (pgs_cons (pg_sub (pv 0) pe_int set_list) (pgs_cons (pg_name (i := 2) sc__law_take.nd rfl (.inl rfl)) pgs_nil))))
    (pss_one (ps_ret (pv 2)))) pss_nil)
    (pss_cons (ps_asg (pe_op op_add (pe_ix ix_list (pv 0) pe_int (fun _ _ => rfl)) pe_int) (pg_sub (pv 0) pe_int set_list))
    (pss_cons (ps_set (i := 3) sc__law_take.nd rfl (.inl rfl) (pe_op op_mod (pe_op op_pow (pe_op op_add (pe_ix ix_list (pv 0) pe_int (fun _ _ => rfl)) (pe_op op_mul pe_int (pe_ix ix_list (pv 0) pe_int (fun _ _ => rfl)))) pe_int) pe_int))
    (pss_one (ps_ret (pe_op op_mod (pe_op op_fdiv (pe_op op_mod (pe_op op_add (pe_op op_mul (pv 3) pe_int) (pe_op op_mul (pe_op op_mul (pe_ix ix_list (pv 0) pe_int (fun _ _ => rfl)) (pe_ix ix_list (pv 0) pe_int (fun _ _ => rfl))) pe_int)) pe_int) pe_int) (pv 1))))))), ?_⟩
    have SQ : SqL K H p [.int a, .int b, .int c] := SqL.mk hp
    refine ⟨.ref p, rfl, p, _, 0, _, rfl, rfl, SQ, atI_nat (j := 0) rfl, _, _, rfl, rfl, _, rfl, ite2 (fun e => ?_) (fun e => ?_)⟩
    · refine ⟨.ref p, rfl, p, _, 0, _, rfl, rfl, SQ, atI_nat (j := 0) rfl, .int m, rfl, a, m, rfl, cdivP h0 h1, fun t nt => ?_⟩
      have hp1 : (upd H t (.tup [.int (a / m), .int (a % m)])) p = some (.lst [.int a, .int b, .int c]) := by
        rw [upd_ne (ne_of_none hp nt)]
        exact hp
      refine ⟨t, _, rfl, SqT.mk upd_same, rfl, _, _, rfl, .ref p, rfl, p, _, 0, 0, rfl, rfl, hp1, rfl, _, _, rfl, rfl, _, rfl, ?_⟩
      refine q _ _ ((But.refl p H).new nt).put ⟨_, _, _, upd_same, Int.ediv_nonneg ha (by omega), hb, hb2, hc, by omega⟩ (Int.emod_nonneg _ (by omega)) (Int.emod_lt_of_pos _ h0)
    · refine ⟨.ref p, rfl, p, _, 2, _, rfl, rfl, SQ, atI_nat (j := 2) rfl, _, _, rfl, rfl, .ref p, rfl, p, _, 2, 2, rfl, rfl, hp, rfl, ?_⟩
      have SQ1 : SqL K (upd H p (.lst [.int a, .int b, .int (c + 1)])) p [.int a, .int b, .int (c + 1)] := SqL.mk upd_same
      refine ⟨.ref p, rfl, p, _, 1, _, rfl, rfl, SQ1, atI_nat (j := 1) rfl, .ref p, rfl, p, _, 2, _, rfl, rfl, SQ1, atI_nat (j := 2) rfl, _, _, rfl, rfl, .inl ⟨by decide, by decide⟩, _, _, rfl, rfl, _, _, rfl, rfl, ⟨by decide, by decide, by omega⟩, _, _, rfl, rfl, (show (0 : Int) < 2147483647 by decide), ?_⟩
      refine ⟨_, rfl, _, _, rfl, rfl, .inr ⟨by decide, by decide⟩, .ref p, rfl, p, _, 2, _, rfl, rfl, SQ1, atI_nat (j := 2) rfl, .ref p, rfl, p, _, 2, _, rfl, rfl, SQ1, atI_nat (j := 2) rfl, _, _, rfl, rfl, .inl ⟨by omega, by omega⟩, _, _, rfl, rfl, .inr ⟨by decide, by decide⟩, _, _, rfl, rfl, _, _, rfl, rfl, (show (0 : Int) < 2147483629 by decide), _, _, rfl, rfl, ⟨by decide, by decide⟩, .int m, rfl, _, _, rfl, rfl, h0, ?_⟩
      refine q _ _ (But.refl p H).put ⟨_, _, _, upd_same, ha, hb, hb2, by omega, by omega⟩ (Int.emod_nonneg _ (by omega)) (Int.emod_lt_of_pos _ h0)
/-! the folded cells -/
theorem cut_take (ns : List Int) (m : Nat) : cutV (ns.map V.int) none (some (m : Int)) = (ns.take m).map V.int := by
  unfold cutV
  rw [HT.sIx_none, HT.sIx_nat, List.drop_zero, List.length_map, Nat.sub_zero, ← List.map_take]
  congr 1
  by_cases h : m ≤ ns.length
  · rw [Nat.min_eq_left h]
  · rw [Nat.min_eq_right (by omega), List.take_length, List.take_of_length_le (by omega)]
theorem cut_rest (ns : List Int) (m k : Nat) : ∃ ms : List Int, cutV (ns.map V.int) (some (m : Int)) (some (k : Int)) = ms.map V.int ∧ (0 < ms.length → m < ns.length) ∧ ms.length ≤ ns.length := by
  unfold cutV
  rw [HT.sIx_nat, HT.sIx_nat, List.length_map]
  refine ⟨(ns.drop (min m ns.length)).take (min k ns.length - min m ns.length), ?_, fun h => ?_, ?_⟩
  · rw [List.map_take, List.map_drop]
  · rw [List.length_take, List.length_drop] at h
    omega
  · rw [List.length_take, List.length_drop]
    omega
def sp__law_folded (K : PySem.W.Frag) : Sp := fun vs H Q _ => ∃ (a : Addr) (ns : List Int) (m : Nat), vs = [.ref a, .int (m : Nat)] ∧ SqL K H a (ns.map V.int) ∧ ns.length ≤ 63 ∧ 0 < m ∧ m < 64 ∧
  ∀ H' p (cs : List Int), Same H H' → H p = none → H' p = some (.lst (cs.map V.int)) → cs.length ≤ m → Q (.ref p) H'
theorem ok__law_folded (T : Defs K mg) (TT : Tabs T base) : FnOk P w K mg base CX0 1 T.f__law_folded T.fd__law_folded ["_law_script", "_law_many"] (sp__law_folded K) := by
  refine T.F__law_folded.ok sc__law_folded (fun vs H Q E h => ?_) (fun cdv A outer s H vs Q E hr h => ?_)
  · obtain ⟨a, ns, m, rfl, hS, hlen, hm, hm2, q⟩ := h
    rfl
  · obtain ⟨a, ns, m, rfl, hS, hlen, hm, hm2, q⟩ := h
    refine ⟨_, PSs.nox (pss_cons (ps_set (i := 2) sc__law_folded.nd rfl (.inl rfl) (pe_callTy call_list_of (by rfl) T.m_list bt_list (pa_cons (pe_slice sl_list (pv 0) po_none (po_some (pv 1))) pa_nil)))
    (pss_cons (ps_for PassesOwn.never rfl (pi_enum (by rfl) T.m_enumerate (pa_cons (pe_slice sl_list (pv 0) (po_some (pv 1)) (po_some pe_int)) pa_nil)) (pg_tup rfl (pgs_cons (pg_name (i := 3) sc__law_folded.nd rfl (.inl rfl)) (pgs_cons (pg_name (i := 4) sc__law_folded.nd rfl (.inl rfl)) pgs_nil))) (pss_one (ps_asg (pe_op op_add (pe_ix ix_list (pv 2) (pe_op op_mod (pv 3) (pv 1)) (fun _ _ => rfl)) (pe_op op_mul (pv 4) (pe_op op_add (pv 3) pe_int))) (pg_sub (pv 2) (pe_op op_mod (pv 3) (pv 1)) set_list))))
    (pss_one (ps_ret (pv 2))))), ?_⟩
    refine ⟨.ref a, rfl, .int m, rfl, m, rfl, a, _, rfl, hS, fun c nc => ?_⟩
    rw [cut_take]
    have s1 : Same H (upd H c (.lst ((ns.take m).map V.int))) := same_upd nc
    refine ⟨c, _, rfl, .inl (SqL.mk upd_same), fun l nl => ?_⟩
    have s2 := s1.trans (same_upd nl (o := .lst ((ns.take m).map V.int)))
    refine ⟨.ref a, rfl, .int m, rfl, m, rfl, 63, rfl, a, _, rfl, s2.seq hS, fun d nd => ?_⟩
    obtain ⟨ms, em, hms, hms2⟩ := cut_rest ns m 63
    rw [show (63 : Int) = ((63 : Nat) : Int) from rfl, em]
    have nl0 : H l = none := s1.free nl
    have nd0 : H d = none := s2.free nd
    have ndl : l ≠ d := fun e => by
      rw [← e, upd_same] at nd
      cases nd
    refine ⟨d, _, rfl, SqL.mk upd_same, for_it (walk_enum (xs := ms.map V.int)) (fun i σ H3 => ∃ y3 y4, ∃ cs : List Int, σ = [some (.ref a), some (.int m), some (.ref l), y3, y4] ∧ Same H H3 ∧ H3 l = some (.lst (cs.map V.int)) ∧ cs.length = (ns.take m).length ∧ H3 d = some (.lst (ms.map V.int))) ⟨none, none, ns.take m, rfl, s2.trans (same_upd nd), ?_, rfl, upd_same⟩ ?_ ?_ ?_⟩
    · rw [upd_ne ndl, upd_same]
    · rintro i σ H3 hi ⟨y3, y4, cs, rfl, s3, hl, hc, hd⟩
      exact SqL.mk hd
    · rintro i x σ H3 H4 hi ⟨y3, y4, cs, rfl, s3, hl, hc, hd⟩ ⟨t, x1, x2, rfl, nt, rfl, e1, e2⟩
      rw [List.length_map] at hi
      have lm : m < ns.length := hms (by omega)
      have lc : cs.length = m := by
        rw [hc, List.length_take]
        omega
      have ex1 : x1 = .int (i : Nat) := (Option.some.inj e1).symm
      have ex2 : x2 = .int ms[i] := by
        have e2 : (ms.map V.int)[i]? = some x2 := e2
        rw [List.getElem?_map, List.getElem?_eq_getElem hi] at e2
        exact (Option.some.inj e2).symm
      subst ex1 ex2
      have hl1 : (upd H3 t (.tup [.int (i : Nat), .int ms[i]])) l = some (.lst (cs.map V.int)) := by
        rw [upd_ne (ne_of_none hl nt)]
        exact hl
      have him : i % m < cs.length := by
        rw [lc]
        exact Nat.mod_lt _ hm
      have eim : ((i : Int) % (m : Int)) = ((i % m : Nat) : Int) := by omega
      refine ⟨t, _, rfl, SqT.mk upd_same, rfl, _, _, rfl, _, _, rfl, rfl, ?_⟩
      refine ⟨.ref l, rfl, .int (i : Nat), rfl, .int m, rfl, _, _, rfl, rfl, (show (0 : Int) < (m : Int) by omega), l, _, _, .int cs[i % m], rfl, rfl, SqL.mk hl1, ?_, .int ms[i], rfl, .int (i : Nat), rfl, _, _, rfl, rfl, _, _, rfl, rfl, .inr ⟨by omega, by omega⟩, _, _, rfl, rfl, .ref l, rfl, .int (i : Nat), rfl, .int m, rfl, _, _, rfl, rfl, (show (0 : Int) < (m : Int) by omega), l, _, _, i % m, rfl, rfl, hl1, ?_, ?_⟩
      · rw [eim]
        exact atI_nat (by rw [List.getElem?_map, List.getElem?_eq_getElem him]; rfl)
      · rw [eim]
        exact ixn (by rw [List.length_map]; exact him)
      · refine ⟨_, _, cs.set (i % m) (cs[i % m] + ms[i] * ((i : Int) + 2)), rfl, same_newer (s3.trans (same_upd nt)) nl0, ?_, by rw [List.length_set, hc], ?_⟩
        · rw [upd_same, List.map_set]
        · rw [upd_ne ndl.symm, upd_ne (ne_of_none hd nt)]
          exact hd
    · rintro σ H3 ⟨y3, y4, cs, rfl, s3, hl, hc, hd⟩
      exact ⟨.ref l, rfl, q H3 l cs s3 nl0 hl (by rw [hc, List.length_take]; omega)⟩
/-! generator expressions: the walked thing, the element, the generator at hand -/
def SrcOk (X : Cx) (P : Addr) (s1 : Shared) (xv : Value) (n : Nat) (Pf : Nat → Value → Prop) : Prop :=
  ∃ (o : Obj) (aux : List Addr) (Z : Nat → Heap → Prop),
    (∀ Q : Value → Shared → Prop, Q (.ref s1.heap.objs.size) { s1 with heap := s1.heap.push o } → wpAny (model X.prog X.w) X.A (pyIter xv) Q X.xe s1) ∧
    (∀ b ∈ aux, b < s1.heap.objs.size ∧ b ≠ P) ∧
    (∀ B : Around, B.handled = none → Walks X.prog X.w B s1.heap.objs.size (s1.heap.objs.size :: aux) [s1.heap.objs.size] n Pf Z) ∧ Z 0 (s1.heap.push o)
def EltOk (X : Cx) (P : Addr) (scope : Scope) (x : Str) (elt : Expr) (s1 : Shared) (Pf F : Nat → Value → Prop) : Prop :=
  ∀ (cenv : Env) (B : Around) (E2 : Value → Shared → Prop) (i : Nat) (v : Value) (s2 : Shared) (m2 : Str → Option Value), cenv.scope = scope → cenv.cells = cloFrom X.env.cells scope.names [] → cenv.globals = X.env.globals → cenv.builtins = builtinsNs →
    B.handled = none → Pf i v → s2.heap.Ns cenv.locals m2 → m2 x = some v → (∀ b o, b ≠ P → s1.heap.get? b = some o → s2.heap.get? b = some o) →
    wpAny (model X.prog X.w) B (eval elt cenv) (fun y s3 => F i y ∧ Keeps s2 s3) E2 s2
def AtHand (X : Cx) (pins : List (Addr × Obj)) (σ : L2.St) (H1 : Hp) (P : Addr) (n : Nat) (F : Nat → Value → Prop) (g : Addr) (s5 : Shared) : Prop :=
  ∃ (fp wr : List Addr) (G : Array GenState → Array GenState → Prop) (F' : Nat → Value → Prop) (Z : Nat → Shared → Prop),
    WalksS X.prog X.w X.A.in4 g fp wr G n F' Z ∧ (∀ j v, F' j v → F j v) ∧ Z 0 s5 ∧ (∀ b ∈ fp, b < s5.heap.objs.size) ∧ g ∈ fp ∧ (∀ i s9, Z i s9 → s9.TypeIs (.ref g) "generator") ∧
    ∀ s', Moved wr G s5 s' → ∃ H2, GxR.Tabbed P H1 H2 ∧ Inv X pins σ H2 s'
theorem gen_one {X : Cx} {pins : List (Addr × Obj)} {σ : L2.St} {s : Shared} {c P : Addr} {elt iter : Expr} {x : Str} {px gpos : Pos} {scope : Scope} {k : Nat} {W : Value → Shared → Prop}
    (hr : Room k X.A) (TB : GxR.TabB X.base X.mg c P) (hcode : X.env.code = .ref c) (S : GxR.GenS X.env scope x) (hs : ∀ v, genFold iter X.env v = pure v)
    (h : wpAny (model X.prog X.w) X.A (eval iter X.env) (fun xv s1 => ∃ (H1 : Hp) (ps : Array Value) (n : Nat) (Pf F : Nat → Value → Prop), Inv X pins σ H1 s1 ∧ H1 P = some (.tbl ps) ∧ TriplesOk ps.toList ∧ SrcOk X P s1 xv n Pf ∧
      EltOk X P scope x elt s1 Pf F ∧ ∀ g s5, AtHand X pins σ H1 P n F g s5 → W (.ref g) s5) X.xe s) :
    wpAny (model X.prog X.w) X.A (eval (.GeneratorExp elt [⟨.Name x px, iter, [], 0⟩] scope gpos) X.env) W X.xe s := by
  have deep := hr.dp
  refine wpAny_GeneratorExp_walksQ hr.hd S.co (closure_ok S.free) S.cell S.dot S.loc S.kind (by omega) (wpAny_mono h (fun xv s1 z => ?_) fun _ _ e => e) hs
  obtain ⟨H1, ps, n, Pf, F, J1, hP, trip, ⟨o, aux, Z, go, hau, wk, z0⟩, hel, fin⟩ := z
  refine go _ ?_
  have hPs : s1.heap.get? P = some { cls := .none, data := .fields ps } := J1.hok P _ hP
  have ltP : P < s1.heap.objs.size := Heap.lt_size hPs
  have hP2 : (s1.heap.push o).get? P = some { cls := .none, data := .fields ps } := Heap.get?_push_of_some _ hPs
  have cd : PySem.W.CodeHd (s1.heap.push o) c P := TB.code.keeps fun b u e => Heap.get?_push_of_some _ (J1.bk b u e)
  have lim : (s1.heap.push o).NoLimit := J1.nolimit.push o
  have szp : (s1.heap.push o).objs.size = s1.heap.objs.size + 1 := Heap.size_push ..
  have go2 : ∀ (code : Value) (h3 : Heap) (tk : Nat) (more : Array Value), Heap.ExtBut P (s1.heap.push o) h3 → (s1.heap.push o).objs.size ≤ h3.objs.size → h3.get? P = some { cls := .none, data := .fields (ps ++ more) } → TriplesOk (ps ++ more).toList →
      wpAny (model X.prog X.w) X.A (builtinsFor X.env.globals X.env.builtins) (fun bi s4 =>
        ∃ I0 fp wr n0 Pf0 Z0 pz F0, Value.ref s1.heap.objs.size = .ref I0 ∧ (∀ B : Around, B.handled = none → Walks X.prog X.w B I0 fp wr n0 Pf0 Z0) ∧ Z0 0 s4.heap ∧ (∀ b ∈ fp, b < s4.heap.objs.size) ∧ s4.heap.NoLimit ∧ cStatics ∉ wr ∧
          (∀ hq : Heap, (∀ b o, s4.heap.get? b = some o → hq.get? b = some o) →
            QuietGen X.prog X.w (genEnv scope (cloFrom X.env.cells scope.names []) s4.heap.objs.size code bi X.env) x [] elt (List.range s4.heap.objs.size) wr Pf0 pz F0 hq) ∧
          (∀ g h5 tk5 gs, gs.bare = true → s4.heap.objs.size < g → h5.objs.size = g + 1 → (∀ b o, s4.heap.get? b = some o → h5.get? b = some o) →
            WalksS X.prog X.w X.A.in4 g (g :: s4.heap.objs.size :: List.range s4.heap.objs.size) (s4.heap.objs.size :: wr) (GenOnlyQ s4.gens.size) (passing pz n0 0).length
              (fun j y => ∃ i, (passing pz n0 0)[j]? = some i ∧ F0 i y) (GenAt X.prog X.w X.A.in4 g s4.gens.size s4.heap.objs.size (List.range s4.heap.objs.size) wr pz n0 F0) →
            GenAt X.prog X.w X.A.in4 g s4.gens.size s4.heap.objs.size (List.range s4.heap.objs.size) wr pz n0 F0 0 { s4 with gens := s4.gens.push gs, toks := tk5, heap := h5 } →
            W (.ref g) { s4 with gens := s4.gens.push gs, toks := tk5, heap := h5 })) X.xe { s1 with heap := h3, toks := tk } := by
    intro code h3 tk more hx hsz hP3 trip3
    obtain ⟨bm, ob, e1, e2, e3, e4, e5, e6, e7, e8⟩ := TB.bm
    have keep3 : ∀ b u, b ≠ P → s1.heap.get? b = some u → h3.get? b = some u := fun b u hb e => hx b u hb (Heap.get?_push_of_some _ e)
    have stP : cStatics ≠ P := fun z => by
      obtain ⟨_, ⟨o1, es, ep, ho, hd, _⟩, _⟩ := J1.nolimit
      rw [z, hPs] at ho
      cases ho
      cases hd
    have stL : cStatics < s1.heap.objs.size := by
      obtain ⟨_, hns, _⟩ := J1.nolimit
      exact hns.lt
    have newP : s1.heap.objs.size ≠ P := Nat.ne_of_gt ltP
    refine wpAny_builtinsFor (m := X.mg) (by rw [J1.ok.glob]; exact ((J1.mod.glob.keeps J1.bk).push o).extBut hx TB.gP) e1 e2 (keep3 _ _ e4 (J1.bk _ _ e5)) e6 e7 e8 ?_
    refine ⟨s1.heap.objs.size, s1.heap.objs.size :: aux, [s1.heap.objs.size], n, Pf, Z, fun _ => true, F, rfl, wk, ?_, ?_, lim.extBut hx stP, ?_, ?_, ?_⟩
    · refine (wk X.A hr.hd).frame _ _ _ z0 fun b hb u e => hx b u (fun z => ?_) e
      rcases List.mem_cons.mp hb with z2 | z2
      · exact newP (z2.symm.trans z)
      · exact (hau b z2).2 z
    · intro b hb
      show b < h3.objs.size
      have up : s1.heap.objs.size < h3.objs.size := by omega
      rcases List.mem_cons.mp hb with z2 | z2
      · rw [z2]
        exact up
      · exact Nat.lt_trans (hau b z2).1 up
    · intro z
      rcases List.mem_cons.mp z with z2 | z2
      · exact Nat.ne_of_lt stL z2
      · cases z2
    · intro hq keepq
      refine ⟨fun B E2 i v s2 m2 hB hv hn hm hk => ?_, fun B E2 i v s2 m2 hB hv _ hn hm hk => ?_⟩
      · simp only [List.forIn_nil]
        exact wpAny_pure ⟨rfl, GxR.keeps_refl _⟩
      · refine hel _ B E2 i v s2 m2 rfl rfl rfl rfl hB hv hn hm fun b u hb e => ?_
        have lb := Heap.lt_size e
        have up : s1.heap.objs.size < h3.objs.size := by omega
        refine hk b (List.mem_range.mpr (Nat.lt_trans lb up)) (fun z => ?_) u (keepq b u (keep3 b u hb e))
        rcases List.mem_cons.mp z with z2 | z2
        · exact Nat.ne_of_lt lb z2
        · cases z2
    · intro g h5 tk5 gs hgb hag hsz5 hk5 W5 gat
      simp only [GxR.passing_true, List.length_range] at W5
      refine fin g _ ⟨_, _, _, _, _, W5, fun j v hv => ?_, gat, fun b hb => ?_, List.mem_cons_self, fun i s9 h9 => h9.1.typeIs, fun s' hm => ?_⟩
      · obtain ⟨i, hij, e⟩ := hv
        obtain ⟨_, ej⟩ := List.getElem?_eq_some_iff.mp hij
        rw [List.getElem_range] at ej
        subst ej
        exact e
      · show b < h5.objs.size
        have h8 : h3.objs.size < g := hag
        have h9 : h5.objs.size = g + 1 := hsz5
        have u1 : g < h5.objs.size := by
          rw [h9]
          exact Nat.lt_succ_self g
        have u2 : h3.objs.size < h5.objs.size := Nat.lt_trans h8 u1
        rcases List.mem_cons.mp hb with z | z
        · rw [z]
          exact u1
        · rcases List.mem_cons.mp z with z | z
          · rw [z]
            exact u2
          · exact Nat.lt_trans (show b < h3.objs.size from List.mem_range.mp z) u2
      · have old : ∀ b u, s1.heap.get? b = some u → b ∉ h3.objs.size :: [s1.heap.objs.size] := fun b u e hb => by
          have lb := Heap.lt_size e
          have up : s1.heap.objs.size < h3.objs.size := by omega
          rcases List.mem_cons.mp hb with z | z
          · exact Nat.ne_of_lt (Nat.lt_trans lb up) z
          · rcases List.mem_cons.mp z with z | z
            · exact Nat.ne_of_lt lb z
            · cases z
        have R := GxR.inv_tab (more := more) (h' := s'.heap) (g' := s'.gens) (d' := s'.drawn) (t' := s'.toks) J1 hP (fun b u hb e => hm.heap b u (old b u e) (hk5 b u (keep3 b u hb e)))
          (hm.heap P _ (old P _ hPs) (hk5 P _ hP3)) (AllBare.movedS (J1.bare.push hgb) hm)
        rw [GxR.sh_eta s1 s' hm.os] at R
        exact ⟨_, ⟨⟨ps ++ more, upd_same, trip3⟩, fun b hb => upd_ne hb⟩, R⟩
  refine ⟨lim, ?_⟩
  cases hf : codeAmong gpos ps.toList with
  | none =>
    refine wpAny_genexprCodeX hcode (cd.code hP2 trip) (cd.tab hP2) hf fun c' h' tk hx hge hlt hco' _ htab' _ => ?_
    obtain ⟨o1, vs, f1, tf, fl, tg, inF, tx, tt, op, _, _, _, _, _, _, _, _, _, htr, _⟩ := hco'
    exact go2 _ h' tk _ hx (Nat.le_trans hge (Nat.le_of_lt hlt)) htab'.2 htr
  | some cv =>
    refine wpAny_genexprCode_hit hcode (cd.code hP2 trip) hf ?_
    exact go2 cv (s1.heap.push o) s1.toks #[] (Heap.ExtBut.refl _ _) (Nat.le_refl _) (by rw [Array.append_empty]; exact hP2) (by rw [Array.append_empty]; exact trip)
/-! tuple(element for x in walked) -/
structure PSrc (X : Cx) (P : Addr) (iter : Expr) (ti : L2.St → Hp → (List V → Hp → Prop) → Prop) : Prop where
  run : ∀ (pins : List (Addr × Obj)) (s : Shared) (σ : L2.St) (H : Hp) (R : List V → Hp → Prop), Inv X pins σ H s → ti σ H (fun xs H1 => GxR.TabG H1 P ∧ R xs H1) →
    wpAny (model X.prog X.w) X.A (eval iter X.env) (fun xv s1 => ∃ (H1 : Hp) (xs : List V), Inv X pins σ H1 s1 ∧ GxR.TabG H1 P ∧ R xs H1 ∧ SrcOk X P s1 xv xs.length (fun i u => ∃ y, xs[i]? = some y ∧ RelV y u)) X.xe s
/-- where the element is reckoned: the generator's own frame -/
structure InGen (X : Cx) (P : Addr) (scope : Scope) (s1 : Shared) (cenv : Env) (B : Around) (s2 : Shared) (m2 : Str → Option Value) : Prop where
  sc : cenv.scope = scope
  cells : cenv.cells = cloFrom X.env.cells scope.names []
  glob : cenv.globals = X.env.globals
  blt : cenv.builtins = builtinsNs
  hd : B.handled = none
  ns : s2.heap.Ns cenv.locals m2
  keep : ∀ b o, b ≠ P → s1.heap.get? b = some o → s2.heap.get? b = some o
structure PElt (X : Cx) (P : Addr) (scope : Scope) (x : Str) (elt : Expr) (te : L2.St → Hp → V → V → Prop) : Prop where
  run : ∀ (pins : List (Addr × Obj)) (s1 : Shared) (σ : L2.St) (H : Hp), Inv X pins σ H s1 → GxR.TabG H P → ∀ (cenv : Env) (B : Around) (E2 : Value → Shared → Prop) (s2 : Shared) (m2 : Str → Option Value) (v y : V) (u : Value),
    InGen X P scope s1 cenv B s2 m2 → RelV v u → te σ H v y → m2 x = some u → wpAny (model X.prog X.w) B (eval elt cenv) (fun z s3 => RelV y z ∧ Keeps s2 s3) E2 s2
def tTupG (P : Addr) (ti : L2.St → Hp → (List V → Hp → Prop) → Prop) (te : L2.St → Hp → V → V → Prop) : TE := fun σ H Q => ti σ H fun xs H1 => GxR.TabG H1 P ∧ xs.length ≤ sizeLine ∧ ∃ ys : List V, ys.length = xs.length ∧
  (∀ (i : Nat) (x : V), xs[i]? = some x → ∃ y, ys[i]? = some y ∧ te σ H1 x y) ∧ ∀ H2 p, GxR.Tabbed P H1 H2 → H2 p = none → Q (.ref p) (upd H2 p (.tup ys))
theorem vals_of : ∀ (ys : List V) (us : List Value), us.length = ys.length → (∀ (j : Nat) (u : Value), us[j]? = some u → ∃ y, ys[j]? = some y ∧ RelV y u) → Vals ys us
  | [], [], _, _ => .nil
  | y :: ys, u :: us, hl, h => by
    obtain ⟨y1, e1, r1⟩ := h 0 u rfl
    cases e1
    exact .cons r1 (vals_of ys us (by simpa using hl) fun j v hj => h (j + 1) v hj)
theorem pe_tupG {X : Cx} {c P : Addr} {elt iter : Expr} {x : Str} {px p pos gpos : Pos} {scope : Scope} {ti : L2.St → Hp → (List V → Hp → Prop) → Prop} {te : L2.St → Hp → V → V → Prop} {k : Nat}
    (hr : Room k X.A) (hg : Gl X "tuple") (hm : X.mg "tuple" = none) (hb : bootBuiltins "tuple" = some (.type "tuple")) (TB : GxR.TabB X.base X.mg c P) (hcode : X.env.code = .ref c) (S : GxR.GenS X.env scope x)
    (hi : PSrc X P iter ti) (hel : PElt X P scope x elt te) (hs : ∀ v, genFold iter X.env v = pure v)
    (he : starEach [.GeneratorExp elt [⟨.Name x px, iter, [], 0⟩] scope gpos] X.env = (false, eval (.GeneratorExp elt [⟨.Name x px, iter, [], 0⟩] scope gpos) X.env) :: starEach [] X.env := by rfl) :
    PE X (.Call (.Name "tuple" p) [.GeneratorExp elt [⟨.Name x px, iter, [], 0⟩] scope gpos] [] pos) (tTupG P ti te) := by
  refine ⟨fun pins s σ H Q I h => ?_⟩
  refine wpAny_Call_Name_kw (ld_blt I hg hm hb ?_)
  refine PyProof.Rows.callWith_type1 ?_ he (by rfl)
  rw [he]
  show wpAny _ _ (spliced ((false, eval (.GeneratorExp elt [⟨.Name x px, iter, [], 0⟩] scope gpos) X.env) :: backTo pos (starEach [] X.env))) _ _ s
  have h2 : ti σ H fun xs H1 => GxR.TabG H1 P ∧ (xs.length ≤ sizeLine ∧ ∃ ys : List V, ys.length = xs.length ∧ (∀ (i : Nat) (x : V), xs[i]? = some x → ∃ y, ys[i]? = some y ∧ te σ H1 x y) ∧ ∀ H2 p, GxR.Tabbed P H1 H2 → H2 p = none → Q (.ref p) (upd H2 p (.tup ys))) := h
  refine Calls.spliced_cons (gen_one (pins := pins) (σ := σ) hr TB hcode S hs (wpAny_mono (hi.run pins s σ H _ I h2) (fun xv s1 z => ?_) fun _ _ e => e))
  obtain ⟨H1, xs, J, ⟨ps, hP, trip⟩, ⟨lx, ys, ly, hys, q⟩, src⟩ := z
  refine ⟨H1, ps, xs.length, _, fun i u => ∃ y, ys[i]? = some y ∧ RelV y u, J, hP, trip, src, ?_, fun g s5 at5 => ?_⟩
  · intro cenv B E2 i v s2 m2 h1 h3 h4 h5 h6 hv h7 h8 h9
    obtain ⟨w1, ew, rw1⟩ := hv
    obtain ⟨y, ey, ty⟩ := hys i w1 ew
    exact wpAny_mono (hel.run pins s1 σ H1 J ⟨ps, hP, trip⟩ cenv B E2 s2 m2 w1 y v ⟨h1, h3, h4, h5, h6, h7, h9⟩ rw1 ty h8) (fun z s3 r => ⟨⟨y, ey, r.1⟩, r.2⟩) fun _ _ e => e
  · refine Calls.spliced_nil ?_
    obtain ⟨fp, wr, G, F', Z, W5, im, z0, hfp, hgf, hT, hinv⟩ := at5
    refine PySem.call_tuple_gen (n := xs.length) W5.in4_3 hT z0 hfp hgf (fun s' acc mv it => ?_) lx
    obtain ⟨H2, tb, J2⟩ := hinv s' mv
    have vs : Vals ys acc.toList := vals_of ys acc.toList (by rw [Array.length_toList, it.1, ly]) fun j u hj => im j u (it.2 j u (by simpa using hj))
    refine ⟨.ref s'.heap.objs.size, _, J2.laid (t' := s'.toks) (o := .tup ys) (fun b ob e => Heap.get?_push_of_some _ e) (Nat.le_refl _) ⟨by omega, acc.toList, vs, ?_⟩, rfl, q H2 _ tb (J2.hok.fresh (Nat.le_refl _))⟩
    have ea : acc.toList.toArray = acc := by simp
    rw [ea]
    exact IsTup.new _ _
/-- range(e) -/
theorem src_range {X : Cx} {P : Addr} {a : Expr} {ta : TA} {p pos : Pos} (hg : Gl X "range") (hm : X.mg "range" = none) (ha : PA X [a] ta) (hs : starEach [a] X.env = [(false, eval a X.env)] := by rfl) :
    PSrc X P (.Call (.Name "range" p) [a] [] pos) (fun σ H R => ta σ H fun vs H1 => ∃ n : Nat, vs = [.int (n : Nat)] ∧ n ≤ sizeLine ∧ R ((List.range n).map fun i => V.int (i : Nat)) H1) := by
  refine ⟨fun pins s σ H R I h => ?_⟩
  refine Call_ (ld_blt I hg hm boot_range (PyProof.Rows.callWith_type1 (thn (ha.run pos pins s σ H _ I h) fun us s1 ⟨vs, H1, J, r1, q1⟩ => ?_) hs rfl))
  obtain ⟨n, rfl, hn, tg, q⟩ := q1
  cases r1 with
  | cons r rr =>
    cases rr
    obtain ⟨t, rfl⟩ := r
    have hsl : sizeLine = 16777216 := by decide
    refine call_range_1 ⟨H1, _, J.kept fun b o e => Heap.get?_push_of_some _ e, tg, q, ?_⟩
    refine ⟨_, [], fun i h => IsRangeIter h (s1.heap.push { cls := .type "range", data := .fields #[.int 0 s1.toks, .int (n : Nat) t, .int 1 (s1.toks + 1)] }).objs.size ((0 : Int) + (i : Nat) * 1) ((n : Int) - (i : Nat)) 1, fun Q hQ => wpAny_pyIter_range (IsRange.new ..) (small_one (by omega) (by omega) (by omega) (by omega)) hQ, fun b hb => (by cases hb), fun B hB => ?_, ?_⟩
    · rw [List.length_map, List.length_range]
      have W0 := Walks.range (prog := X.prog) (w := X.w) (A := B) hB (s1.heap.push { cls := .type "range", data := .fields #[.int 0 s1.toks, .int (n : Nat) t, .int 1 (s1.toks + 1)] }).objs.size 0 1 n
      exact W0.mono_item fun i v hi hv => by
        obtain ⟨t2, rfl⟩ := hv
        refine ⟨.int (i : Nat), ?_, t2, by rw [Int.zero_add, Int.mul_one]⟩
        rw [List.getElem?_map, List.getElem?_range hi]
        rfl
    · show IsRangeIter _ _ ((0 : Int) + ((0 : Nat) : Int) * 1) ((n : Int) - ((0 : Nat) : Int)) 1
      have e2 : (n : Int) - ((0 : Nat) : Int) = Builtin.Range.rangeSize 0 (n : Int) 1 := by
        rw [rangeSize_one]
        split <;> omega
      rw [e2]
      exact Heap.get?_push_size _ rfl
theorem gs_free {cells : List (Str × Addr)} {names : List (Str × NameKind)} (h : (names.all fun y => y.2 != .free || (cells.lookup y.1).isSome) = true) : ∀ y ∈ names, y.2 = .free → ∃ c, cells.lookup y.1 = some c := fun y hy e => by
  have q := List.all_eq_true.mp h y hy
  rw [e] at q
  exact Option.isSome_iff_exists.mp (by simpa using q)
/-! elements -/
section
variable {X : Cx} {pins : List (Addr × Obj)} {σ : L2.St} {H : Hp} {s1 s2 : Shared} {P c : Addr} {scope : Scope} {cenv : Env} {B : Around} {m2 : Str → Option Value} {E2 : Value → Shared → Prop}
theorem ig_local {x : Str} {u : Value} {p : Pos} {W : Value → Shared → Prop} (g : InGen X P scope s1 cenv B s2 m2) (hk : scope.kind = .function) (hl : scope.names.lookup x = some .local) (hm : m2 x = some u) {s3 : Shared} (k3 : Keeps s2 s3) (h : W u s3)
    (hd : (x == ("__debug__" : Str)) = false := by decide) : wpAny (model X.prog X.w) B (eval (.Name x p) cenv) W E2 s3 := by
  obtain ⟨h3, tk, rfl, kp⟩ := k3
  exact wpAny_Name (wpAny_loadName_local (by rw [g.sc]; exact hk) (show cenv.scope.names.lookup x = some .local by rw [g.sc]; exact hl) (g.ns.keeps kp) hm h) hd
theorem ig_free {x : Str} {i : Nat} {v : V} {p : Pos} {W : Value → Shared → Prop} (I : Inv X pins σ H s1) (tg : GxR.TabG H P) (g : InGen X P scope s1 cenv B s2 m2) (hk : scope.kind = .function) (hl : scope.names.lookup x = some .free)
    (hN : X.N[i]? = some x) (hσ : σ[i]? = some (some v)) (hX : X.env.scope.names.lookup x = some .cell) (hcl : ∀ cells : List (Str × Addr), (cloFrom cells scope.names []).lookup x = some ((cells.lookup x).getD 0)) {s3 : Shared} (k3 : Keeps s2 s3)
    (h : ∀ u, RelV v u → W u s3) (hn : (x == ("__classdict__" : Str)) = false := by decide) (hd : (x == ("__debug__" : Str)) = false := by decide) : wpAny (model X.prog X.w) B (eval (.Name x p) cenv) W E2 s3 := by
  obtain ⟨h3, tk, rfl, kp⟩ := k3
  obtain ⟨m, _, hloc⟩ := I.loc
  obtain ⟨u, ru, lk⟩ := hloc i x v hN hσ (.inr (.inl hX))
  rcases lk with ⟨h1, _⟩ | ⟨_, cc, h2, ic⟩
  · have h1 : X.env.scope.names.lookup x = some .local := h1
    rw [hX] at h1
    cases h1
  · obtain ⟨ps, hP, _⟩ := tg
    have ncP : cc ≠ P := fun z => by
      have q := I.freeC x cc h2
      rw [z, hP] at q
      cases q
    obtain ⟨o, ho, hd2⟩ := ic
    have lk2 : cenv.cells.lookup x = some cc := by
      rw [g.cells, hcl, h2]
      rfl
    exact wpAny_Name (wpAny_loadName_free (by rw [g.sc]; exact hk) (show cenv.scope.names.lookup x = some .free by rw [g.sc]; exact hl) lk2 ⟨o, kp _ _ (g.keep _ _ ncP ho), hd2⟩ (h u ru) hn) hd
theorem ig_blt {x : Str} {u : Value} {p : Pos} {W : Value → Shared → Prop} (I : Inv X pins σ H s1) (tg : GxR.TabG H P) (TB : GxR.TabB X.base X.mg c P) (g : InGen X P scope s1 cenv B s2 m2) (hk : scope.kind = .function) (hl : scope.names.lookup x = some .globalImplicit)
    (hm : X.mg x = none) (hv : bootBuiltins x = some u) {s3 : Shared} (k3 : Keeps s2 s3) (h : W u s3) (hn : x ≠ "__name__" := by decide) (hd : (x == ("__debug__" : Str)) = false := by decide) : wpAny (model X.prog X.w) B (eval (.Name x p) cenv) W E2 s3 := by
  obtain ⟨h3, tk, rfl, kp⟩ := k3
  obtain ⟨mb, h1, h2⟩ := I.mod.blt
  obtain ⟨ps, hP, _⟩ := tg
  have hPs : s1.heap.get? P = some { cls := .none, data := .fields ps } := I.hok P _ hP
  have n1 : s1.heap.Ns mainGlobals X.mg := I.mod.glob.keeps I.bk
  have n2 : s1.heap.Ns builtinsNs mb := h1.keeps I.bk
  have up : ∀ {a : Addr} {m : Str → Option Value}, s1.heap.Ns a m → h3.Ns a m := fun {a m} ⟨o, es, ep, ho, hd1, r⟩ => by
    have na : a ≠ P := fun z => by
      rw [z, hPs] at ho
      cases ho
      cases hd1
    exact ⟨o, es, ep, kp _ _ (g.keep _ _ na ho), hd1, r⟩
  exact Calls.Name_function_global (by rw [g.sc]; exact hk) (show cenv.scope.names.lookup x = some .globalImplicit by rw [g.sc]; exact hl) (Calls.loadGlobal_builtin (by rw [g.glob, I.ok.glob]; exact up n1) hm (by rw [g.blt]; exact up n2) ((h2 x hn).trans hv) h) hd
theorem kp_tok {s3 : Shared} (k : Keeps s2 s3) (n : Nat) : Keeps s2 { s3 with toks := n } := by
  obtain ⟨h', tk, rfl, kp⟩ := k
  exact ⟨h', n, rfl, kp⟩
/-- a tracked tuple, read in the generator's frame -/
theorem ig_tup {a : Addr} {xs : List V} (I : Inv X pins σ H s1) (tg : GxR.TabG H P) (g : InGen X P scope s1 cenv B s2 m2) (ha : H a = some (.tup xs)) {s3 : Shared} (k3 : Keeps s2 s3) : ∃ its : List Value, Vals xs its ∧ IsTup s3.heap a its.toArray ∧ xs.length ≤ sizeLine := by
  obtain ⟨h3, tk, rfl, kp⟩ := k3
  obtain ⟨ps, hP, _⟩ := tg
  obtain ⟨hz, its, r, ⟨o, ho, rest⟩⟩ := I.hok a _ ha
  have naP : a ≠ P := ne_of ha hP (fun z => by cases z)
  exact ⟨its, r, ⟨o, kp _ _ (g.keep _ _ naP ho), rest⟩, hz⟩
end
/-- row[(at - by) % len(row)] -/
theorem elt_late {X : Cx} {P c : Addr} {scope : Scope} {i j : Nat} {xr xa xb : Str} {p1 p2 p3 p4 p5 p6 p7 p8 p9 : Pos} (TB : GxR.TabB X.base X.mg c P) (hk : scope.kind = .function) (l1 : scope.names.lookup xa = some .local) (l2 : scope.names.lookup xr = some .free) (l3 : scope.names.lookup xb = some .free)
    (l4 : scope.names.lookup ("len" : Str) = some .globalImplicit) (hm : X.mg "len" = none) (hNi : X.N[i]? = some xr) (hNj : X.N[j]? = some xb) (hXi : X.env.scope.names.lookup xr = some .cell) (hXj : X.env.scope.names.lookup xb = some .cell)
    (c1 : ∀ cells : List (Str × Addr), (cloFrom cells scope.names []).lookup xr = some ((cells.lookup xr).getD 0)) (c2 : ∀ cells : List (Str × Addr), (cloFrom cells scope.names []).lookup xb = some ((cells.lookup xb).getD 0))
    (n1 : (xr == ("__classdict__" : Str)) = false := by decide) (n2 : (xr == ("__debug__" : Str)) = false := by decide) (n3 : (xb == ("__classdict__" : Str)) = false := by decide) (n4 : (xb == ("__debug__" : Str)) = false := by decide) (n5 : (xa == ("__debug__" : Str)) = false := by decide) :
    PElt X P scope xa (.Subscript (.Name xr p1) (.BinOp (.BinOp (.Name xa p2) .Sub (.Name xb p3) p4) .Mod (.Call (.Name "len" p5) [.Name xr p6] [] p7) p8) p9)
      (fun σ H v y => ∃ (a : Addr) (xs : List V) (by_ : Int) (t : Nat), σ[i]? = some (some (.ref a)) ∧ H a = some (.tup xs) ∧ σ[j]? = some (some (.int by_)) ∧ v = .int (t : Nat) ∧ 0 < xs.length ∧ xs[(((t : Int) - by_) % (xs.length : Int)).toNat]? = some y) := by
  refine ⟨fun pins s1 σ H I tg cenv B E2 s2 m2 v y u g rv te hm2 => ?_⟩
  obtain ⟨a, xs, by_, t, h1, h2, h3, rfl, h4, h5⟩ := te
  obtain ⟨tk, rfl⟩ := (show ∃ tk, u = Value.int (t : Nat) tk from rv)
  refine Subscript_ (ig_free I tg g hk l2 hNi h1 hXi c1 (GxR.keeps_refl s2) (fun u1 r1 => ?_) n1 n2)
  obtain rfl : u1 = Value.ref a := r1
  refine wpAny_BinOp (wpAny_BinOp (ig_local g hk l1 hm2 (GxR.keeps_refl s2) ?_ n5))
  refine ig_free I tg g hk l3 hNj h3 hXj c2 (GxR.keeps_refl s2) (fun u2 r2 => ?_) n3 n4
  obtain ⟨tb, rfl⟩ := (show ∃ tb, u2 = Value.int by_ tb from r2)
  refine sub_int ?_
  refine wpAny_Call_Name_kw (ig_blt I tg TB g hk l4 hm PySem.boot_len (GxR.keeps_tok s2 _) ?_)
  refine PyProof.Rows.callWith_builtin1 ?_ rfl rfl
  refine Calls.spliced_cons (ig_free I tg g hk l2 hNi h1 hXi c1 (GxR.keeps_tok s2 _) (fun u3 r3 => ?_) n1 n2)
  obtain rfl : u3 = Value.ref a := r3
  refine Calls.spliced_nil ?_
  obtain ⟨its, rvs, it, hz⟩ := ig_tup I tg g h2 (GxR.keeps_tok s2 (s2.toks + 1))
  have hlen := rvs.length
  have hsl : sizeLine = 16777216 := by decide
  have hj : (((t : Int) - by_) % (xs.length : Int)).toNat < xs.length := (List.getElem?_eq_some_iff.mp h5).1
  refine len_tuple it (by simp only [List.size_toArray] <;> omega) ?_
  refine mod_int' (by rw [List.size_toArray, ← hlen]; omega) ?_
  rw [List.size_toArray, ← hlen, Int.fmod_eq_emod_of_nonneg _ (by omega)]
  have m0 := Int.emod_nonneg ((t : Int) - by_) (show (xs.length : Int) ≠ 0 by omega)
  obtain ⟨w1, ew, rw1⟩ := rvs.get h5
  have fin := GxR.keeps_tok s2 (s2.toks + 1 + 1 + 1 + 1)
  refine subscriptTail_builtinR (x := w1) it.typeIs slot_tuple_getitem.lookup (getItem_tuple (j := (((t : Int) - by_) % (xs.length : Int)).toNat) it (by omega) (by omega) ?_ (by simpa using ew) ⟨rfl, rw1, fin⟩)
  rw [List.size_toArray, ← hlen]


  exact seqIndex_of m0 (Int.emod_lt_of_pos _ (by omega))
/-! generator expressions over pairs -/
def EltOk2 (X : Cx) (P : Addr) (scope : Scope) (xa xb : Str) (elt : Expr) (s0 : Shared) (Pt : Nat → Array Value → Prop) (F : Nat → Value → Prop) : Prop :=
  ∀ (cenv : Env) (B : Around) (E2 : Value → Shared → Prop) (i : Nat) (va vb : Value) (s2 : Shared) (m2 : Str → Option Value), InGen X P scope s0 cenv B s2 m2 → Pt i #[va, vb] → m2 xa = some va → m2 xb = some vb →
    wpAny (model X.prog X.w) B (eval elt cenv) (fun y s3 => F i y ∧ Keeps s2 s3) E2 s2
structure Src2 (X : Cx) (P : Addr) (s0 s1 : Shared) (xv : Value) (n : Nat) (Pt : Nat → Array Value → Prop) : Prop where
  only : ∃ h1 t1, s1 = { s0 with heap := h1, toks := t1 }
  old : ∀ b o, s0.heap.get? b = some o → s1.heap.get? b = some o
  wk : ∃ (J : Addr) (fp wr : List Addr) (Z : Nat → Heap → Prop) (Mid : Nat → Addr → Heap → Prop), xv = .ref J ∧ (∀ Q : Value → Shared → Prop, Q (.ref J) s1 → wpAny (model X.prog X.w) X.A (pyIter xv) Q X.xe s1) ∧
    (∀ B : Around, B.handled = none → WalksU X.prog X.w B J fp wr n Pt Z Mid) ∧ Z 0 s1.heap ∧ (∀ b ∈ fp, b < s1.heap.objs.size ∧ b ≠ P) ∧ (∀ b ∈ wr, s0.heap.objs.size ≤ b)
  two : ∀ i vals, Pt i vals → ∃ va vb, vals = #[va, vb]
structure GenS2 (env : Env) (scope : Scope) (xa xb : Str) : Prop where
  a : GxR.GenS env scope xa
  lb : scope.names.lookup xb = some .local
  ne : xa ≠ xb
theorem gen_two {X : Cx} {pins : List (Addr × Obj)} {σ : L2.St} {s : Shared} {c P : Addr} {elt iter : Expr} {xa xb : Str} {pa pb pt gpos : Pos} {kt : Nat} {scope : Scope} {k : Nat} {W : Value → Shared → Prop}
    (hr : Room k X.A) (TB : GxR.TabB X.base X.mg c P) (hcode : X.env.code = .ref c) (S : GenS2 X.env scope xa xb) (hs : ∀ v, genFold iter X.env v = pure v)
    (h : wpAny (model X.prog X.w) X.A (eval iter X.env) (fun xv s1 => ∃ (s0 : Shared) (H1 : Hp) (ps : Array Value) (n : Nat) (Pt : Nat → Array Value → Prop) (F : Nat → Value → Prop), Inv X pins σ H1 s0 ∧ H1 P = some (.tbl ps) ∧ TriplesOk ps.toList ∧ Src2 X P s0 s1 xv n Pt ∧
      EltOk2 X P scope xa xb elt s0 Pt F ∧ ∀ g s5, AtHand X pins σ H1 P n F g s5 → W (.ref g) s5) X.xe s) :
    wpAny (model X.prog X.w) X.A (eval (.GeneratorExp elt [⟨.Tuple [.Name xa pa, .Name xb pb] kt pt, iter, [], 0⟩] scope gpos) X.env) W X.xe s := by
  have deep := hr.dp
  refine wpAny_GeneratorExp_walksQT hr.hd S.a.co (closure_ok S.a.free) S.a.cell S.a.dot S.a.loc S.lb S.ne S.a.kind (by omega) (wpAny_mono h (fun xv s1 z => ?_) fun _ _ e => e) hs
  obtain ⟨s0, H1, ps, n, Pt, F, J0, hP, trip, ⟨⟨h1, t1, rfl⟩, old1, ⟨J, fp, wr, Z, Mid, rfl, go, wk, z0, hfp, hwr⟩, two⟩, hel, fin⟩ := z
  refine go _ ?_
  have hPs : s0.heap.get? P = some { cls := .none, data := .fields ps } := J0.hok P _ hP
  have ltP : P < s0.heap.objs.size := Heap.lt_size hPs
  have hP2 : h1.get? P = some { cls := .none, data := .fields ps } := old1 _ _ hPs
  have cd : PySem.W.CodeHd h1 c P := TB.code.keeps fun b u e => old1 _ _ (J0.bk b u e)
  have lim : h1.NoLimit := J0.nolimit.keeps old1
  have go2 : ∀ (code : Value) (h3 : Heap) (tk : Nat) (more : Array Value), Heap.ExtBut P h1 h3 → h1.objs.size ≤ h3.objs.size → h3.get? P = some { cls := .none, data := .fields (ps ++ more) } → TriplesOk (ps ++ more).toList →
      wpAny (model X.prog X.w) X.A (builtinsFor X.env.globals X.env.builtins) (fun bi s4 =>
        ∃ I0 fp0 wr0 n0 Pt0 Z0 Mid0 pz F0, Value.ref J = .ref I0 ∧ (∀ B : Around, B.handled = none → WalksU X.prog X.w B I0 fp0 wr0 n0 Pt0 Z0 Mid0) ∧ (∀ i vals, Pt0 i vals → ∃ va vb, vals = #[va, vb]) ∧ Z0 0 s4.heap ∧ (∀ b ∈ fp0, b < s4.heap.objs.size) ∧ s4.heap.NoLimit ∧ cStatics ∉ wr0 ∧
          (∀ hq : Heap, (∀ b o, s4.heap.get? b = some o → hq.get? b = some o) →
            QuietGenT X.prog X.w (genEnv scope (cloFrom X.env.cells scope.names []) s4.heap.objs.size code bi X.env) xa xb [] elt (List.range s4.heap.objs.size) wr0 Pt0 pz F0 hq) ∧
          (∀ g h5 tk5 gs, gs.bare = true → s4.heap.objs.size < g → h5.objs.size = g + 1 → (∀ b o, s4.heap.get? b = some o → h5.get? b = some o) →
            WalksS X.prog X.w X.A.in4 g (g :: s4.heap.objs.size :: List.range s4.heap.objs.size) (s4.heap.objs.size :: wr0) (GenOnlyQ s4.gens.size) (passing pz n0 0).length
              (fun j y => ∃ i, (passing pz n0 0)[j]? = some i ∧ F0 i y) (GenAt X.prog X.w X.A.in4 g s4.gens.size s4.heap.objs.size (List.range s4.heap.objs.size) wr0 pz n0 F0) →
            GenAt X.prog X.w X.A.in4 g s4.gens.size s4.heap.objs.size (List.range s4.heap.objs.size) wr0 pz n0 F0 0 { s4 with gens := s4.gens.push gs, toks := tk5, heap := h5 } →
            W (.ref g) { s4 with gens := s4.gens.push gs, toks := tk5, heap := h5 })) X.xe { s0 with heap := h3, toks := tk } := by
    intro code h3 tk more hx hsz hP3 trip3
    obtain ⟨bm, ob, e1, e2, e3, e4, e5, e6, e7, e8⟩ := TB.bm
    have keep3 : ∀ b u, b ≠ P → s0.heap.get? b = some u → h3.get? b = some u := fun b u hb e => hx b u hb (old1 b u e)
    have stP : cStatics ≠ P := fun z => by
      obtain ⟨_, ⟨o1, es, ep, ho, hd, _⟩, _⟩ := J0.nolimit
      rw [z, hPs] at ho
      cases ho
      cases hd
    have stL : cStatics < s0.heap.objs.size := by
      obtain ⟨_, hns, _⟩ := J0.nolimit
      exact hns.lt
    refine wpAny_builtinsFor (m := X.mg) (by rw [J0.ok.glob]; exact ((J0.mod.glob.keeps J0.bk).keeps old1).extBut hx TB.gP) e1 e2 (keep3 _ _ e4 (J0.bk _ _ e5)) e6 e7 e8 ?_
    refine ⟨J, fp, wr, n, Pt, Z, Mid, fun _ => true, F, rfl, wk, two, ?_, ?_, lim.extBut hx stP, ?_, ?_, ?_⟩
    · exact (wk X.A hr.hd).frame _ _ _ z0 fun b hb u e => hx b u (hfp b hb).2 e
    · intro b hb
      exact Nat.lt_of_lt_of_le (show b < h1.objs.size from (hfp b hb).1) hsz
    · intro z
      exact Nat.lt_irrefl _ (Nat.lt_of_lt_of_le stL (hwr _ z))
    · intro hq keepq
      refine ⟨fun B E2 i va vb s2 m2 hB hv hn hma hmb hk => ?_, fun B E2 i va vb s2 m2 hB hv _ hn hma hmb hk => ?_⟩
      · simp only [List.forIn_nil]
        exact wpAny_pure ⟨rfl, GxR.keeps_refl _⟩
      · refine hel _ B E2 i va vb s2 m2 ⟨rfl, rfl, rfl, rfl, hB, hn, fun b u hb e => ?_⟩ hv hma hmb
        have lb := Heap.lt_size e
        refine hk b (List.mem_range.mpr (Nat.lt_of_lt_of_le (Heap.lt_size (old1 b u e)) hsz)) (fun z => ?_) u (keepq b u (keep3 b u hb e))
        exact Nat.lt_irrefl _ (Nat.lt_of_lt_of_le lb (hwr b z))
    · intro g h5 tk5 gs hgb hag hsz5 hk5 W5 gat
      simp only [GxR.passing_true, List.length_range] at W5
      refine fin g _ ⟨_, _, _, _, _, W5, fun j v hv => ?_, gat, fun b hb => ?_, List.mem_cons_self, fun i s9 h9 => h9.1.typeIs, fun s' hm => ?_⟩
      · obtain ⟨i, hij, e⟩ := hv
        obtain ⟨_, ej⟩ := List.getElem?_eq_some_iff.mp hij
        rw [List.getElem_range] at ej
        subst ej
        exact e
      · show b < h5.objs.size
        have v8 : h3.objs.size < g := hag
        have v9 : h5.objs.size = g + 1 := hsz5
        have u1 : g < h5.objs.size := by
          rw [v9]
          exact Nat.lt_succ_self g
        have u2 : h3.objs.size < h5.objs.size := Nat.lt_trans v8 u1
        rcases List.mem_cons.mp hb with z | z
        · rw [z]
          exact u1
        · rcases List.mem_cons.mp z with z | z
          · rw [z]
            exact u2
          · exact Nat.lt_trans (show b < h3.objs.size from List.mem_range.mp z) u2
      · have old : ∀ b u, s0.heap.get? b = some u → b ∉ h3.objs.size :: wr := fun b u e hb => by
          have lb := Heap.lt_size e
          rcases List.mem_cons.mp hb with z | z
          · exact Nat.ne_of_lt (Nat.lt_of_lt_of_le (Heap.lt_size (old1 b u e)) hsz) z
          · exact Nat.lt_irrefl _ (Nat.lt_of_lt_of_le lb (hwr b z))
        have R := GxR.inv_tab (more := more) (h' := s'.heap) (g' := s'.gens) (d' := s'.drawn) (t' := s'.toks) J0 hP (fun b u hb e => hm.heap b u (old b u e) (hk5 b u (keep3 b u hb e)))
          (hm.heap P _ (old P _ hPs) (hk5 P _ hP3)) (AllBare.movedS (J0.bare.push hgb) hm)
        rw [GxR.sh_eta s0 s' hm.os] at R
        exact ⟨_, ⟨⟨ps ++ more, upd_same, trip3⟩, fun b hb => upd_ne hb⟩, R⟩
  refine ⟨lim, ?_⟩
  cases hf : codeAmong gpos ps.toList with
  | none =>
    refine wpAny_genexprCodeX hcode (cd.code hP2 trip) (cd.tab hP2) hf fun c' h' tk hx hge hlt hco' _ htab' _ => ?_
    obtain ⟨o1, vs, f1, tf, fl, tg, inF, tx, tt, op, _, _, _, _, _, _, _, _, _, htr, _⟩ := hco'
    exact go2 _ h' tk _ hx (Nat.le_trans hge (Nat.le_of_lt hlt)) htab'.2 htr
  | some cv =>
    refine wpAny_genexprCode_hit hcode (cd.code hP2 trip) hf ?_
    exact go2 cv h1 t1 #[] (Heap.ExtBut.refl _ _) (Nat.le_refl _) (by rw [Array.append_empty]; exact hP2) (by rw [Array.append_empty]; exact trip)
structure PElt2 (X : Cx) (P : Addr) (scope : Scope) (xa xb : Str) (elt : Expr) (te : V → V → V → Prop) : Prop where
  run : ∀ (pins : List (Addr × Obj)) (s0 : Shared) (σ : L2.St) (H : Hp), Inv X pins σ H s0 → GxR.TabG H P → ∀ (cenv : Env) (B : Around) (E2 : Value → Shared → Prop) (s2 : Shared) (m2 : Str → Option Value) (v1 v2 y : V) (u1 u2 : Value),
    InGen X P scope s0 cenv B s2 m2 → RelV v1 u1 → RelV v2 u2 → te v1 v2 y → m2 xa = some u1 → m2 xb = some u2 → wpAny (model X.prog X.w) B (eval elt cenv) (fun z s3 => RelV y z ∧ Keeps s2 s3) E2 s2
def tTupZ (P : Addr) (ta : TA) (te : V → V → V → Prop) : TE := fun σ H Q => ta σ H fun vs H1 => ∃ (a b : Addr) (xs ys : List V), vs = [.ref a, .ref b] ∧ H1 a = some (.tup xs) ∧ H1 b = some (.tup ys) ∧ xs.length = ys.length ∧ GxR.TabG H1 P ∧
  ∃ zs : List V, zs.length = xs.length ∧ (∀ (i : Nat) (x y : V), xs[i]? = some x → ys[i]? = some y → ∃ z, zs[i]? = some z ∧ te x y z) ∧ ∀ H2 p, GxR.Tabbed P H1 H2 → H2 p = none → Q (.ref p) (upd H2 p (.tup zs))
/-- tuple(element for xa, xb in zip(e, e2)), two tuples of one length -/
theorem pe_tupZ {X : Cx} {c P : Addr} {elt e e2 : Expr} {xa xb : Str} {pa pb pt p p2 pos gpos zpos : Pos} {kt : Nat} {scope : Scope} {ta : TA} {te : V → V → V → Prop} {k : Nat}
    (hr : Room k X.A) (hg : Gl X "tuple") (hm : X.mg "tuple" = none) (hb : bootBuiltins "tuple" = some (.type "tuple")) (hgz : Gl X "zip") (hmz : X.mg "zip" = none) (TB : GxR.TabB X.base X.mg c P) (hcode : X.env.code = .ref c) (S : GenS2 X.env scope xa xb)
    (ha : PA X [e, e2] ta) (hel : PElt2 X P scope xa xb elt te) (hs : ∀ v, genFold (.Call (.Name "zip" p2) [e, e2] [] zpos) X.env v = pure v)
    (he : starEach [.GeneratorExp elt [⟨.Tuple [.Name xa pa, .Name xb pb] kt pt, .Call (.Name "zip" p2) [e, e2] [] zpos, [], 0⟩] scope gpos] X.env = (false, eval (.GeneratorExp elt [⟨.Tuple [.Name xa pa, .Name xb pb] kt pt, .Call (.Name "zip" p2) [e, e2] [] zpos, [], 0⟩] scope gpos) X.env) :: starEach [] X.env := by rfl)
    (hz1 : starEach [e, e2] X.env = (false, eval e X.env) :: starEach [e2] X.env := by rfl) (hz2 : (backTo zpos (starEach [e2] X.env)).any (·.1) = false := by rfl) :
    PE X (.Call (.Name "tuple" p) [.GeneratorExp elt [⟨.Tuple [.Name xa pa, .Name xb pb] kt pt, .Call (.Name "zip" p2) [e, e2] [] zpos, [], 0⟩] scope gpos] [] pos) (tTupZ P ta te) := by
  refine ⟨fun pins s σ H Q I h => ?_⟩
  refine wpAny_Call_Name_kw (ld_blt I hg hm hb ?_)
  refine PyProof.Rows.callWith_type1 ?_ he (by rfl)
  rw [he]
  show wpAny _ _ (spliced ((false, eval (.GeneratorExp elt [⟨.Tuple [.Name xa pa, .Name xb pb] kt pt, .Call (.Name "zip" p2) [e, e2] [] zpos, [], 0⟩] scope gpos) X.env) :: backTo pos (starEach [] X.env))) _ _ s
  refine Calls.spliced_cons (gen_two (pins := pins) (σ := σ) hr TB hcode S hs ?_)
  refine Call_ (ld_blt I hgz hmz PyProof.Rows.boot_zip (PyProof.Rows.callWith_type1 (thn (ha.run zpos pins s σ H _ I h) fun us s0 ⟨vs, H1, J, r1, q1⟩ => ?_) hz1 hz2))
  obtain ⟨a, b, xs, ys, rfl, hxa, hyb, hxy, tg, zs, lz, hzs, q⟩ := q1
  cases r1 with
  | cons r rr =>
    cases rr with
    | cons r' rr =>
      cases rr
      cases r
      cases r'
      obtain ⟨ix, rx, px, hz⟩ := J.tuple (show SqT X.K H1 a xs from .inl (.inl hxa))
      obtain ⟨iy, ry, py, _⟩ := J.tuple (show SqT X.K H1 b ys from .inl (.inl hyb))
      obtain ⟨ps, hP, trip⟩ := tg
      have naP : a ≠ P := ne_of hxa hP (fun z => by cases z)
      have nbP : b ≠ P := ne_of hyb hP (fun z => by cases z)
      have lta : a < s0.heap.objs.size := by
        obtain ⟨o, ho, _⟩ := px
        exact Heap.lt_size ho
      have ltb : b < s0.heap.objs.size := by
        obtain ⟨o, ho, _⟩ := py
        exact Heap.lt_size ho
      have ltP : P < s0.heap.objs.size := Heap.lt_size (J.hok P _ hP)
      have hnx := rx.length
      have hny := ry.length
      refine RZ.call_zipT (show s0.heap.IsTuple a ix.toArray from px) (show s0.heap.IsTuple b iy.toArray from py) fun h1 isz hTI hTO i1 i2 sz5 keep => ?_
      refine ⟨s0, H1, ps, xs.length, fun i vals => ∃ x1 x2, ix.toArray[i]? = some x1 ∧ iy.toArray[i]? = some x2 ∧ vals = #[x1, x2], fun i u => ∃ z, zs[i]? = some z ∧ RelV z u, J, hP, trip, ⟨⟨h1, s0.toks, rfl⟩, keep, ?_, ?_⟩, ?_, fun g s5 at5 => ?_⟩
      · have en : min ix.toArray.size iy.toArray.size = xs.length := by
          rw [List.size_toArray, List.size_toArray]
          omega
        have WW := fun (B : Around) (hB : B.handled = none) => (WalksT.zipD2 (prog := X.prog) (w := X.w) (A := B) (zip_sep2 (N := s0.heap.objs.size) (fp1 := [a]) (fp2 := [b]) (fun c hc => by rw [List.mem_singleton.mp hc]; exact lta) (fun c hc => by rw [List.mem_singleton.mp hc]; exact ltb))
          (Draws.tuple (A := B.in1) hB s0.heap.objs.size a (Nat.ne_of_lt lta) ix.toArray) (Draws.tuple (A := B.in1) hB (s0.heap.objs.size + 1) b (Nat.ne_of_lt (Nat.lt_succ_of_lt ltb)) iy.toArray)).toU
        simp only [en] at WW
        refine ⟨s0.heap.objs.size + 4, _, _, _, _, rfl, fun Q hQ => wpAny_pyIter_zip isz hQ, WW, ⟨isz, hTI, ⟨_, _, hTO⟩, ⟨i1, (show s0.heap.IsTuple a ix.toArray from px).at fun o e => keep _ o e⟩, ⟨i2, (show s0.heap.IsTuple b iy.toArray from py).at fun o e => keep _ o e⟩⟩, fun d hd => ?_, fun d hd => ?_⟩
        · show d < h1.objs.size ∧ d ≠ P
          rw [sz5]
          have up : ∀ j : Nat, j < 5 → (s0.heap.objs.size + j : Nat) < s0.heap.objs.size + 5 ∧ (s0.heap.objs.size + j : Nat) ≠ P := fun j hj => ⟨by omega, Nat.ne_of_gt (Nat.lt_of_lt_of_le ltP (Nat.le_add_right _ _))⟩
          have hd' : d = s0.heap.objs.size + 4 ∨ d = s0.heap.objs.size + 2 ∨ d = s0.heap.objs.size + 3 ∨ d = s0.heap.objs.size ∨ d = a ∨ d = s0.heap.objs.size + 1 ∨ d = b := by simpa using hd
          rcases hd' with z | z | z | z | z | z | z
          · rw [z]; exact up 4 (by decide)
          · rw [z]; exact up 2 (by decide)
          · rw [z]; exact up 3 (by decide)
          · rw [z]; exact up 0 (by decide)
          · rw [z]; exact ⟨Nat.lt_of_lt_of_le lta (Nat.le_add_right _ _), naP⟩
          · rw [z]; exact up 1 (by decide)
          · rw [z]; exact ⟨Nat.lt_of_lt_of_le ltb (Nat.le_add_right _ _), nbP⟩
        · have hd' : d = s0.heap.objs.size + 4 ∨ d = s0.heap.objs.size + 3 ∨ d = s0.heap.objs.size ∨ d = s0.heap.objs.size + 1 := by simpa using hd
          rcases hd' with z | z | z | z
          · rw [z]; exact Nat.le_add_right _ _
          · rw [z]; exact Nat.le_add_right _ _
          · rw [z]; exact Nat.le_refl _
          · rw [z]; exact Nat.le_add_right _ _
      · rintro i vals ⟨x1, x2, _, _, rfl⟩
        exact ⟨x1, x2, rfl⟩
      · intro cenv B E2 i va vb s2 m2 ig hv hma hmb
        obtain ⟨x1, x2, e1, e2', ev⟩ := hv
        have ev1 : va = x1 ∧ vb = x2 := by simpa using ev
        obtain ⟨rfl, rfl⟩ := ev1
        have hi : i < xs.length := by
          have := (Array.getElem?_eq_some_iff.mp e1).1
          rw [List.size_toArray] at this
          omega
        have gx : xs[i]? = some xs[i] := List.getElem?_eq_getElem hi
        have gy : ys[i]? = some (ys[i]'(by omega)) := List.getElem?_eq_getElem (by omega)
        obtain ⟨w1, ew1, rw1⟩ := rx.get gx
        obtain ⟨w2, ew2, rw2⟩ := ry.get gy
        have f1 : va = w1 := by
          have z : ix[i]? = some va := by simpa using e1
          rw [z] at ew1
          exact Option.some.inj ew1
        have f2 : vb = w2 := by
          have z : iy[i]? = some vb := by simpa using e2'
          rw [z] at ew2
          exact Option.some.inj ew2
        subst f1 f2
        obtain ⟨z, ez, tz⟩ := hzs i _ _ gx gy
        exact wpAny_mono (hel.run pins s0 σ H1 J ⟨ps, hP, trip⟩ cenv B E2 s2 m2 _ _ z va vb ig rw1 rw2 tz hma hmb) (fun y s3 rr => ⟨⟨z, ez, rr.1⟩, rr.2⟩) fun _ _ e => e
      · refine Calls.spliced_nil ?_
        obtain ⟨fp, wr, G, F', Z, W5, im, z0, hfp, hgf, hT, hinv⟩ := at5
        refine PySem.call_tuple_gen (n := xs.length) W5.in4_3 hT z0 hfp hgf (fun s' acc mv it => ?_) hz
        obtain ⟨H2, tb, J2⟩ := hinv s' mv
        have vs : Vals zs acc.toList := vals_of zs acc.toList (by rw [Array.length_toList, it.1, lz]) fun j u hj => im j u (it.2 j u (by simpa using hj))
        refine ⟨.ref s'.heap.objs.size, _, J2.laid (t' := s'.toks) (o := .tup zs) (fun b ob e => Heap.get?_push_of_some _ e) (Nat.le_refl _) ⟨by omega, acc.toList, vs, ?_⟩, rfl, q H2 _ tb (J2.hok.fresh (Nat.le_refl _))⟩
        have ea : acc.toList.toArray = acc := by simp
        rw [ea]
        exact IsTup.new _ _
/-! len({len(row) for row in rows}) -/
def cnt (ls : List Int) : Nat := (ls.foldl (fun (st : List Int × Nat) k => (st.1 ++ [k], if k ∈ st.1 then st.2 else st.2 + 1)) ([], 0)).2
theorem cnt_fst (ls : List Int) : ∀ (a : List Int) (n : Nat), (ls.foldl (fun (st : List Int × Nat) k => (st.1 ++ [k], if k ∈ st.1 then st.2 else st.2 + 1)) (a, n)).1 = a ++ ls := by
  induction ls with
  | nil => intro a n; rw [List.append_nil]; rfl
  | cons x r ih =>
    intro a n
    rw [List.foldl_cons, ih, List.append_assoc]
    rfl
theorem cnt_snoc (ls : List Int) (k : Int) : cnt (ls ++ [k]) = if k ∈ ls then cnt ls else cnt ls + 1 := by
  unfold cnt
  rw [List.foldl_append]
  show (if k ∈ (ls.foldl _ ([], 0)).1 then _ else _) = _
  rw [cnt_fst]
  rfl
theorem cnt_le (ls : List Int) : cnt ls ≤ ls.length := by
  rw [← List.reverse_reverse ls]
  induction ls.reverse with
  | nil => exact Nat.le_refl 0
  | cons x r ih =>
    rw [List.reverse_cons, cnt_snoc, List.length_append]
    split
    · exact Nat.le_trans ih (Nat.le_add_right _ _)
    · exact Nat.succ_le_succ ih
theorem lenB : bootBuiltins "len" = some (.builtin "len") := PySem.boot_len
theorem pe_lenSC {X : Cx} {i : Nat} {x r : Str} {scope : Scope} {p1 p2 p3 p4 p5 p6 p7 p8 : Pos} (hgl : Gl X "len") (hm : X.mg "len" = none) (hc : X.calm = true) (hN : X.N[i]? = some r) (hv : Vis X.env.scope r) (hk : scope.kind = .function)
    (hcell : ∀ y ∈ scope.names, y.2 ≠ .cell) (hnm : ∀ y ∈ scope.names, y.2 = .local → scope.names.lookup y.1 = some .local) (hfr : ∀ y ∈ scope.names, y.2 ≠ .free) (hx : scope.names.lookup x = some .local) (hl : (relabel scope X.env).names.lookup ("len" : Str) = some .globalImplicit)
    (hd : (x == ("__debug__" : Str)) = false := by decide) (hd2 : (r == ("__debug__" : Str)) = false := by decide) (hd3 : (r == ("__classdict__" : Str)) = false := by decide)
    (he : starEach [.SetComp (.Call (.Name "len" p2) [.Name x p3] [] p4) [⟨.Name x p5, .Name r p6, [], 0⟩] scope p7] X.env = (false, eval (.SetComp (.Call (.Name "len" p2) [.Name x p3] [] p4) [⟨.Name x p5, .Name r p6, [], 0⟩] scope p7) X.env) :: starEach [] X.env := by rfl) :
    PE X (.Call (.Name "len" p1) [.SetComp (.Call (.Name "len" p2) [.Name x p3] [] p4) [⟨.Name x p5, .Name r p6, [], 0⟩] scope p7] [] p8)
      (fun σ H Q => ∃ (l : Addr) (as : List (Addr × List V)), σ[i]? = some (some (.ref l)) ∧ H l = some (.lst (as.map fun q => V.ref q.1)) ∧ as.length ≤ 8 ∧ (∀ q ∈ as, H q.1 = some (.tup q.2)) ∧ Q (.int ((cnt (as.map fun q => ((q.2.length : Nat) : Int)) : Nat))) H) := by
  refine ⟨fun pins s σ H Q I h => ?_⟩
  obtain ⟨l, as, hσ, hH, hln, hts, q⟩ := h
  have hh := I.ok.hd hc
  have hsl : sizeLine = 16777216 := by decide
  have hsb : 100 < scanBound := by decide
  refine wpAny_Call_Name_kw (ld_blt I hgl hm lenB ?_)
  refine PyProof.Rows.callWith_builtin1 ?_ he (by rfl)
  rw [he]
  show wpAny _ _ (spliced ((false, eval (.SetComp (.Call (.Name "len" p2) [.Name x p3] [] p4) [⟨.Name x p5, .Name r p6, [], 0⟩] scope p7) X.env) :: backTo p8 (starEach [] X.env))) _ _ s
  refine Calls.spliced_cons (SetComp_goes (closure_ok fun y hy e => absurd e (hfr y hy)) hcell hk hnm ?_ (by intro _; rfl))
  refine thn ((pe_var (pos := p6) hN hv hd2 hd3).run pins s σ H (fun v H1 => v = .ref l ∧ H1 = H) I ⟨_, hσ, rfl, rfl⟩) fun xv s1 ⟨v, H1, I1, r1, e1, e2⟩ => ?_
  subst e1 e2
  obtain rfl : xv = Value.ref l := r1
  obtain ⟨its, rv, pl, _⟩ := I1.list (show SqL X.K H1 l _ from .inl (.inl hH))
  have hIL := pl.isList
  have hlt : l < s1.heap.objs.size := by
    obtain ⟨o, ho, _⟩ := hIL
    exact Heap.lt_size ho
  refine wpAny_pyIter_list hIL ?_
  generalize hs2 : ({ s1 with heap := s1.heap.push { cls := .type "list_iterator", data := .fields #[.ref l, .int 0 0] } } : Shared) = s2
  have k12 : ∀ b o, s1.heap.get? b = some o → s2.heap.get? b = some o := fun b o e => by
    rw [← hs2]
    exact Heap.get?_push_of_some _ e
  have hit : s2.heap.IsListIter s1.heap.objs.size l 0 := by
    rw [← hs2]
    exact ⟨_, Heap.get?_push_size _ rfl, rfl, rfl⟩
  have z2 : s2.heap.objs.size = s1.heap.objs.size + 1 := by
    rw [← hs2]
    exact Heap.size_push ..
  have os2 : s2.os = s1.os ∧ s2.gens = s1.gens ∧ s2.drawn = s1.drawn := by
    rw [← hs2]
    exact ⟨rfl, rfl, rfl⟩
  have len : its.length = as.length := by rw [← rv.length, List.length_map]
  refine ⟨s1.heap.objs.size, _, _, _, _, _, rfl, Goes.list hh s1.heap.objs.size l (Nat.ne_of_lt hlt) its.toArray, ⟨hit, hIL.at fun o e => k12 _ o e⟩, fun D C s3 hB hD => ?_⟩
  obtain ⟨⟨h3, tk3, rfl⟩, old, nD, nC, hDC, hns⟩ := hB
  let ls : List Int := as.map fun q => ((q.2.length : Nat) : Int)
  have hls : ls.length = as.length := List.length_map ..
  have ltD : s1.heap.objs.size < D := by
    have h9 : s2.heap.objs.size ≤ D := nD
    exact Nat.lt_of_lt_of_le (by rw [z2]; exact Nat.lt_succ_self _) h9
  have ltC : s1.heap.objs.size < C := by
    have h9 : s2.heap.objs.size ≤ C := nC
    exact Nat.lt_of_lt_of_le (by rw [z2]; exact Nat.lt_succ_self _) h9
  refine ⟨fun i s' => ∃ h' tk m, s' = { s2 with heap := h', toks := tk } ∧ h'.Ns C m ∧ SetR X.w h' D (fun k => decide (k ∈ ls.take i)) (cnt (ls.take i)) ∧ ∀ b o, s1.heap.get? b = some o → h'.get? b = some o, ⟨h3, tk3, _, rfl, hns, ?_, fun b o e => old b o (k12 b o e)⟩, ?_, ?_, ?_⟩
  · refine ⟨_, #[], 0, _, hD, ⟨rfl, rfl, rfl⟩, rfl, (fun e he => by simp at he), (by simp), (fun k => by simp), (by decide), (by rfl), rfl, List.Pairwise.nil, ?_⟩
    show _ ∨ (!X.w.params.followText "set-order") = true
    cases X.w.params.followText "set-order" with
    | false => exact .inr rfl
    | true => exact .inl rfl
  · rintro i s' h' tk ⟨h4, tk4, m, rfl, n4, R4, k4⟩ hk' _
    have off : ∀ b : Addr, b ≠ s1.heap.objs.size → b ∉ [s1.heap.objs.size] := fun b hb hm => hb (List.mem_singleton.mp hm)
    exact ⟨h', tk, m, rfl, n4.at' fun o e => hk' _ o (off _ (Nat.ne_of_gt ltC)) e, R4.at fun o e => hk' _ o (off _ (Nat.ne_of_gt ltD)) e, fun b o e => hk' b o (off _ (Nat.ne_of_lt (Heap.lt_size e))) (k4 b o e)⟩
  · rintro i v s' hi hv st ⟨h4, tk4, m, rfl, n4, R4, k4⟩
    have hv2 : its[i]? = some v := by simpa using hv
    have hi2 : i < as.length := by
      have := (List.getElem?_eq_some_iff.mp hv2).1
      omega
    have ga : (as.map fun q => V.ref q.1)[i]? = some (V.ref as[i].1) := by
      rw [List.getElem?_map, List.getElem?_eq_getElem hi2]
      rfl
    obtain ⟨u, hu, ru⟩ := rv.get ga
    rw [hv2] at hu
    cases hu
    obtain rfl : v = Value.ref as[i].1 := ru
    have hti := hts as[i] (List.getElem_mem hi2)
    obtain ⟨its2, rv2, it2, hz2⟩ := I1.tuple (show SqT X.K H1 as[i].1 _ from .inl (.inl hti))
    have hkx : (compEnvC scope (cloFrom X.env.cells scope.names []) C X.env).kindOf x = some .local := lookup_relabel_local hx
    have hp : ((compEnvC scope (cloFrom X.env.cells scope.names []) C X.env).scope.kind == .class || ((compEnvC scope (cloFrom X.env.cells scope.names []) C X.env).scope.kind == .module && (compEnvC scope (cloFrom X.env.cells scope.names []) C X.env).locals != (compEnvC scope (cloFrom X.env.cells scope.names []) C X.env).globals)) = false := by
      show (scope.kind == .class || (scope.kind == .module && _)) = false
      rw [hk]
      rfl
    refine wpAny_assign_Name (wpAny_storeName_local hkx n4 (fun h5 n5 s5 => ?_) hp)
    have k5 : ∀ b o, b ≠ C → h4.get? b = some o → h5.get? b = some o := fun b o hb e => (s5.2 b hb).trans e
    have k15 : ∀ b o, s1.heap.get? b = some o → h5.get? b = some o := fun b o e => k5 b o (Nat.ne_of_lt (Nat.lt_trans (Heap.lt_size e) ltC)) (k4 b o e)
    refine wpAny_tests_nil ?_
    rw [if_pos rfl]
    obtain ⟨mb, b1, b2⟩ := I1.mod.blt
    have up : ∀ {a : Addr} {m : Str → Option Value}, X.base.Ns a m → h5.Ns a m := fun n => (n.keeps I1.bk).keeps k15
    refine wpAny_Call_Name_kw (Calls.Name_function_global hk hl (Calls.loadGlobal_builtin (show h5.Ns X.env.globals X.mg by rw [I1.ok.glob]; exact up I1.mod.glob) hm (show h5.Ns X.env.builtins mb by rw [I1.ok.blt]; exact up b1) ((b2 "len" (by decide)).trans lenB) ?_))
    refine PyProof.Rows.callWith_builtin1 ?_ rfl rfl
    refine Calls.spliced_cons (wpAny_Name (wpAny_loadName_local hk hkx n5 (by rw [if_pos rfl]) ?_) hd)
    refine Calls.spliced_nil ?_
    obtain ⟨ot, hot, rest⟩ := it2
    refine len_tuple (items := its2.toArray) ⟨ot, k15 _ _ hot, rest⟩ (by simp only [List.size_toArray]; have := rv2.length; omega) ?_
    have R5 : SetR X.w h5 D (fun k => decide (k ∈ ls.take i)) (cnt (ls.take i)) := R4.at fun o e => k5 _ o hDC e
    have gl : ls[i]? = some ((its2.toArray.size : Nat) : Int) := by
      show (as.map _)[i]? = _
      rw [List.getElem?_map, List.getElem?_eq_getElem hi2, List.size_toArray, ← rv2.length]
      rfl
    refine setR_add R5 ?_ fun h6 sb6 new => ?_
    · have := cnt_le (ls.take i)
      rw [List.length_take] at this
      omega
    · have tk1 : ls.take (i + 1) = ls.take i ++ [((its2.toArray.size : Nat) : Int)] := by
        rw [List.take_add_one, gl]
        rfl
      have k6 : ∀ b o, b ≠ D → h5.get? b = some o → h6.get? b = some o := fun b o hb e => (sb6.2 b hb).trans e
      refine ⟨⟨h6, _, _, rfl, n5.at' fun o e => k6 _ o (Ne.symm hDC) e, ?_, fun b o e => k6 b o (Nat.ne_of_lt (Nat.lt_trans (Heap.lt_size e) ltD)) (k15 b o e)⟩, ?_⟩
      · rw [tk1, cnt_snoc]
        have e1 : (if decide (((its2.toArray.size : Nat) : Int) ∈ ls.take i) = true then cnt (ls.take i) else cnt (ls.take i) + 1) = (if ((its2.toArray.size : Nat) : Int) ∈ ls.take i then cnt (ls.take i) else cnt (ls.take i) + 1) := by
          by_cases z : ((its2.toArray.size : Nat) : Int) ∈ ls.take i
          · rw [if_pos z, if_pos (decide_eq_true z)]
          · rw [if_neg z, if_neg (fun y => z (of_decide_eq_true y))]
        rw [← e1]
        refine new.congr fun k => ?_
        rw [Bool.eq_iff_iff]
        simp
      · have a1 : s1.heap.objs.size ≠ C := Nat.ne_of_lt ltC
        have a2 : s1.heap.objs.size ≠ D := Nat.ne_of_lt ltD
        have a3 : l ≠ C := Nat.ne_of_lt (Nat.lt_trans hlt ltC)
        have a4 : l ≠ D := Nat.ne_of_lt (Nat.lt_trans hlt ltD)
        exact ⟨st.1.at fun o e => k6 _ o a2 (k5 _ o a1 e), st.2.at fun o e => k6 _ o a4 (k5 _ o a3 e)⟩
  · rintro s' ⟨h4, tk4, m, rfl, n4, R4, k4⟩
    refine ⟨m, n4, fun h5 sb => ?_⟩
    refine Calls.spliced_nil ?_
    have k5 : ∀ b o, b ≠ C → h4.get? b = some o → h5.get? b = some o := fun b o hb e => (sb.2 b hb).trans e
    obtain ⟨o, es, ep, t, ho, hx9, hd9, _, _, _, hb9, hf9, hn9, _⟩ := R4
    have el : ls.take its.toArray.size = ls := List.take_of_length_le (by rw [List.size_toArray, len, hls]; exact Nat.le_refl _)
    rw [el] at hn9
    have sm := cnt_le ls
    refine call_len_set (k5 _ _ hDC ho) hx9 hd9 hf9 (by omega) ?_
    subst hs2
    refine ⟨.int _, H1, I1.kept fun b u e => k5 b u (Nat.ne_of_lt (Nat.lt_trans (Heap.lt_size e) ltC)) (k4 b u e), ⟨tk4 + 1, by rw [hn9]⟩, q⟩
/-! sum(tuple) -/
theorem preSum_take (ns : List Int) : ∀ k, preSum (fun i => ns.getD i 0) k = (ns.take k).sum
  | 0 => rfl
  | k + 1 => by
    show preSum (fun i => ns.getD i 0) k + ns.getD k 0 = _
    rw [preSum_take ns k, List.take_add_one, List.getD_eq_getElem?_getD]
    cases ns[k]? with
    | none => simp
    | some x => simp
def rSumT (K : PySem.W.Frag) : List V → Hp → VK → Prop := fun vs H Q => ∃ (a : Addr) (ns : List Int), vs = [V.ref a] ∧ SqT K H a (ns.map V.int) ∧ Q (.int ns.sum) H
theorem cr_sumT {X : Cx} (hc : X.calm = true) : CallR X (.builtin "sum") (rSumT X.K) := by
  intro pins s σ H vs us Q I r h
  obtain ⟨a, ns, rfl, hs, q⟩ := h
  obtain ⟨its, rv, ht, _⟩ := I.tuple hs
  rw [Vals.ref1 r]
  have hh := I.ok.hd hc
  have lta : a < s.heap.objs.size := by
    obtain ⟨o, ho, _⟩ := ht
    exact Heap.lt_size ho
  have hl := rv.length
  rw [List.length_map] at hl
  refine call_sum_walkG (wpAny_pyIter_tuple (show s.heap.IsTuple a its.toArray from ht) ⟨s.heap.objs.size, _, _, _, _, _, fun i => ns.getD i 0, rfl, Walks.tuple (A := X.A.in1) hh s.heap.objs.size a (Nat.ne_of_lt lta) its.toArray, ⟨⟨_, Heap.get?_push_size _ rfl, rfl, rfl⟩, (show s.heap.IsTuple a its.toArray from ht).at fun o e => Heap.get?_push_of_some _ e⟩, fun b hb => ?_, fun i v hv => ?_, fun h' tk t' hk => ?_⟩)
  · show b < (s.heap.push _).objs.size
    rw [Heap.size_push]
    rcases List.mem_cons.mp hb with z | z
    · rw [z]
      exact Nat.lt_succ_self _
    · rw [List.mem_singleton.mp z]
      exact Nat.lt_succ_of_lt lta
  · have hv2 : its[i]? = some v := by simpa using hv
    have hi : i < ns.length := by
      have := (List.getElem?_eq_some_iff.mp hv2).1
      omega
    obtain ⟨u, hu, ru⟩ := rv.get (show (ns.map V.int)[i]? = some (V.int ns[i]) by rw [List.getElem?_map, List.getElem?_eq_getElem hi]; rfl)
    rw [hv2] at hu
    cases hu
    obtain ⟨t, rfl⟩ := (show ∃ t, v = Value.int ns[i] t from ru)
    exact ⟨t, by
      show Value.int ns[i] t = Value.int (ns.getD i 0) t
      rw [List.getD_eq_getElem?_getD, List.getElem?_eq_getElem hi]
      rfl⟩
  · rw [preSum_take, List.take_of_length_le (by rw [List.size_toArray]; omega)]
    refine ⟨.int _, H, I.kept fun b o e => hk b o (fun z => ?_) (Heap.get?_push_of_some _ e), ⟨_, rfl⟩, q⟩
    rw [List.mem_singleton] at z
    rw [z] at e
    exact Nat.lt_irrefl _ (Heap.lt_size e)
theorem sumTK {X : Cx} {K : PySem.W.Frag} (h : X.K = K) (hc : X.calm = true) : CallR X (.builtin "sum") (rSumT K) := by
  subst h
  exact cr_sumT hc
/-! elements -/
theorem elt_and {X : Cx} {P : Addr} {scope : Scope} {xa xb : Str} {p1 p2 p3 : Pos} (hk : scope.kind = .function) (l1 : scope.names.lookup xa = some .local) (l2 : scope.names.lookup xb = some .local)
    (n1 : (xa == ("__debug__" : Str)) = false := by decide) (n2 : (xb == ("__debug__" : Str)) = false := by decide) :
    PElt2 X P scope xa xb (.BinOp (.Name xa p1) .BitAnd (.Name xb p2) p3) (fun x y z => ∃ i j : Int, x = .int i ∧ y = .int j ∧ z = .int (Builtin.bitAnd i j)) := by
  refine ⟨fun pins s0 σ H I tg cenv B E2 s2 m2 v1 v2 y u1 u2 g r1 r2 te hma hmb => ?_⟩
  obtain ⟨i, j, rfl, rfl, rfl⟩ := te
  obtain ⟨t1, rfl⟩ := (show ∃ t, u1 = Value.int i t from r1)
  obtain ⟨t2, rfl⟩ := (show ∃ t, u2 = Value.int j t from r2)
  refine wpAny_BinOp (ig_local g hk l1 hma (GxR.keeps_refl s2) ?_ n1)
  refine ig_local g hk l2 hmb (GxR.keeps_refl s2) ?_ n2
  exact and_int ⟨⟨_, rfl⟩, GxR.keeps_tok s2 _⟩
theorem elt_or {X : Cx} {P : Addr} {scope : Scope} {xa xb : Str} {p1 p2 p3 : Pos} (hk : scope.kind = .function) (l1 : scope.names.lookup xa = some .local) (l2 : scope.names.lookup xb = some .local)
    (n1 : (xa == ("__debug__" : Str)) = false := by decide) (n2 : (xb == ("__debug__" : Str)) = false := by decide) :
    PElt2 X P scope xa xb (.BinOp (.Name xa p1) .BitOr (.Name xb p2) p3) (fun x y z => ∃ i j : Int, x = .int i ∧ y = .int j ∧ z = .int (Builtin.bitOr i j)) := by
  refine ⟨fun pins s0 σ H I tg cenv B E2 s2 m2 v1 v2 y u1 u2 g r1 r2 te hma hmb => ?_⟩
  obtain ⟨i, j, rfl, rfl, rfl⟩ := te
  obtain ⟨t1, rfl⟩ := (show ∃ t, u1 = Value.int i t from r1)
  obtain ⟨t2, rfl⟩ := (show ∃ t, u2 = Value.int j t from r2)
  refine wpAny_BinOp (ig_local g hk l1 hma (GxR.keeps_refl s2) ?_ n1)
  refine ig_local g hk l2 hmb (GxR.keeps_refl s2) ?_ n2
  exact or_int ⟨⟨_, rfl⟩, GxR.keeps_tok s2 _⟩
theorem elt_xor {X : Cx} {P : Addr} {scope : Scope} {xa xb : Str} {p1 p2 p3 : Pos} (hk : scope.kind = .function) (l1 : scope.names.lookup xa = some .local) (l2 : scope.names.lookup xb = some .local)
    (n1 : (xa == ("__debug__" : Str)) = false := by decide) (n2 : (xb == ("__debug__" : Str)) = false := by decide) :
    PElt2 X P scope xa xb (.BinOp (.Name xa p1) .BitXor (.Name xb p2) p3) (fun x y z => ∃ i j : Int, x = .int i ∧ y = .int j ∧ z = .int (Builtin.bitXor i j)) := by
  refine ⟨fun pins s0 σ H I tg cenv B E2 s2 m2 v1 v2 y u1 u2 g r1 r2 te hma hmb => ?_⟩
  obtain ⟨i, j, rfl, rfl, rfl⟩ := te
  obtain ⟨t1, rfl⟩ := (show ∃ t, u1 = Value.int i t from r1)
  obtain ⟨t2, rfl⟩ := (show ∃ t, u2 = Value.int j t from r2)
  refine wpAny_BinOp (ig_local g hk l1 hma (GxR.keeps_refl s2) ?_ n1)
  refine ig_local g hk l2 hmb (GxR.keeps_refl s2) ?_ n2
  exact xor_int ⟨⟨_, rfl⟩, GxR.keeps_tok s2 _⟩
/-! heaps with tables -/
theorem trip0 : TriplesOk (#[] : Array Value).toList := trivial
structure Sam (H H' : Hp) : Prop where
  obj : ∀ b o, (∀ ps, o ≠ .tbl ps) → H b = some o → H' b = some o
  tab : ∀ b ps, H b = some (.tbl ps) → ∃ ps', H' b = some (.tbl ps') ∧ (TriplesOk ps.toList → TriplesOk ps'.toList)
theorem Sam.of {H H' : Hp} (s : Same H H') : Sam H H' := ⟨fun b o _ e => s b o e, fun b ps e => ⟨ps, s b _ e, fun z => z⟩⟩
theorem Sam.refl (H : Hp) : Sam H H := .of (Same.refl H)
theorem Sam.trans {H H1 H2 : Hp} (a : Sam H H1) (b : Sam H1 H2) : Sam H H2 := ⟨fun c o n e => b.obj c o n (a.obj c o n e), fun c ps e => by
  obtain ⟨p1, e1, t1⟩ := a.tab c ps e
  obtain ⟨p2, e2, t2⟩ := b.tab c p1 e1
  exact ⟨p2, e2, fun z => t2 (t1 z)⟩⟩
theorem Sam.tabG {H H' : Hp} {P : Addr} (a : Sam H H') (t : GxR.TabG H P) : GxR.TabG H' P := by
  obtain ⟨ps, e, z⟩ := t
  obtain ⟨p1, e1, t1⟩ := a.tab P ps e
  exact ⟨p1, e1, t1 z⟩
theorem Sam.tup {H H' : Hp} {a : Addr} {xs : List V} (s : Sam H H') (h : H a = some (.tup xs)) : H' a = some (.tup xs) := s.obj _ _ (fun _ z => by cases z) h
theorem Sam.lst {H H' : Hp} {a : Addr} {xs : List V} (s : Sam H H') (h : H a = some (.lst xs)) : H' a = some (.lst xs) := s.obj _ _ (fun _ z => by cases z) h
theorem Sam.free {H H' : Hp} (s : Sam H H') {l : Addr} (h : H' l = none) : H l = none := by
  cases q : H l with
  | none => rfl
  | some o =>
    cases o with
    | tbl ps =>
      obtain ⟨p1, e1, _⟩ := s.tab l ps q
      rw [e1] at h
      cases h
    | _ =>
      rw [s.obj l _ (fun _ z => by cases z) q] at h
      cases h
theorem Sam.tabbed {P : Addr} {H H' : Hp} (g : GxR.TabG H P) (t : GxR.Tabbed P H H') : Sam H H' := by
  obtain ⟨⟨p1, e1, z1⟩, k⟩ := t
  obtain ⟨p0, e0, _⟩ := g
  refine ⟨fun b o n e => ?_, fun b ps e => ?_⟩
  · by_cases hb : b = P
    · rw [hb, e0] at e
      exact absurd (Option.some.inj e).symm (n p0)
    · rw [k b hb]
      exact e
  · by_cases hb : b = P
    · rw [hb]
      exact ⟨p1, e1, fun _ => z1⟩
    · exact ⟨ps, by rw [k b hb]; exact e, fun z => z⟩
theorem sam_newer {H H' : Hp} {q : Addr} {o : HO} (a : Sam H H') (n : H q = none) : Sam H (upd H' q o) := ⟨fun c x hx e => by
    rw [upd_ne (ne_of_none e n)]
    exact a.obj c x hx e, fun c ps e => by
    obtain ⟨p1, e1, t1⟩ := a.tab c ps e
    exact ⟨p1, by rw [upd_ne (ne_of_none e n)]; exact e1, t1⟩⟩
/-- all but the box stays, tables grow -/
structure Bus (p : Addr) (H H' : Hp) : Prop where
  obj : ∀ b o, b ≠ p → (∀ ps, o ≠ .tbl ps) → H b = some o → H' b = some o
  tab : ∀ b ps, b ≠ p → H b = some (.tbl ps) → ∃ ps', H' b = some (.tbl ps') ∧ (TriplesOk ps.toList → TriplesOk ps'.toList)
theorem Bus.of {p : Addr} {H H' : Hp} (s : But p H H') : Bus p H H' := ⟨fun b o n _ e => s b o n e, fun b ps n e => ⟨ps, s b _ n e, fun z => z⟩⟩
theorem Bus.sam {p : Addr} {H H' : Hp} (s : Sam H H') : Bus p H H' := ⟨fun b o _ n e => s.obj b o n e, fun b ps _ e => s.tab b ps e⟩
theorem Bus.refl (p : Addr) (H : Hp) : Bus p H H := .of (But.refl p H)
theorem Bus.trans {p : Addr} {H H1 H2 : Hp} (a : Bus p H H1) (b : Bus p H1 H2) : Bus p H H2 := ⟨fun c o h n e => b.obj c o h n (a.obj c o h n e), fun c ps h e => by
  obtain ⟨p1, e1, t1⟩ := a.tab c ps h e
  obtain ⟨p2, e2, t2⟩ := b.tab c p1 h e1
  exact ⟨p2, e2, fun z => t2 (t1 z)⟩⟩
theorem Bus.tup {p : Addr} {H H' : Hp} {n : Nat} {a : Addr} {xs : List V} (s : Bus p H H') (B : Bx H p n) (h : H a = some (.tup xs)) : H' a = some (.tup xs) := s.obj _ _ (B.ne_tup h) (fun _ z => by cases z) h
theorem Bus.lst {p : Addr} {H H' : Hp} {a : Addr} {xs : List V} (s : Bus p H H') (ne : a ≠ p) (h : H a = some (.lst xs)) : H' a = some (.lst xs) := s.obj _ _ ne (fun _ z => by cases z) h
theorem Bus.tabG {p : Addr} {H H' : Hp} {n : Nat} {P : Addr} (s : Bus p H H') (B : Bx H p n) (t : GxR.TabG H P) : GxR.TabG H' P := by
  obtain ⟨ps, e, z⟩ := t
  obtain ⟨a, b, c, hp, _⟩ := B
  obtain ⟨p1, e1, t1⟩ := s.tab P ps (ne_of e hp (fun z => by cases z)) e
  exact ⟨p1, e1, t1 z⟩
theorem Bus.new {p q : Addr} {H H' : Hp} {o : HO} (a : Bus p H H') (n : H' q = none) : Bus p H (upd H' q o) := a.trans (.of ((But.refl p H').new n))
/-- a thing made since H may change -/
theorem bus_newer {p q : Addr} {H H' : Hp} {o : HO} (a : Bus p H H') (n : H q = none) : Bus p H (upd H' q o) := ⟨fun c x h hx e => by
    rw [upd_ne (ne_of_none e n)]
    exact a.obj c x h hx e, fun c ps h e => by
    obtain ⟨p1, e1, t1⟩ := a.tab c ps h e
    exact ⟨p1, by rw [upd_ne (ne_of_none e n)]; exact e1, t1⟩⟩
theorem Bus.free {p : Addr} {H H' : Hp} {n : Nat} (s : Bus p H H') (B : Bx H p n) (B' : ∃ m, Bx H' p m) {l : Addr} (h : H' l = none) : H l = none := by
  cases q : H l with
  | none => rfl
  | some o =>
    have nl : l ≠ p := fun z => by
      obtain ⟨m, _, _, _, hp, _⟩ := B'
      rw [z, hp] at h
      cases h
    cases o with
    | tbl ps =>
      obtain ⟨p1, e1, _⟩ := s.tab l ps nl q
      rw [e1] at h
      cases h
    | _ =>
      rw [s.obj l _ nl (fun _ z => by cases z) q] at h
      cases h
theorem Bx.sam {H H' : Hp} {p : Addr} {n : Nat} (h : Bx H p n) (s : Sam H H') : Bx H' p n := by
  obtain ⟨a, b, c, hp, r⟩ := h
  exact ⟨a, b, c, s.lst hp, r⟩
theorem bus_same {p : Addr} {H H1 H2 : Hp} (n : H p = none) (a : Sam H H1) (b : Bus p H1 H2) : Sam H H2 := ⟨fun c x h e => b.obj c x (ne_of_none e n) h (a.obj c x h e), fun c ps e => by
  obtain ⟨p1, e1, t1⟩ := a.tab c ps e
  obtain ⟨p2, e2, t2⟩ := b.tab c p1 (ne_of_none e n) e1
  exact ⟨p2, e2, fun z => t2 (t1 z)⟩⟩
theorem ne_new {H : Hp} {p q : Addr} {n : Nat} (B : Bx H p n) (nq : H q = none) : q ≠ p := fun e => by
  obtain ⟨_, _, _, hp, _⟩ := B
  rw [e, hp] at nq
  cases nq
/-! a tuple so many times -/
theorem tuple_once (l : Addr) (items : Array Value) (n : Nat) (dd : Option Addr) (sl : Array (Option Value)) (u : Tok) :
    Meets (Builtin.«tuple.__mul__» ⟨[.ref l, .int 1 u], []⟩) (fun _ R s => s.heap.get? l = some { cls := .type "tuple", dict := dd, data := .seq items n, slots := sl } ∧ R (.ok (.ret (Value.ref l))) { s with toks := s.toks }) :=
  .of_wp fun prog w A R s h => by
    obtain ⟨hp, g, d, tk, os⟩ := s
    obtain ⟨hl, h⟩ := h
    have f1 := AutoSeq1.idx_int
    have c1 : (items.isEmpty || (1 : Int) == 1) = true := by simp
    wp_walk using wpAny_loadPart' hl
    repeat (first
      | (refine wpAny_ite_true (decide_eq_true c1) ?_; wp_walk using wpAny_loadPart' hl)
      | (refine wpAny_ite_false (decide_eq_false (by decide)) ?_; wp_walk using wpAny_loadPart' hl))
    exact ⟨_, rfl, h⟩
def rRepA (K : PySem.W.Frag) : R2 := fun x y H Q => ∃ (l : Addr) (k : Nat) (xs : List V), x = .ref l ∧ y = .int (k : Nat) ∧ SqT K H l xs ∧ xs ≠ [] ∧ 1 ≤ k ∧ xs.length * k ≤ 1000000 ∧ (k = 1 → Q (.ref l) H) ∧
  (2 ≤ k → ∀ p, H p = none → Q (.ref p) (upd H p (.tup (List.replicate k xs).flatten)))
theorem op_repA {X : Cx} : OpR X (binaryOp .Mult) (rRepA X.K) := by
  intro pins s σ H x y v u Q I rx ry h
  obtain ⟨l, k, xs, rfl, rfl, hT, hne, h1, hz, q1, q2⟩ := h
  cases rx
  obtain ⟨t, rfl⟩ := ry
  obtain ⟨its, r, ⟨⟨cls, dd, data, sl⟩, ho, hc, n, hd⟩, hs⟩ := I.tuple hT
  simp only at hc hd
  subst hc hd
  have lx : 0 < xs.length := List.length_pos_iff.mpr hne
  have le : its.length = xs.length := r.length.symm
  have ke : k * xs.length ≤ 1000000 := by
    rw [Nat.mul_comm]
    exact hz
  have kl : k ≤ 1000000 := Nat.le_trans (Nat.le_mul_of_pos_right k lx) ke
  have ne : its.toArray.isEmpty = false := by
    cases its with
    | nil =>
      rw [← le] at lx
      cases lx
    | cons a b => rfl
  by_cases k1 : k = 1
  · subst k1
    refine wpAny_binaryOp_repeat_ref (T := "tuple") (U := "int") (by decide) ⟨_, ho, rfl⟩ (fun s' => typeIs_int s' _ t) noFill_tuple_mul F.fills_int_mul F.slot_int_rmul repeat_tuple F.slot_int_index.lookup
      (call_meets F.slot_int_rmul (typeIs_int s _ t) F.entry_int_rmul (F.args_int_rmul_2 _ _) (int_rmul_tuple _ t l its.toArray n dd sl)
        ⟨ho, rfl, ⟨_, ho, rfl⟩, call_meets F.slot_tuple_mul ⟨_, ho, rfl⟩ F.entry_tuple_mul (F.args_tuple_mul_2 _ _) (tuple_once l its.toArray n dd sl t) ⟨ho, ?_⟩⟩)
    exact ⟨.ref l, H, I, rfl, q1 rfl⟩
  · have k2 : 2 ≤ k := by omega
    have sz : its.toArray.size = xs.length := by rw [List.size_toArray, le]
    have pr : ((its.toArray.size : Nat) : Int) * (k : Int) ≤ 1000000 := by
      rw [sz, ← Int.natCast_mul]
      omega
    have fl : (List.replicate k its).flatten.length ≤ sizeLine := by
      rw [PyProof.Rows.lm_len_rep_flat, le, sizeLine_eq]
      omega
    have d0 : (decide ((k : Int) < -(2 ^ 63)) || decide ((k : Int) ≥ 2 ^ 63)) = false := by
      rw [decide_eq_false (show ¬ (k : Int) < -(2 ^ 63) by omega), decide_eq_false (show ¬ (k : Int) ≥ 2 ^ 63 by omega)] <;> rfl
    have d1 : (its.toArray.isEmpty || (k : Int) == 1) = false := by
      rw [ne, Bool.false_or]
      exact beq_eq_false_iff_ne.mpr (by omega)
    have d2 : (decide ((k : Int) ≤ 0) || its.toArray.isEmpty) = false := by
      rw [ne, Bool.or_false]
      exact decide_eq_false (by omega)
    have d4 : Builtin.Tuple.tupleTooMany (((its.toArray.size : Nat) : Int) * (k : Int)) = false := by
      unfold Builtin.Tuple.tupleTooMany
      rw [sizeLine_eq]
      exact decide_eq_false (by omega)
    refine wpAny_binaryOp_repeat_ref (T := "tuple") (U := "int") (by decide) ⟨_, ho, rfl⟩ (fun s' => typeIs_int s' _ t) noFill_tuple_mul F.fills_int_mul F.slot_int_rmul repeat_tuple F.slot_int_index.lookup
      (call_meets F.slot_int_rmul (typeIs_int s _ t) F.entry_int_rmul (F.args_int_rmul_2 _ _) (int_rmul_tuple _ t l its.toArray n dd sl)
        ⟨ho, rfl, ⟨_, ho, rfl⟩, call_meets F.slot_tuple_mul ⟨_, ho, rfl⟩ F.entry_tuple_mul (F.args_tuple_mul_2 _ _) (tuple_mulW l its.toArray n dd sl (k : Int) t d0 d1 d2 (by omega) d4 (by rw [Int.toNat_natCast, size_rep, List.size_toArray]; exact fl)) ⟨ho, ?_⟩⟩)
    rw [Int.toNat_natCast, size_rep]
    refine ⟨.ref s.heap.objs.size, _, I.laid (t' := s.toks) (o := .tup (List.replicate k xs).flatten) (fun b ob q => Heap.get?_push_of_some _ q) (Nat.le_refl _) ⟨?_, _, r.rep k, IsTup.new _ _⟩, rfl, q2 k2 _ (I.hok.fresh (Nat.le_refl _))⟩
    rw [PyProof.Rows.lm_len_rep_flat, sizeLine_eq]
    omega
/-! the law's own rows -/
def Bits (rs : List Int) : Prop := ∀ x, x ∈ rs → x = 0 ∨ x = 1
theorem Bits.snoc {rs : List Int} {x : Int} (h : Bits rs) (hx : x = 0 ∨ x = 1) : Bits (rs ++ [x]) := fun y hy => by
  rcases List.mem_append.mp hy with hy | hy
  · exact h y hy
  · rw [List.mem_singleton] at hy
    rw [hy]
    exact hx
theorem but_newer {p q : Addr} {H H' : Hp} {o : HO} (a : But p H H') (n : H q = none) : But p H (upd H' q o) := fun c x hn e => by
  rw [upd_ne (ne_of_none e n)]
  exact a c x hn e
theorem Bx.other {H : Hp} {p q : Addr} {n : Nat} {o : HO} (h : Bx H p n) (nq : q ≠ p) : Bx (L2.upd H q o) p n := by
  obtain ⟨a, b, c, hp, r⟩ := h
  exact ⟨a, b, c, by rw [upd_ne (Ne.symm nq)]; exact hp, r⟩
def PV (p D : Addr) (HX : Hp) (k i : Nat) (H1 : Hp) : Prop := ∃ rs : List Int, rs.length = i ∧ Bits rs ∧ But p HX H1 ∧ Bx H1 p (k + i) ∧ H1 D = some (.lst (rs.map V.int))
theorem pv_start {p D : Addr} {HX : Hp} {k : Nat} (nD : HX D = none) (B : Bx HX p k) : PV p D HX k 0 (upd HX D (.lst [])) := ⟨[], rfl, fun _ h => (by cases h), (But.refl p HX).new nD, B.new nD, upd_same⟩
theorem pv_step {p D : Addr} {HX H1 H4 : Hp} {k i : Nat} {x : Int} (nD : HX D = none) (Dp : D ≠ p) (h : PV p D HX k i H1) (b : But p H1 H4) (B : Bx H4 p (k + (i + 1))) (hi : i < 100000) (hx : x = 0 ∨ x = 1) :
    ∃ acc, H4 D = some (.lst acc) ∧ acc.length < sizeLine ∧ PV p D HX k (i + 1) (upd H4 D (.lst (acc ++ [.int x]))) := by
  obtain ⟨rs, hl, hb, b1, _, hD⟩ := h
  have hsl : sizeLine = 16777216 := by decide
  refine ⟨_, b _ _ Dp hD, by rw [List.length_map]; omega, rs ++ [x], by rw [List.length_append, hl]; rfl, hb.snoc hx, but_newer (b1.trans b) nD, B.other Dp, ?_⟩
  rw [upd_same, List.map_append]
  rfl
theorem rep_one (m : Nat) (x : Int) : (List.replicate m [V.int x]).flatten = (List.replicate m x).map V.int := by
  rw [List.map_replicate]
  induction m with
  | zero => rfl
  | succ m ih => rw [List.replicate_succ, List.flatten_cons, ih, List.replicate_succ]; rfl
def sp__law_row (_ : PySem.W.Frag) : Sp := fun vs H Q _ => ∃ (p : Addr) (m n : Nat), vs = [.ref p, .int (m : Nat)] ∧ Bx H p n ∧ 1 ≤ m ∧ m ≤ 4096 ∧ n < 1000000000 ∧
  ∀ H' a (rs : List Int), But p H H' → Bx H' p (n + 5000) → H' a = some (.tup (rs.map V.int)) → rs.length = m → Bits rs → Q (.ref a) H'
theorem ok__law_row (T : Defs K mg) (TT : Tabs T base) : FnOk P w K mg base CX0 2 T.f__law_row T.fd__law_row ["_law_box_here", "_law_long_here"] (sp__law_row K) := by
  have G__law_take : FnOk P w K mg base CX0 1 T.f__law_take T.fd__law_take ["_law_box_here", "_law_many"] (sp__law_take K) := ok__law_take T TT
  refine T.F__law_row.ok sc__law_row (fun vs H Q E h => ?_) (fun cdv A outer s H vs Q E hr h => ?_)
  · obtain ⟨p, m, n, rfl, hB, hm, hm2, hn, q⟩ := h
    rfl
  · obtain ⟨p, m, n, rfl, hB, hm, hm2, hn, q⟩ := h
    refine ⟨_, PSs.nox (pss_cons (ps_set (i := 2) sc__law_row.nd rfl (.inl rfl) (pe_call G__law_take (hr.mono (by decide)) (by rfl) T.g__law_take T.F__law_take.kp T.b__law_take .nil pass0 (pa_cons (pv 0) (pa_cons pe_int pa_nil))))
    (pss_cons (ps_if (pt_cmpR op_eq (pv 2) pe_int (nomark _)) (pss_one (ps_ret (pe_op op_repA (pe_tup (pa_cons (pe_call G__law_take (hr.mono (by decide)) (by rfl) T.g__law_take T.F__law_take.kp T.b__law_take .nil pass0 (pa_cons (pv 0) (pa_cons pe_int pa_nil))) pa_nil)) (pv 1)))) pss_nil)
    (pss_cons (ps_if (pt_cmpR op_eq (pv 2) pe_int (nomark _)) (pss_cons (ps_asg (pe_tup (pa_cons (pe_call G__law_take (hr.mono (by decide)) (by rfl) T.g__law_take T.F__law_take.kp T.b__law_take .nil pass0 (pa_cons (pv 0) (pa_cons (pv 1) pa_nil))) (pa_cons (pe_call G__law_take (hr.mono (by decide)) (by rfl) T.g__law_take T.F__law_take.kp T.b__law_take .nil pass0 (pa_cons (pv 0) (pa_cons pe_int pa_nil))) pa_nil))) (pg_tup rfl (pgs_cons (pg_name (i := 3) sc__law_row.nd rfl (.inr rfl)) (pgs_cons (pg_name (i := 4) sc__law_row.nd rfl (.inr rfl)) pgs_nil))))
    (pss_one (ps_ret (pe_callTy call_tuple_of (by rfl) T.m_tuple bt_tuple (pa_cons (pe_lc (own := [("_law_place", 7)]) (g := gName 7) (tt := tYes) rfl sc__law_row.nd (pi_range1 (by rfl) T.m_range (pa_cons (pv 1) pa_nil)) (blkOk_by (N := N__law_row) (sc := defScope s__law_row) (by decide +kernel)) (fun _ _ _ _ _ => (pg_name (i := 7) sc__law_row.nd rfl (.inl rfl))) (fun _ _ _ _ _ => pts_nil) (fun _ _ _ _ _ => (pe_ifExp (pt_cmpR op_eq (pv 7) (pv 3) (nomark _)) (pv 4) (pe_op op_sub pe_int (pv 4))))) pa_nil))))) pss_nil)
    (pss_cons (ps_if (pt_cmpR op_eq (pv 2) pe_int (nomark _)) (pss_cons (ps_asg (pe_tup (pa_cons (pe_op op_add pe_int (pe_call G__law_take (hr.mono (by decide)) (by rfl) T.g__law_take T.F__law_take.kp T.b__law_take .nil pass0 (pa_cons (pv 0) (pa_cons pe_int pa_nil)))) (pa_cons (pe_call G__law_take (hr.mono (by decide)) (by rfl) T.g__law_take T.F__law_take.kp T.b__law_take .nil pass0 (pa_cons (pv 0) (pa_cons pe_int pa_nil))) pa_nil))) (pg_tup rfl (pgs_cons (pg_name (i := 5) sc__law_row.nd rfl (.inr rfl)) (pgs_cons (pg_name (i := 6) sc__law_row.nd rfl (.inr rfl)) pgs_nil))))
    (pss_one (ps_ret (pe_callTy call_tuple_of (by rfl) T.m_tuple bt_tuple (pa_cons (pe_lc (own := [("_law_place", 7)]) (g := gName 7) (tt := tYes) rfl sc__law_row.nd (pi_range1 (by rfl) T.m_range (pa_cons (pv 1) pa_nil)) (blkOk_by (N := N__law_row) (sc := defScope s__law_row) (by decide +kernel)) (fun _ _ _ _ _ => (pg_name (i := 7) sc__law_row.nd rfl (.inl rfl))) (fun _ _ _ _ _ => pts_nil) (fun _ _ _ _ _ => (pe_callTy call_int1 (by rfl) T.m_int bt_int (pa_cons (pe_cmpR op_eq (pe_op op_mod (pe_op op_add (pv 7) (pv 6)) (pv 5)) pe_int (nomark _)) pa_nil)))) pa_nil))))) pss_nil)
    (pss_one (ps_ret (pe_callTy call_tuple_of (by rfl) T.m_tuple bt_tuple (pa_cons (pe_lc (own := [("_law_place", 7)]) (g := gName 7) (tt := tYes) rfl sc__law_row.nd (pi_range1 (by rfl) T.m_range (pa_cons (pv 1) pa_nil)) (blkOk_by (N := N__law_row) (sc := defScope s__law_row) (by decide +kernel)) (fun _ _ _ _ _ => (pg_name (i := 7) sc__law_row.nd rfl (.inl rfl))) (fun _ _ _ _ _ => pts_nil) (fun _ _ _ _ _ => (pe_call G__law_take (hr.mono (by decide)) (by rfl) T.g__law_take T.F__law_take.kp T.b__law_take .nil pass0 (pa_cons (pv 0) (pa_cons pe_int pa_nil))))) pa_nil)))))))), ?_⟩
    refine ⟨.ref p, rfl, p, 5, n, rfl, hB, by decide, by decide, by omega, fun H1 r1 b1 B1 l1 u1 => ?_⟩
    refine ⟨.int r1, rfl, rfl, _, rfl, ite2 (fun _ => ?_) (fun _ => ?_)⟩
    · refine ⟨.ref p, rfl, p, 2, n + 1, rfl, B1, by decide, by decide, by omega, fun H2 r2 b2 B2 l2 u2 => ?_⟩
      have hbit : r2 = 0 ∨ r2 = 1 := by omega
      refine ⟨(show 1 ≤ sizeLine by decide), fun t nt => ?_⟩
      refine ⟨.int (m : Nat), rfl, t, m, _, rfl, rfl, SqT.mk upd_same, by simp, hm, (show 1 * m ≤ 1000000 by omega), fun z => ?_, fun z a na => ?_⟩
      · exact q _ t [r2] ((b1.trans b2).new nt) ((B2.new nt).mono (by omega)) upd_same z.symm (fun x hx => by
          rw [List.mem_singleton] at hx
          rw [hx]
          exact hbit)
      · refine q _ a (List.replicate m r2) (((b1.trans b2).new nt).new na) (((B2.new nt).new na).mono (by omega)) ?_ List.length_replicate (fun x hx => ?_)
        · rw [upd_same, rep_one]
        · rw [List.eq_of_mem_replicate hx]
          exact hbit
    refine ⟨.int r1, rfl, rfl, _, rfl, ite2 (fun _ => ?_) (fun _ => ?_)⟩
    · refine ⟨.ref p, rfl, .int (m : Nat), rfl, p, m, n + 1, rfl, B1, by omega, by omega, by omega, fun H2 r2 b2 B2 l2 u2 => ?_⟩
      refine ⟨.ref p, rfl, p, 2, n + 2, rfl, B2, by decide, by decide, by omega, fun H3 r3 b3 B3 l3 u3 => ?_⟩
      refine ⟨(show 2 ≤ sizeLine by decide), fun t nt => ?_⟩
      refine ⟨t, _, rfl, SqT.mk upd_same, rfl, _, _, rfl, _, _, rfl, rfl, ?_⟩
      have B4 := B3.new (o := .tup [.int r2, .int r3]) nt
      have b4 := ((b1.trans b2).trans b3).new (o := .tup [.int r2, .int r3]) nt
      generalize upd H3 t (.tup [.int r2, .int r3]) = H4 at *
      refine ⟨.int (m : Nat), rfl, m, rfl, by omega, by omega, fun D nD => ?_⟩
      refine lc_range (PV p D H4 (n + 3)) (pv_start nD B4) (fun i H5 hi h5 => ?_) (fun H5 h5 => ?_)
      · refine ⟨rfl, yes_ite ?_⟩
        have h5' := h5
        obtain ⟨_, _, _, _, B5, _⟩ := h5'
        have st : ∀ x : Int, (x = 0 ∨ x = 1) → _ := fun x hx => pv_step (H4 := H5) nD (ne_new B4 nD) h5 (But.refl p H5) (B5.mono (by omega)) (by omega) hx
        refine ⟨_, rfl, .int r2, rfl, rfl, _, rfl, ite2 (fun _ => ?_) (fun _ => ?_)⟩
        · exact ⟨.int r3, rfl, st r3 (by omega)⟩
        · exact ⟨.int r3, rfl, _, _, rfl, rfl, st (1 - r3) (by omega)⟩
      · obtain ⟨rs, hl, hb, b5, B5, hD⟩ := h5
        refine ⟨D, _, rfl, .inl ⟨SqL.mk hD, fun l nl => ?_⟩⟩
        exact q _ l rs ((b4.trans b5).new nl) ((B5.new nl).mono (by omega)) upd_same (by omega) hb
    refine ⟨.int r1, rfl, rfl, _, rfl, ite2 (fun _ => ?_) (fun _ => ?_)⟩
    · refine ⟨.ref p, rfl, p, 5, n + 1, rfl, B1, by omega, by omega, by omega, fun H2 r2 b2 B2 l2 u2 => ⟨_, _, rfl, rfl, ?_⟩⟩
      refine ⟨.ref p, rfl, p, 2, n + 2, rfl, B2, by decide, by decide, by omega, fun H3 r3 b3 B3 l3 u3 => ?_⟩
      refine ⟨(show 2 ≤ sizeLine by decide), fun t nt => ?_⟩
      refine ⟨t, _, rfl, SqT.mk upd_same, rfl, _, _, rfl, _, _, rfl, rfl, ?_⟩
      have B4 := B3.new (o := .tup [.int (2 + r2), .int r3]) nt
      have b4 := ((b1.trans b2).trans b3).new (o := .tup [.int (2 + r2), .int r3]) nt
      generalize upd H3 t (.tup [.int (2 + r2), .int r3]) = H4 at *
      refine ⟨.int (m : Nat), rfl, m, rfl, by omega, by omega, fun D nD => ?_⟩
      refine lc_range (PV p D H4 (n + 3)) (pv_start nD B4) (fun i H5 hi h5 => ?_) (fun H5 h5 => ?_)
      · refine ⟨rfl, yes_ite ?_⟩
        have h5' := h5
        obtain ⟨_, _, _, _, B5, _⟩ := h5'
        have st : ∀ x : Int, (x = 0 ∨ x = 1) → _ := fun x hx => pv_step (H4 := H5) nD (ne_new B4 nD) h5 (But.refl p H5) (B5.mono (by omega)) (by omega) hx
        refine ⟨_, rfl, .int r3, rfl, _, _, rfl, rfl, .int (2 + r2), rfl, _, _, rfl, rfl, (show (0 : Int) < 2 + r2 by omega), rfl, .inr ⟨_, rfl, st _ ?_⟩⟩
        split
        · exact .inr rfl
        · exact .inl rfl
      · obtain ⟨rs, hl, hb, b5, B5, hD⟩ := h5
        refine ⟨D, _, rfl, .inl ⟨SqL.mk hD, fun l nl => ?_⟩⟩
        exact q _ l rs ((b4.trans b5).new nl) ((B5.new nl).mono (by omega)) upd_same (by omega) hb
    · refine ⟨.int (m : Nat), rfl, m, rfl, by omega, by omega, fun D nD => ?_⟩
      refine lc_range (PV p D H1 (n + 1)) (pv_start nD B1) (fun i H5 hi h5 => ?_) (fun H5 h5 => ?_)
      · refine ⟨rfl, yes_ite ?_⟩
        have h5' := h5
        obtain ⟨_, _, _, _, B5, _⟩ := h5'
        refine ⟨.ref p, rfl, p, 2, n + 1 + i, rfl, B5, by decide, by decide, by omega, fun H6 r6 b6 B6 l6 u6 => ?_⟩
        exact pv_step nD (ne_new B1 nD) h5 b6 B6 (by omega) (by omega)
      · obtain ⟨rs, hl, hb, b5, B5, hD⟩ := h5
        refine ⟨D, _, rfl, .inl ⟨SqL.mk hD, fun l nl => ?_⟩⟩
        exact q _ l rs ((b1.trans b5).new nl) ((B5.new nl).mono (by omega)) upd_same (by omega) hb
def sp__law_long (_ : PySem.W.Frag) : Sp := fun vs H Q _ => ∃ (p : Addr) (n : Nat), vs = [.ref p] ∧ Bx H p n ∧ n < 1000000000 ∧
  ∀ H' (m : Nat), But p H H' → Bx H' p (n + 4) → 1 ≤ m → m ≤ 400 → Q (.int (m : Nat)) H'
theorem nat_of {x : Int} (h : 0 ≤ x) : ∃ m : Nat, x = (m : Nat) := Int.eq_ofNat_of_zero_le h
theorem ok__law_long (T : Defs K mg) (TT : Tabs T base) : FnOk P w K mg base CX0 2 T.f__law_long T.fd__law_long ["_law_box_here"] (sp__law_long K) := by
  have G__law_take : FnOk P w K mg base CX0 1 T.f__law_take T.fd__law_take ["_law_box_here", "_law_many"] (sp__law_take K) := ok__law_take T TT
  refine T.F__law_long.ok sc__law_long (fun vs H Q E h => ?_) (fun cdv A outer s H vs Q E hr h => ?_)
  · obtain ⟨p, n, rfl, hB, hn, q⟩ := h
    rfl
  · obtain ⟨p, n, rfl, hB, hn, q⟩ := h
    refine ⟨_, PSs.nox (pss_cons (ps_if (pt_cmpR op_eq (pe_call G__law_take (hr.mono (by decide)) (by rfl) T.g__law_take T.F__law_take.kp T.b__law_take .nil pass0 (pa_cons (pv 0) (pa_cons pe_int pa_nil))) pe_int (nomark _)) (pss_one (ps_ret (pe_op op_add pe_int (pe_call G__law_take (hr.mono (by decide)) (by rfl) T.g__law_take T.F__law_take.kp T.b__law_take .nil pass0 (pa_cons (pv 0) (pa_cons pe_int pa_nil)))))) pss_nil)
    (pss_one (ps_ret (pe_ix ix_list (pe_lst (pa_cons pe_int (pa_cons pe_int (pa_cons (pe_op op_add pe_int (pe_call G__law_take (hr.mono (by decide)) (by rfl) T.g__law_take T.F__law_take.kp T.b__law_take .nil pass0 (pa_cons (pv 0) (pa_cons pe_int pa_nil)))) (pa_cons (pe_op op_add pe_int (pe_call G__law_take (hr.mono (by decide)) (by rfl) T.g__law_take T.F__law_take.kp T.b__law_take .nil pass0 (pa_cons (pv 0) (pa_cons pe_int pa_nil)))) pa_nil))))) (pe_call G__law_take (hr.mono (by decide)) (by rfl) T.g__law_take T.F__law_take.kp T.b__law_take .nil pass0 (pa_cons (pv 0) (pa_cons pe_int pa_nil))) (fun _ _ => rfl))))), ?_⟩
    refine ⟨.ref p, rfl, p, 8, n, rfl, hB, by decide, by decide, by omega, fun H1 r1 b1 B1 l1 u1 => ?_⟩
    refine ⟨rfl, _, rfl, ite2 (fun _ => ?_) (fun _ => ?_)⟩
    · refine ⟨.ref p, rfl, p, 400, n + 1, rfl, B1, by decide, by decide, by omega, fun H2 r2 b2 B2 l2 u2 => ⟨_, _, rfl, rfl, ?_⟩⟩
      obtain ⟨m, em⟩ := nat_of (show 0 ≤ 1 + r2 by omega)
      show Q (.int (1 + r2)) H2
      rw [em]
      exact q H2 m (b1.trans b2) (B2.mono (by omega)) (by omega) (by omega)
    · refine ⟨.ref p, rfl, p, 12, n + 1, rfl, B1, by decide, by decide, by omega, fun H2 r2 b2 B2 l2 u2 => ⟨_, _, rfl, rfl, ?_⟩⟩
      refine ⟨.ref p, rfl, p, 40, n + 2, rfl, B2, by decide, by decide, by omega, fun H3 r3 b3 B3 l3 u3 => ⟨_, _, rfl, rfl, ?_⟩⟩
      refine ⟨(show 4 ≤ sizeLine by decide), fun l nl => ?_⟩
      refine ⟨.ref p, rfl, p, 4, n + 3, rfl, B3.new nl, by decide, by decide, by omega, fun H4 r4 b4 B4 l4 u4 => ?_⟩
      obtain ⟨v, ev, hv⟩ := at_menu (Pr := fun v => 1 ≤ v ∧ v ≤ 40) (xs := [1, 2, 1 + r2, 1 + r3]) l4 u4 (fun x hx => by
        rcases List.mem_cons.mp hx with rfl | hx
        · omega
        rcases List.mem_cons.mp hx with rfl | hx
        · omega
        rcases List.mem_cons.mp hx with rfl | hx
        · omega
        rcases List.mem_cons.mp hx with rfl | hx
        · omega
        · cases hx)
      obtain ⟨m, rfl⟩ := nat_of (show 0 ≤ v by omega)
      exact ⟨l, _, _, _, rfl, rfl, SqL.mk (b4 _ _ (ne_new B3 nl) upd_same), ev, q _ m ((((b1.trans b2).trans b3).new nl).trans b4) B4 (by omega) (by omega)⟩
/-! a tuple no times, too -/
theorem tuple_nought (l : Addr) (items : Array Value) (n : Nat) (dd : Option Addr) (sl : Array (Option Value)) (u : Tok) (hi : items.isEmpty = false) :
    Meets (Builtin.«tuple.__mul__» ⟨[.ref l, .int 0 u], []⟩) (fun _ R s => s.heap.get? l = some { cls := .type "tuple", dict := dd, data := .seq items n, slots := sl } ∧ R (.ok (.ret (Value.ref s.heap.objs.size))) { s with heap := s.heap.push { cls := Value.type "tuple", data := Data.seq #[] }, toks := s.toks }) :=
  .of_wp fun prog w A R s h => by
    obtain ⟨hp, g, d, tk, os⟩ := s
    obtain ⟨hl, h⟩ := h
    have f1 := AutoSeq1.idx_int
    have c1 : (items.isEmpty || (0 : Int) == 1) = false := by rw [hi]; rfl
    have c2 : (decide ((0 : Int) ≤ 0) || items.isEmpty) = true := by simp
    wp_walk using wpAny_loadPart' hl
    repeat (first
      | (refine wpAny_ite_false (decide_eq_false (by rw [c1]; exact Bool.false_ne_true)) ?_; wp_walk using wpAny_loadPart' hl)
      | (refine wpAny_ite_true (decide_eq_true c2) ?_; wp_walk using wpAny_loadPart' hl)
      | (refine wpAny_ite_false (decide_eq_false (by decide)) ?_; wp_walk using wpAny_loadPart' hl))
    exact ⟨_, rfl, h⟩
def rRepB (K : PySem.W.Frag) : R2 := fun x y H Q => ∃ (l : Addr) (k : Nat) (xs : List V), x = .ref l ∧ y = .int (k : Nat) ∧ SqT K H l xs ∧ xs ≠ [] ∧ xs.length * k ≤ 1000000 ∧ (k = 1 → Q (.ref l) H) ∧
  (k ≠ 1 → ∀ p, H p = none → Q (.ref p) (upd H p (.tup (List.replicate k xs).flatten)))
theorem op_repB {X : Cx} : OpR X (binaryOp .Mult) (rRepB X.K) := by
  intro pins s σ H x y v u Q I rx ry h
  obtain ⟨l, k, xs, rfl, rfl, hT, hne, hz, q1, q2⟩ := h
  by_cases k0 : k = 0
  · subst k0
    cases rx
    obtain ⟨t, rfl⟩ := ry
    obtain ⟨its, r, ⟨⟨cls, dd, data, sl⟩, ho, hc, n, hd⟩, hs⟩ := I.tuple hT
    simp only at hc hd
    subst hc hd
    have le : its.length = xs.length := r.length.symm
    have ne : its.toArray.isEmpty = false := by
      cases its with
      | nil => exact absurd (List.eq_nil_of_length_eq_zero le.symm) hne
      | cons a b => rfl
    refine wpAny_binaryOp_repeat_ref (T := "tuple") (U := "int") (by decide) ⟨_, ho, rfl⟩ (fun s' => typeIs_int s' _ t) noFill_tuple_mul F.fills_int_mul F.slot_int_rmul repeat_tuple F.slot_int_index.lookup
      (call_meets F.slot_int_rmul (typeIs_int s _ t) F.entry_int_rmul (F.args_int_rmul_2 _ _) (int_rmul_tuple _ t l its.toArray n dd sl)
        ⟨ho, rfl, ⟨_, ho, rfl⟩, call_meets F.slot_tuple_mul ⟨_, ho, rfl⟩ F.entry_tuple_mul (F.args_tuple_mul_2 _ _) (tuple_nought l its.toArray n dd sl t ne) ⟨ho, ?_⟩⟩)
    exact ⟨.ref s.heap.objs.size, _, I.laid (t' := s.toks) (o := .tup []) (fun b ob q => Heap.get?_push_of_some _ q) (Nat.le_refl _) ⟨Nat.zero_le _, [], .nil, IsTup.new _ _⟩, rfl, q2 (by decide) _ (I.hok.fresh (Nat.le_refl _))⟩
  · exact op_repA pins s σ H _ _ v u Q I rx ry ⟨l, k, xs, rfl, rfl, hT, hne, by omega, hz, q1, fun z => q2 (by omega)⟩
/-- (x,) so many times -/
theorem rep_go {K : PySem.W.Frag} {H : Hp} {t : Addr} {x v : Int} {k : Nat} {Q : VK} (hv : v = (k : Nat)) (ht : H t = some (.tup [.int x])) (hk : k ≤ 100000) (q : ∀ H' p, Same H H' → H' p = some (.tup ((List.replicate k x).map V.int)) → Q (.ref p) H') : rRepB K (.ref t) (.int v) H Q := by
  subst hv
  refine ⟨t, k, _, rfl, rfl, SqT.mk ht, by simp, (show 1 * k ≤ 1000000 by omega), fun z => ?_, fun z p np => ?_⟩
  · subst z
    exact q H t (Same.refl H) ht
  · exact q _ p (same_upd np) (by rw [upd_same, rep_one])
theorem cat_go {K : PySem.W.Frag} {H : Hp} {a b : Addr} {rs ss : List Int} {Q : VK} (ha : H a = some (.tup (rs.map V.int))) (hb : H b = some (.tup (ss.map V.int))) (hl : rs.length + ss.length ≤ 100000)
    (q : ∀ H' p, Same H H' → H' p = some (.tup ((rs ++ ss).map V.int)) → Q (.ref p) H') : rCatA K (.ref a) (.ref b) H Q := by
  have hsl : sizeLine = 16777216 := by decide
  refine ⟨a, b, _, _, rfl, rfl, SqT.mk ha, SqT.mk hb, by rw [List.length_map, List.length_map]; omega, fun z => ?_, fun _ z => ?_, fun _ _ p np => ?_⟩
  · rw [List.map_eq_nil_iff.mp z] at q
    exact q H b (Same.refl H) hb
  · rw [List.map_eq_nil_iff.mp z] at q
    exact q H a (Same.refl H) (by rw [List.append_nil]; exact ha)
  · exact q _ p (same_upd np) (by rw [upd_same, List.map_append])
theorem catK {X : Cx} {K : PySem.W.Frag} (h : X.K = K) : OpR X (binaryOp .Add) (rCatA K) := by
  subst h
  exact op_catA
theorem zipAK {X : Cx} {K : PySem.W.Frag} {e e2 : Expr} {ta : TA} {p pos tpos : Pos} {elts : List Expr} {kk : Nat} (h : X.K = K) (hg : Gl X "zip") (hm : X.mg "zip" = none) (ha : PA X [e, e2] ta)
    (hs : starEach [e, e2] X.env = (false, eval e X.env) :: starEach [e2] X.env := by rfl) (hpl : (backTo pos (starEach [e2] X.env)).any (·.1) = false := by rfl) :
    PI X (.Tuple elts kk tpos) (.Call (.Name "zip" p) [e, e2] [] pos) (RZ.iZipA K ta) := by
  subst h
  exact RZ.pi_zipA hg hm ha hs hpl
def dot (rs ss : List Int) : Int := (List.zipWith (fun x y => x * y) rs ss).sum
def allRows : Nat → List (List Int)
  | 0 => [[]]
  | k + 1 => (allRows k).map (· ++ [0]) ++ (allRows k).map (· ++ [1])
theorem all_sound : ∀ (k : Nat) (r : List Int), r ∈ allRows k → r.length = k ∧ Bits r
  | 0, r, h => by
    rw [show r = [] from List.mem_singleton.mp h]
    exact ⟨rfl, fun x hx => by cases hx⟩
  | k + 1, r, h => by
    have aux : ∀ (b : Int), (b = 0 ∨ b = 1) → r ∈ (allRows k).map (· ++ [b]) → r.length = k + 1 ∧ Bits r := fun b hb hm => by
      obtain ⟨q, hq, rfl⟩ := List.mem_map.mp hm
      obtain ⟨h1, h2⟩ := all_sound k q hq
      refine ⟨by rw [List.length_append, h1]; rfl, fun x hx => ?_⟩
      rcases List.mem_append.mp hx with hx | hx
      · exact h2 x hx
      · rw [List.mem_singleton.mp hx]
        exact hb
    rcases List.mem_append.mp h with h | h
    · exact aux 0 (.inl rfl) h
    · exact aux 1 (.inr rfl) h
theorem all_full : ∀ (k : Nat) (r : List Int), r.length = k → Bits r → r ∈ allRows k
  | 0, r, h, _ => by
    rw [List.eq_nil_of_length_eq_zero h]
    exact List.mem_singleton.mpr rfl
  | k + 1, r, h, hb => by
    have hne : r ≠ [] := fun z => by
      rw [z] at h
      cases h
    have e := List.dropLast_concat_getLast hne
    have m1 : r.dropLast ∈ allRows k := all_full k _ (by rw [List.length_dropLast, h]; rfl) fun x hx => hb x (List.dropLast_subset r hx)
    rcases hb _ (List.getLast_mem hne) with z | z
    · rw [z] at e
      exact List.mem_append.mpr (.inl (List.mem_map.mpr ⟨_, m1, e⟩))
    · rw [z] at e
      exact List.mem_append.mpr (.inr (List.mem_map.mpr ⟨_, m1, e⟩))
theorem all_len : ∀ k, (allRows k).length = 2 ^ k
  | 0 => rfl
  | k + 1 => by
    show ((allRows k).map (· ++ [0]) ++ (allRows k).map (· ++ [1])).length = _
    rw [List.length_append, List.length_map, List.length_map, all_len k, Nat.pow_succ]
    omega
theorem bits_sum : ∀ (r : List Int), Bits r → 0 ≤ r.sum ∧ r.sum ≤ r.length
  | [], _ => ⟨Int.le_refl 0, Int.le_refl 0⟩
  | x :: r, h => by
    have ih := bits_sum r fun y hy => h y (List.mem_cons_of_mem _ hy)
    have hx := h x List.mem_cons_self
    rw [List.sum_cons, List.length_cons]
    omega
theorem sum_rep (k : Nat) (x : Int) : (List.replicate k x).sum = k * x := by
  induction k with
  | zero => simp
  | succ k ih =>
    rw [List.replicate_succ, List.sum_cons, ih, Int.natCast_add, Int.add_mul]
    omega
theorem sum_split (r : List Int) (a : Nat) : r.sum = (r.take a).sum + (r.drop a).sum := by
  conv => lhs; rw [← List.take_append_drop a r, List.sum_append]
theorem dot_zero (k : Nat) : ∀ r : List Int, dot (List.replicate k 0) r = 0 := by
  unfold dot
  induction k with
  | zero => intro r; simp
  | succ k ih =>
    intro r
    cases r with
    | nil => simp
    | cons x r =>
      rw [List.replicate_succ, List.zipWith_cons_cons, List.sum_cons, ih]
      omega
theorem dot_one : ∀ (a k : Nat) (r : List Int), r.length = a + k → dot (List.replicate a 1 ++ List.replicate k 0) r = (r.take a).sum
  | 0, k, r, _ => by
    rw [List.replicate_zero, List.nil_append, dot_zero]
    rfl
  | a + 1, k, [], h => by
    simp at h
    omega
  | a + 1, k, x :: r, h => by
    have ih := dot_one a k r (by rw [List.length_cons] at h; omega)
    unfold dot at *
    rw [List.replicate_succ, List.cons_append, List.zipWith_cons_cons, List.sum_cons, ih, List.take_succ_cons, List.sum_cons]
    omega
def nearR (n b : Nat) : List Int := List.replicate b 1 ++ List.replicate (n - b) 0
def farR (n b : Nat) : List Int := List.replicate (n - b) 0 ++ List.replicate b 1
theorem near_bits (n b : Nat) : Bits (nearR n b) := fun x hx => by
  rcases List.mem_append.mp hx with h | h
  · exact .inr (List.eq_of_mem_replicate h)
  · exact .inl (List.eq_of_mem_replicate h)
theorem far_bits (n b : Nat) : Bits (farR n b) := fun x hx => by
  rcases List.mem_append.mp hx with h | h
  · exact .inl (List.eq_of_mem_replicate h)
  · exact .inr (List.eq_of_mem_replicate h)
theorem near_len {n b : Nat} (h : b ≤ n) : (nearR n b).length = n := by
  unfold nearR
  rw [List.length_append, List.length_replicate, List.length_replicate]
  omega
theorem far_len {n b : Nat} (h : b ≤ n) : (farR n b).length = n := by
  unfold farR
  rw [List.length_append, List.length_replicate, List.length_replicate]
  omega
theorem near_sum (n b : Nat) : (nearR n b).sum = b := by
  unfold nearR
  rw [List.sum_append, sum_rep, sum_rep]
  omega
theorem far_sum (n b : Nat) : (farR n b).sum = b := by
  unfold farR
  rw [List.sum_append, sum_rep, sum_rep]
  omega
theorem near_take (n a b : Nat) : ((nearR n b).take a).sum = (min a b : Nat) := by
  unfold nearR
  rw [List.take_append, List.sum_append, List.take_replicate, List.take_replicate, sum_rep, sum_rep]
  omega
theorem far_take {n a b : Nat} (hb : b ≤ n) (ha : a ≤ n) : ((farR n b).take a).sum = (a + b - n : Nat) := by
  unfold farR
  rw [List.take_append, List.sum_append, List.take_replicate, List.take_replicate, sum_rep, sum_rep, List.length_replicate]
  omega
/-- how far the first a bits of a row may go -/
theorem take_ends {n a b : Nat} {r : List Int} (hl : r.length = n) (hb : Bits r) (hs : r.sum = b) (ha : a ≤ n) : (a + b - n : Nat) ≤ (r.take a).sum ∧ (r.take a).sum ≤ (min a b : Nat) := by
  have e := sum_split r a
  have h1 := bits_sum (r.take a) fun x hx => hb x (List.mem_of_mem_take hx)
  have h2 := bits_sum (r.drop a) fun x hx => hb x (List.mem_of_mem_drop hx)
  rw [List.length_take] at h1
  rw [List.length_drop] at h2
  omega
/-! sums over the first places -/
def Sm (f : Nat → Int) : Nat → Int
  | 0 => 0
  | n + 1 => Sm f n + f n
theorem Sm_congr {f g : Nat → Int} : ∀ {n : Nat}, (∀ i, i < n → f i = g i) → Sm f n = Sm g n
  | 0, _ => rfl
  | n + 1, h => by
    show Sm f n + f n = Sm g n + g n
    rw [Sm_congr (n := n) fun i hi => h i (by omega), h n (by omega)]
theorem Sm_plus (f g : Nat → Int) : ∀ n, Sm (fun i => f i + g i) n = Sm f n + Sm g n
  | 0 => rfl
  | n + 1 => by
    show Sm _ n + (f n + g n) = (Sm f n + f n) + (Sm g n + g n)
    rw [Sm_plus f g n]
    omega
theorem Sm_mul (c : Int) (f : Nat → Int) : ∀ n, Sm (fun i => c * f i) n = c * Sm f n
  | 0 => by
    show (0 : Int) = c * 0
    rw [Int.mul_zero]
  | n + 1 => by
    show Sm _ n + c * f n = c * (Sm f n + f n)
    rw [Sm_mul c f n, Int.mul_add]
theorem Sm_const (c : Int) : ∀ n, Sm (fun _ => c) n = n * c
  | 0 => by
    show (0 : Int) = ((0 : Nat) : Int) * c
    omega
  | n + 1 => by
    show Sm _ n + c = ((n + 1 : Nat) : Int) * c
    rw [Sm_const c n, Int.natCast_add, Int.add_mul]
    omega
theorem Sm_comm (f : Nat → Nat → Int) (m : Nat) : ∀ n, Sm (fun j => Sm (fun i => f i j) m) n = Sm (fun i => Sm (f i) n) m
  | 0 => by
    show (0 : Int) = Sm (fun _ => (0 : Int)) m
    rw [Sm_const]
    omega
  | n + 1 => by
    show Sm _ n + Sm (fun i => f i n) m = Sm (fun i => Sm (f i) n + f i n) m
    rw [Sm_comm f m n, Sm_plus]
theorem Sm_split (f : Nat → Int) (m : Nat) : ∀ k, Sm f (m + k) = Sm f m + Sm (fun j => f (m + j)) k
  | 0 => by
    show Sm f m = Sm f m + 0
    omega
  | k + 1 => by
    show Sm f (m + k) + f (m + k) = Sm f m + (Sm _ k + f (m + k))
    rw [Sm_split f m k]
    omega
theorem Sm_head (f : Nat → Int) : ∀ n, Sm f (n + 1) = f 0 + Sm (fun j => f (j + 1)) n
  | 0 => by
    show (0 : Int) + f 0 = f 0 + 0
    omega
  | n + 1 => by
    show Sm f (n + 1) + f (n + 1) = f 0 + (Sm _ n + f (n + 1))
    rw [Sm_head f n]
    omega
theorem Sm_rev (f : Nat → Int) : ∀ m, Sm (fun k => f (m - 1 - k)) m = Sm f m
  | 0 => rfl
  | m + 1 => by
    rw [Sm_head]
    show f (m + 1 - 1 - 0) + _ = Sm f m + f m
    rw [show m + 1 - 1 - 0 = m by omega, ← Sm_rev f m]
    rw [Sm_congr (f := fun j => f (m + 1 - 1 - (j + 1))) (g := fun k => f (m - 1 - k)) fun i hi => by rw [show m + 1 - 1 - (i + 1) = m - 1 - i by omega]]
    omega
theorem Sm_turn (f : Nat → Int) {i n : Nat} (hi : i < n) : Sm (fun b => f ((i + n - b) % n)) n = Sm f n := by
  have e : n = (i + 1) + (n - i - 1) := by omega
  have h1 : Sm (fun b => f ((i + n - b) % n)) (i + 1) = Sm f (i + 1) := by
    rw [← Sm_rev f (i + 1)]
    refine Sm_congr fun b hb => ?_
    rw [show i + n - b = (i + 1 - 1 - b) + n by omega, Nat.add_mod_right, Nat.mod_eq_of_lt (by omega)]
  have h2 : Sm (fun j => f ((i + n - (i + 1 + j)) % n)) (n - i - 1) = Sm (fun j => f (i + 1 + j)) (n - i - 1) := by
    rw [← Sm_rev (fun j => f (i + 1 + j)) (n - i - 1)]
    refine Sm_congr fun b hb => ?_
    rw [Nat.mod_eq_of_lt (by omega), show i + n - (i + 1 + b) = i + 1 + (n - i - 1 - 1 - b) by omega]
  have s1 := Sm_split (fun b => f ((i + n - b) % n)) (i + 1) (n - i - 1)
  have s2 := Sm_split f (i + 1) (n - i - 1)
  rw [← e] at s1 s2
  rw [s1, s2, h1, h2]
theorem Sm_list : ∀ (xs : List Int), xs.sum = Sm (fun i => xs.getD i 0) xs.length
  | [] => rfl
  | x :: r => by
    rw [List.sum_cons, List.length_cons, Sm_head, Sm_list r]
    rfl
theorem Sm_map (v : Nat → Int) : ∀ n, ((List.range n).map v).sum = Sm v n
  | 0 => rfl
  | n + 1 => by
    rw [List.range_succ, List.map_append, List.sum_append, Sm_map v n]
    show _ + (v n + 0) = Sm v n + v n
    omega
theorem Sm_filter (p : Nat → Bool) (v : Nat → Int) : ∀ n, (((List.range n).filter p).map v).sum = Sm (fun i => if p i = true then v i else 0) n
  | 0 => rfl
  | n + 1 => by
    rw [List.range_succ, List.filter_append, List.map_append, List.sum_append, Sm_filter p v n]
    show _ + (([n].filter p).map v).sum = Sm _ n + (if p n = true then v n else 0)
    by_cases h : p n = true
    · rw [List.filter_cons_of_pos h, if_pos h]
      show _ + (v n + 0) = _
      omega
    · rw [List.filter_cons_of_neg h, if_neg h]
      rfl
theorem Sm_count (p : Nat → Bool) : ∀ n, (((List.range n).filter p).length : Int) = Sm (fun i => if p i = true then 1 else 0) n
  | 0 => rfl
  | n + 1 => by
    rw [List.range_succ, List.filter_append, List.length_append, Int.natCast_add, Sm_count p n]
    show _ + ((([n].filter p).length : Nat) : Int) = Sm _ n + (if p n = true then 1 else 0)
    by_cases h : p n = true
    · rw [List.filter_cons_of_pos h, if_pos h]
      rfl
    · rw [List.filter_cons_of_neg h, if_neg h]
      rfl
/-! rows that meet, one late -/
def mt (rs ss : List Int) (b : Nat) : Int := Sm (fun i => rs.getD i 0 * ss.getD ((i + rs.length - b) % rs.length) 0) rs.length
theorem dot_Sm : ∀ (rs ss : List Int), rs.length = ss.length → dot rs ss = Sm (fun i => rs.getD i 0 * ss.getD i 0) rs.length
  | [], [], _ => rfl
  | x :: r, y :: t, h => by
    have ih := dot_Sm r t (by simpa using h)
    unfold dot at *
    rw [List.zipWith_cons_cons, List.sum_cons, List.length_cons, Sm_head, ih]
    rfl
theorem dot_mt {rs ss : List Int} (h : rs.length = ss.length) : dot rs ss = mt rs ss 0 := by
  rw [dot_Sm rs ss h]
  unfold mt
  refine Sm_congr fun i hi => ?_
  rw [Nat.sub_zero, Nat.add_mod_right, Nat.mod_eq_of_lt hi]
/-- all together -/
theorem mt_all {rs ss : List Int} (h : rs.length = ss.length) : Sm (mt rs ss) rs.length = rs.sum * ss.sum := by
  unfold mt
  rw [Sm_comm]
  rw [Sm_congr (g := fun i => ss.sum * rs.getD i 0) fun i hi => by
    rw [Sm_mul (rs.getD i 0) (fun b => ss.getD ((i + rs.length - b) % rs.length) 0), Sm_turn (fun j => ss.getD j 0) hi, Sm_list ss, ← h, Int.mul_comm]]
  rw [Sm_mul, ← Sm_list, Int.mul_comm]
def LS (rs ss : List Int) : List Int := (List.range rs.length).map fun b => rs.length * mt rs ss b - rs.sum * ss.sum
theorem LS_len (rs ss : List Int) : (LS rs ss).length = rs.length := by
  unfold LS
  rw [List.length_map, List.length_range]
theorem LS_sum {rs ss : List Int} (h : rs.length = ss.length) : (LS rs ss).sum = 0 := by
  unfold LS
  rw [Sm_map]
  have e : Sm (fun b => (rs.length : Int) * mt rs ss b - rs.sum * ss.sum) rs.length = Sm (fun b => (rs.length : Int) * mt rs ss b + -(rs.sum * ss.sum)) rs.length := Sm_congr fun i _ => by omega
  rw [e, Sm_plus, Sm_mul, mt_all h, Sm_const, Int.mul_neg]
  omega
theorem LS_at {rs ss : List Int} {b : Nat} (hb : b < rs.length) : (LS rs ss)[b]? = some (rs.length * mt rs ss b - rs.sum * ss.sum) := by
  unfold LS
  rw [List.getElem?_map, List.getElem?_range hb]
  rfl
theorem bit_mul {x y : Int} (hx : x = 0 ∨ x = 1) : (if decide (x = 1) = true then y else 0) = x * y := by
  rcases hx with rfl | rfl
  · rw [if_neg (by decide), Int.zero_mul]
  · rw [if_pos (by decide), Int.one_mul]
theorem bits_at {rs : List Int} (h : Bits rs) (i : Nat) : rs.getD i 0 = 0 ∨ rs.getD i 0 = 1 := by
  rw [List.getD_eq_getElem?_getD]
  cases e : rs[i]? with
  | none => exact .inl rfl
  | some x => exact h x (List.mem_of_getElem? e)
def places (rs : List Int) (n : Nat) : List Nat := (List.range n).filter fun i => decide (rs.getD i 0 = 1)
theorem places_mt {rs ss : List Int} (h : Bits rs) (b : Nat) : ((places rs rs.length).map fun i => ss.getD ((i + rs.length - b) % rs.length) 0).sum = mt rs ss b := by
  unfold places mt
  rw [Sm_filter]
  exact Sm_congr fun i _ => bit_mul (bits_at h i)
theorem count_mt {rs ss : List Int} (h : Bits rs) (h2 : Bits ss) (b : Nat) : (((List.range rs.length).filter fun i => decide (rs.getD i 0 = 1) && decide (ss.getD ((i + rs.length - b) % rs.length) 0 = 1)).length : Int) = mt rs ss b := by
  rw [Sm_count]
  unfold mt
  refine Sm_congr fun i _ => ?_
  show _ = rs.getD i 0 * ss.getD ((i + rs.length - b) % rs.length) 0
  rcases bits_at h i with e | e <;> rcases bits_at h2 ((i + rs.length - b) % rs.length) with e2 | e2 <;> rw [e, e2] <;> decide
theorem getD_at {rs : List Int} {i : Nat} (h : i < rs.length) : rs[i]? = some (rs.getD i 0) := by
  rw [List.getD_eq_getElem?_getD, List.getElem?_eq_getElem h]
  rfl
/-! an error that is caught, and kept beyond the suite -/
def ExK (cls : Value) (d : Option Addr) (a : Addr) : HO := .ext fun h => ∃ (oe : Obj) (vs : Array Value), h.get? a = some oe ∧ Zc cls d oe ∧ oe.data = .fields vs
theorem exK_in {P : Program} {w : World} {G : Hp} {h : Heap} {a : Addr} {cls : Value} {d : Option Addr} {oe : Obj} {vs : Array Value} (e : h.get? a = some oe) (z : Zc cls d oe) (f : oe.data = .fields vs) : ObjOk P w G h a (ExK cls d a) :=
  ⟨⟨oe, vs, e, z, f⟩, ⟨oe, e⟩, fun _ _ hh k => by
    obtain ⟨o, v, q, r⟩ := hh
    exact ⟨o, v, k o q, r⟩⟩
section
variable {X : Cx} {pins : List (Addr × Obj)} {σ : L2.St} {H : Hp} {s : Shared} {a : Addr} {oe : Obj} {vs : Array Value} {cls : Value} {d : Option Addr}
theorem keep_track (I : Inv (X.suite a ((a, oe) :: (X.pn ++ pins))) [] σ H s) (ok : X.Ok) (new : X.s_0.heap.get? a = none) (other : ∀ p, p ∈ X.pn ++ pins → p.1 ≠ a) (hz : Zc cls d oe) (hd : oe.data = .fields vs) :
    Inv X pins σ (upd H a (ExK cls d a)) s := by
  obtain ⟨hget, hnone, nloc, nfs, ncell⟩ := I.pin (a, oe) (List.mem_append_left _ List.mem_cons_self)
  have hne : ∀ {b : Addr} {o : HO}, H b = some o → b ≠ a := fun e => ne_of_none e hnone
  have up : ∀ {b : Addr} {o : HO}, H b = some o → (upd H a (ExK cls d a)) b = some o := fun e => by
    rw [upd_ne (hne e)]
    exact e
  refine ⟨ok, I.os, I.bare, ⟨I.base.keep, I.base.slot, fun b o e n x => ?_, I.base.there, fun b xs e => up (I.base.tups b xs e), fun b o u e => up (I.base.frzs b o u e), fun b ps e => ?_⟩, I.loc, I.cell, ?_, fun x c e => ?_, fun p hp => ?_, fun b u e => ?_, I.len⟩
  · have hb : b ≠ a := fun z => by
      rw [z, new] at e
      cases e
    rw [upd_ne hb]
    exact I.base.free b o e n x
  · obtain ⟨more, q⟩ := I.base.tbls b ps e
    exact ⟨more, up q⟩
  · rw [upd_ne (Ne.symm nloc)]
    exact I.free
  · have hc : c ≠ a := fun z => by
      obtain ⟨v, o, q, r⟩ := I.cell x c e
      rw [z, hget] at q
      cases q
      first
        | exact ncell _ r
        | exact ncell _ r.1
        | exact ncell _ r.2
    rw [upd_ne hc]
    exact I.freeC x c e
  · obtain ⟨q1, q2, q3, q4, q5⟩ := I.pin p (List.mem_append_left _ (List.mem_cons_of_mem _ hp))
    exact ⟨q1, by rw [upd_ne (other p hp)]; exact q2, q3, q4, q5⟩
  · by_cases hb : b = a
    · subst hb
      rw [upd_same] at e
      cases e
      exact exK_in hget hz hd
    · rw [upd_ne hb] at e
      exact (I.hok b u e).stay (fun _ _ _ q => q) (fun _ q => up q) fun _ _ q => up q
end
def wHeld (K : PySem.W.Frag) (c : Value) (i : Nat) (ts : Addr → Value → Option Addr → TS) (Wout : WX) (D : Ends) : WX := fun cls d σ H =>
  ∃ b, PySem.W.exmOne K cls c = some b ∧ (b = false → Wout cls d σ H) ∧
    (b = true → ∀ a, H a = none → ts a cls d { nx := fun σ' G => D.nx (σ'.set i none) (upd G a (ExK cls d a)), rt := fun _ _ => False, bk := fun _ _ => False, ct := fun _ _ => False } (σ.set i (some (.ref a))) H)
theorem ps_try_held {X : Cx} {x n : Str} {c : Value} {i : Nat} {body suite : List Stmt} {b₀ : Stmt} {np pos pos' : Pos} {tb : WX → TS} {ts : Addr → Value → Option Addr → TS} {Wout : WX} (hex : X.ex = []) (hs : X.stack = X.env :: X.outer) (hf : X.env.frame = some X.env.locals) (hN : X.N.Nodup) (hi : X.N[i]? = some n) (hln : X.env.kindOf n = some .local)
    (hc : Names X x c) (tk : Takes X Wout) (hb : ∀ (W : WX) (pn : List (Addr × Obj)) (xe : Value → Shared → Prop), Takes (X.tr pn xe) W → PassesOwn (model X.prog X.w) X.A X.env xe → PSs (X.tr pn xe) body (tb W))
    (hsu : ∀ (a : Addr) (oe : Obj) (cls : Value) (d : Option Addr) (pn : List (Addr × Obj)), Zc cls d oe → (∃ vs, oe.data = .fields vs) → PSs (X.suite a ((a, oe) :: pn)) (b₀ :: suite) (ts a cls d)) :
    PS X (.Try body [.ExceptHandler (some (.Name x np)) (some n) (b₀ :: suite) pos'] [] [] pos) (fun D σ H => tb (wHeld X.K c i ts Wout D) D σ H) := by
  refine ⟨fun pins s σ H D I h => ?_⟩
  have ok := I.ok
  have hA : X.A.frames = some (X.env :: X.outer) := by
    rw [ok.frames, hs]
  let catcher : Value → Shared → Prop := fun u s₁ => wpAny (model X.prog X.w) X.A (noteFrame u X.env) (fun _ s₂ => wpAny (model X.prog X.w) X.A (setFlight u none)
    (fun _ s₃ => wpAny (model X.prog X.w) X.A (handleBy u X.env [.ExceptHandler (some (.Name x np)) (some n) (b₀ :: suite) pos']) (SP X pins D) X.xe s₃) X.xe s₂) X.xe s₁
  have main := (hb (wHeld X.K c i ts Wout D) (X.pn ++ pins) catcher ?_ PassesOwn.looking).run [] s σ H D (I.toTry _) h
  · refine wpAny_Try_except (wpAny_mono main (fun fl s1 r => ?_) fun _ _ z => z)
    cases fl with
    | next =>
      obtain ⟨σ', G, J, q⟩ := r
      exact wpAny_execs_nil ⟨σ', G, J.ofTry ok, q⟩
    | brk =>
      obtain ⟨σ', G, J, q⟩ := r
      exact ⟨σ', G, J.ofTry ok, q⟩
    | cont =>
      obtain ⟨σ', G, J, q⟩ := r
      exact ⟨σ', G, J.ofTry ok, q⟩
    | ret u =>
      obtain ⟨v, σ', G, J, q⟩ := r
      exact ⟨v, σ', G, J.ofTry ok, q⟩
  intro u s' air
  obtain ⟨a, B, sI, ps, σ', G, cls, d, rfl, J', nb, up, sky, na, os, ag, b, eb, no, yes⟩ := air
  have J : Inv X pins σ' G sI := J'.ofTry ok
  rw [show (X.tr (X.pn ++ pins) catcher).stack = X.env :: X.outer from hs] at sky nb
  have nB : B.get? a = none := by
    rcases sky with k | k | k
    · exact k.2.1
    · exact k.2.1
    · exact k.2.1
  show wpAny (model X.prog X.w) X.A (noteFrame (.ref a) X.env) _ _ _
  refine Sky.land Zc.steady hA hf sky fun h3 f3 u3 => ?_
  have nb' : ∀ b o, sI.heap.get? b = some o → b ∉ frs X.stack → B.get? b = some o := by
    rw [hs]
    exact nb
  have J3 : Inv X pins σ' G { s' with heap := h3 } := J.landed nb' f3.1 (up.trans u3) os ag
  obtain ⟨o3, v3, g3, z3, d3⟩ := f3.there
  have nfr : a ∉ frs (X.env :: X.outer) := fun hm => by
    obtain ⟨_, o', e', nf⟩ := f3.2.2.1.mem hm
    rw [g3] at e'
    cases e'
    exact nf _ d3
  have nL : a ≠ X.env.locals := fun z => nfr (List.mem_filterMap.mpr ⟨_, List.mem_cons_self, by rw [hf, z]⟩)
  have nF : a ∉ X.fs := fun hm => by
    obtain ⟨v, hv, q⟩ := List.mem_filterMap.mp hm
    exact nfr (List.mem_filterMap.mpr ⟨v, List.mem_cons_of_mem _ hv, q⟩)
  have nI : sI.heap.get? a = none := by
    cases q : sI.heap.get? a with
    | none => rfl
    | some o =>
      have := nb a o q nfr
      rw [nB] at this
      cases this
  have n0 : X.s_0.heap.get? a = none := by
    cases q : X.s_0.heap.get? a with
    | none => rfl
    | some o =>
      obtain ⟨o', e'⟩ := J.base.there a o q (by rw [hex]; exact List.not_mem_nil)
      rw [nI] at e'
      cases e'
  have nP : ∀ p, p ∈ X.pn ++ pins → p.1 ≠ a := fun p hp z => by
    have e := (J.pin p hp).1
    rw [z, nI] at e
    cases e
  have S3 := J3.suite g3 d3 na nL nF
  refine wpAny_handleBy_cons (codeAny_handlers_test ?_) (fun q => by cases q)
  have look : PySem.W.Looks (model X.prog X.w) h3 (typeOf (.ref a)) cls := fun A' Q' E' t k q => wpAny_typeOf_ref (k _ _ g3) (by rw [z3.1]; exact q)
  have fits := PySem.W.exm_one (M := model X.prog X.w) J3.kIn look eb
  have asked : ∀ {Q' : Value → Shared → Prop} {E' : Value → Shared → Prop}, Q' c { s' with heap := h3 } → wpAny (model X.prog X.w) (X.A.mark (some (.ref a))) (eval (.Name x np) X.env) Q' E' { s' with heap := h3 } := fun q => by
    obtain ⟨g, dbg, m | ⟨m, v, nn⟩⟩ := hc
    · exact ld_glob (X := X.suite a ((a, o3) :: (X.pn ++ pins))) S3 g m q dbg
    · exact ld_blt (X := X.suite a ((a, o3) :: (X.pn ++ pins))) S3 g m v q nn dbg
  refine asked (fits.here ?_)
  cases b with
  | true =>
    refine codeAny_handlers_suite_as (HandSPX.lands_againZ f3 fun h4 f4 u4 => ?_)
    have J4 : Inv X pins σ' G { s' with heap := h4 } := J.landed nb' f4.1 ((up.trans u3).trans u4) os ag
    obtain ⟨o4, v4, g4, z4, d4⟩ := f4.there
    refine store_ok (X := X.suite a ((a, o4) :: (X.pn ++ pins))) (v := .ref a) (J4.suite g4 d4 na nL nF) hN hi (.inl hln) rfl (fun s5 S5 => ?_) (.inr hln)
    refine wpAny_mono ((hsu a o4 cls d (X.pn ++ pins) z4 ⟨_, d4⟩).run [] s5 _ G _ S5 (yes rfl a na)) (fun fl s6 r => ?_) fun _ _ z => z.elim
    cases fl with
    | next =>
      obtain ⟨σ6, G6, S6, q6⟩ := r
      exact gone_ok (keep_track S6 ok n0 nP z4 d4) hN hi hln fun s7 J7 => ⟨_, _, J7, q6⟩
    | brk =>
      obtain ⟨_, _, _, q6⟩ := r
      exact q6.elim
    | cont =>
      obtain ⟨_, _, _, q6⟩ := r
      exact q6.elim
    | ret u =>
      obtain ⟨_, _, _, _, _, q6⟩ := r
      exact q6.elim
  | false =>
    show wpAny _ X.A (handleBy (.ref a) X.env []) _ _ _
    refine wpAny_handleBy_nil ?_
    have f3' := f3
    obtain ⟨_, _, _, oe, ws, T, _, _, ge, _, de, te, _⟩ := f3'
    unfold PySem.passOn
    refine wpAny_bind (wpAny_field ge de te ?_)
    rw [if_neg (by simp)]
    have out : wpAny (model X.prog X.w) X.A (setFlight (.ref a) X.env.frame) (fun _ s4 => wpAny (model X.prog X.w) X.A (throw (.ref a) : Sem Flow) (SP X pins D) X.xe s4) X.xe { s' with heap := h3 } := by
      rw [hf]
      refine HandSPX.setFlight_upZ f3 fun h4 hold u4 => wpAny_throw (tk _ _ ?_)
      refine ⟨a, B, sI, pins, σ', G, cls, d, rfl, J, nb', (up.trans u3).trans u4, .inr (.inr ?_), na, os, ag, no rfl⟩
      rw [hs]
      exact hold
    first
      | exact wpAny_bind (wpAny_pure (wpAny_bind out))
      | exact wpAny_bind out
/-! isinstance of a kept error -/
theorem kit_kept {X : Cx} {pins : List (Addr × Obj)} {σ : L2.St} {H : Hp} {s : Shared} {a D : Addr} (I : Inv X pins σ H s) (C : ExcC X.K D) (e : H a = some (ExK (.ref D) none a)) : ∃ P : Heap → Prop, PySem.W.KitX X.K (.ref a) (.ref D) P ∧ P s.heap := by
  obtain ⟨⟨oe, vs, hg, hz, hd⟩, _, _⟩ := (show ObjOk X.prog X.w H s.heap a (ExK (.ref D) none a) from I.hok a _ e)
  have J : PySem.W.InstAt s.heap a oe D none := by
    obtain ⟨c1, c2, c3, c4⟩ := oe
    obtain ⟨z1, z2⟩ := hz
    dsimp only at z1 z2 hd
    subst z1 z2 hd
    exact ⟨hg, rfl, rfl, trivial⟩
  exact ⟨_, PySem.W.handS_kitx_exc C.hg C.hk C.hs C.hd C.ha C.hn C.ht C.hm, J⟩
def rIsK (K : PySem.W.Frag) : List V → Hp → VK → Prop := fun xs H Q => ∃ (a D : Addr) (c : V) (u : Value) (b : Bool), xs = [.ref a, c] ∧ H a = some (ExK (.ref D) none a) ∧ ExcC K D ∧ ClsV c u ∧ PySem.W.kitOne K (.ref D) u = some b ∧ Q (.bl b) H
theorem call_isK {X : Cx} : CallR X (.builtin "isinstance") (rIsK X.K) := by
  intro pins s σ H xs us Q I r h
  obtain ⟨a, D, c, u, b, rfl, ha, C, k, e, q⟩ := h
  obtain ⟨u1, u2, rfl, r1, r2⟩ := vals2 r
  cases (show u1 = Value.ref a from r1)
  cases k.eq r2
  obtain ⟨P, Z, p⟩ := kit_kept I C ha
  exact PySem.W.kia_one Z I.kIn p e (fun z => nomatch z) fun tk => ⟨.bl b, H, I.tok tk, rfl, q⟩
def rIsKT (K : PySem.W.Frag) : List V → Hp → VK → Prop := fun xs H Q => ∃ (a D tp : Addr) (cs : List V) (us : List Value) (b : Bool), xs = [.ref a, .ref tp] ∧ H a = some (ExK (.ref D) none a) ∧ ExcC K D ∧ H tp = some (.tup cs) ∧ Paired ClsV cs us ∧ PySem.W.kitAny K (.ref D) us = some b ∧ Q (.bl b) H
theorem call_isKT {X : Cx} : CallR X (.builtin "isinstance") (rIsKT X.K) := by
  intro pins s σ H xs us Q I r h
  obtain ⟨a, D, tp, cs, ws, b, rfl, ha, C, hT, k, e, q⟩ := h
  obtain ⟨u1, u2, rfl, r1, r2⟩ := vals2 r
  cases (show u1 = Value.ref a from r1)
  cases (show u2 = Value.ref tp from r2)
  obtain ⟨P, Z, p⟩ := kit_kept I C ha
  obtain ⟨_, its, rv, o, h1, h2, n, h3⟩ := (show ObjOk X.prog X.w H s.heap tp (.tup cs) from I.hok tp _ hT)
  cases ClsV.all k rv
  obtain ⟨oc, od, dt, sl⟩ := o
  simp only at h2 h3
  subst h2 h3
  exact PySem.W.kia_tup Z I.kIn p h1 e (fun z => nomatch z) fun tk => ⟨.bl b, H, I.tok tk, rfl, q⟩
theorem listK {X : Cx} {K : PySem.W.Frag} {tg e : Expr} {t : TE} (h : X.K = K) (he : PE X e t) : PI X tg e (iList K t) := by
  subst h
  exact pi_list he
theorem inK {X : Cx} {K : PySem.W.Frag} (h : X.K = K) : OpR X (compareOp .In) (rIn K false) := by
  subst h
  exact op_in_seq
/-! set(xs) of a list of numbers, with all that sorted() asks of it -/
abbrev noSet (w : World) : Obj := { cls := .type "set", dict := none, data := .set #[] 0 (.fresh 0 0 (!w.params.followText "set-order")) }
section
variable {P : Program} {w : World} {A : Around} {E : Value → Shared → Prop} {s : Shared}
theorem two_off {z l b : Nat} {h : Heap} {o : Obj} (hz : h.objs.size = z) (hb : b < z) : b ∉ [z, (h.push o).objs.size] := by
  rw [Heap.size_push, hz]
  intro hm
  rcases List.mem_cons.mp hm with e | hm
  · omega
  · have := List.mem_singleton.mp hm
    omega
set_option maxRecDepth 100000 in
set_option maxHeartbeats 3200000 in
theorem set_of_list {l : Addr} {xs : Array Value} (ns : List Int) {Q : Value → Shared → Prop} (hA : A.handled = none) (hl : s.heap.IsList l xs) (hi : IntsAre xs.toList ns) (hn : ns.length + 1 < scanBound)
    (fin : ∀ (h' : Heap) (tk c : Nat), SetR w h' s.heap.objs.size (fun j => decide (j ∈ ns)) c → c ≤ ns.length → (∀ b o, s.heap.get? b = some o → h'.get? b = some o) → Q (.ref s.heap.objs.size) { s with heap := h', toks := tk }) :
    wpAny (model P w) A (call (.type "set") [.ref l]) Q E s := by
  have size_eq : xs.size = ns.length := by
    have e := IntsAre.length hi
    rw [Array.length_toList] at e
    exact e
  obtain ⟨c₀, rest, mro₀⟩ := PySem.F.called_set.mro
  have made₀ := PySem.F.called_set.made
  have sub₀ := PySem.F.called_set.sub
  refine wpAny_call (codeAny_of_tree ?_)
  show wpAny _ _ (callAny (.type "set") _) _ _ _
  refine wpAny_pure ⟨Code.quiet_builtin _ (by decide +kernel), codeAny_builtin PySem.F.entry_type_call ?_⟩
  rw [Around.under_plain (weight_type_call_type "set" [.ref l] []) rfl]
  have nt₀ := PySem.F.called_set.notType
  have cc₀ := PySem.F.called_set.canCreate
  have tc₀ := PySem.F.typeCall_set_1 (.ref l)
  repeat (any_goals (first | assumption | wp_step))
  refine codeAny_mono (code_set_led1 (.ref l) (E := E) (Q₁ := fun obj t₁ => obj = .ref s.heap.objs.size ∧ t₁ = { s with heap := s.heap.push (noSet w) }) ⟨rfl, rfl⟩) fun r t₁ out => ?_
  cases r with
  | error e => exact out
  | ok fl =>
    cases fl with
    | ret obj =>
      obtain ⟨rfl, rfl⟩ := out
      have at₀ : (s.heap.push (noSet w)).get? s.heap.objs.size = some (noSet w) := Heap.get?_push_size _ rfl
      have ty₀ : Shared.TypeIs { s with heap := s.heap.push (noSet w) } (.ref s.heap.objs.size) "set" := ⟨_, at₀, rfl⟩
      have lk₀ := PySem.F.called_set.init.lookup
      have bd₀ := PySem.F.called_set.init.bind (.ref s.heap.objs.size)
      repeat (any_goals (first | assumption | wp_step))
      refine codeAny_mono (codeAny_call_builtin (R := wants (fun r t₂ => r = .none ∧ ∃ h' tk c, t₂ = { s with heap := h', toks := tk } ∧ SetR w h' s.heap.objs.size (fun j => decide (j ∈ ns)) c ∧ c ≤ ns.length ∧ (∀ b o, s.heap.get? b = some o → h'.get? b = some o)) E)
        PySem.F.called_set.init.plain PySem.F.entry_set_init (check_set_init_1 ty₀ ?_)) fun r₂ t₂ out₂ => ?_
      · obtain ⟨⟨kc, kd, kt, ks⟩, gl, cl, nl, dl⟩ := hl
        simp only at cl dl
        subst cl
        subst dl
        have lS : l < s.heap.objs.size := Heap.lt_size gl
        have gl' : (s.heap.push (noSet w)).get? l = some { cls := .type "list", dict := kd, data := .seq xs nl, slots := ks } := Heap.get?_push_of_some _ gl
        have no1 := PySem.F.sub_list_set
        have no2 := PySem.F.sub_list_frozenset
        have no3 : (Value.type "list" == Value.type "dict") = false := by decide
        have il : (s.heap.push (noSet w)).IsList l xs := ⟨_, gl', rfl, nl, rfl⟩
        unfold Builtin.«set.__init__» noKeywords Builtin.Frozenset.updateFrom
        generalize hPI : pyIter = PI
        wp_walk
        subst hPI
        refine wpAny_pyIter_list il (wpAny_bind (wpAny_runValue ?_))
        have hA3 : A.in1.in1.in1.handled = none := by simp [hA]
        have lI : l ≠ (s.heap.push (noSet w)).objs.size := by
          rw [Heap.size_push]
          exact Nat.ne_of_lt (Nat.lt_succ_of_lt lS)
        have offS : s.heap.objs.size ∉ [(s.heap.push (noSet w)).objs.size, l] := by
          rw [Heap.size_push]
          intro hm
          rcases List.mem_cons.mp hm with e | hm
          · exact absurd e (Nat.ne_of_lt (Nat.lt_succ_self _))
          · exact absurd (List.mem_singleton.mp hm) (Nat.ne_of_gt lS)
        have vals : ∀ (i : Nat) (v : Value), xs[i]? = some v → ∃ k t, ns[i]? = some k ∧ v = .int k t := fun i v hv => by
          have lt : i < ns.length := by
            rw [← size_eq]
            exact (Array.getElem?_eq_some_iff.mp hv).1
          obtain ⟨t, e⟩ := IntsAre.int_at hi i v (by rw [Array.getElem?_toList]; exact hv)
          exact ⟨ns.getD i 0, t, getD_at lt, e⟩
        refine set_update_ints ((Walks.list hA3 _ l lI xs).toS) s.heap.objs.size offS ns size_eq hn vals (xs.size - 0) 0 _ (by omega) (Nat.zero_le _) ⟨⟨_, Heap.get?_push_size _ rfl, rfl, rfl⟩, (il.push _)⟩
          ⟨0, Nat.le_refl 0, setR_new_at (Heap.get?_push_of_some _ at₀)⟩ fun t' c' moved small R' => ?_
        obtain ⟨h', g', d', tk', os'⟩ := t'
        have e1 : g' = s.gens := moved.gens
        have e2 : d' = s.drawn := moved.drawn
        have e3 : os' = s.os := moved.os
        subst e1
        subst e2
        subst e3
        show wpAny _ _ _ _ _ _
        refine wpAny_pure ?_
        show wpAny _ _ (ret Value.none) _ _ _
        rw [size_eq] at small
        exact wpAny_pure ⟨rfl, h', tk', c', rfl, R', small, fun b o e => moved.heap b o (two_off (l := l) rfl (Heap.lt_size e)) (Heap.get?_push_of_some _ (Heap.get?_push_of_some _ e))⟩
      · cases r₂ with
        | error e => exact out₂
        | ok fl₂ =>
          cases fl₂ with
          | ret r =>
            obtain ⟨rfl, h', tk, c', rfl, R', small, kept⟩ := out₂
            repeat (any_goals (first | assumption | wp_step))
            exact fin _ _ _ R' small kept
          | _ => exact out₂.elim
    | _ => exact out.elim
end
def rSetL (K : PySem.W.Frag) (w : World) : List V → Hp → VK → Prop := fun vs H Q => ∃ (l : Addr) (ns : List Int), vs = [V.ref l] ∧ SqL K H l (ns.map V.int) ∧ ns.length ≤ 1000 ∧ ∀ (p : Addr) (c : Nat), H p = none → c ≤ ns.length → Q (.ref p) (upd H p (SetO w p (fun j => decide (j ∈ ns)) c))
theorem cr_setL {X : Cx} (hc : X.calm = true) : CallR X (.type "set") (rSetL X.K X.w) := by
  intro pins s σ H xs us Q I r h
  obtain ⟨l, ns, rfl, hq, hl, q⟩ := h
  rw [Vals.ref1 r]
  obtain ⟨its, rv, pl, _⟩ := I.list hq
  refine set_of_list ns (I.ok.hd hc) pl.isList (by simpa using intsAre_of rv) (by unfold scanBound; omega) fun h' tk c R small kept => ?_
  exact ⟨.ref _, upd H s.heap.objs.size (SetO X.w s.heap.objs.size (fun j => decide (j ∈ ns)) c), I.laid (t' := tk) kept (Nat.le_refl _) (setO_new R), rfl, q _ c (I.hok.fresh (Nat.le_refl _)) small⟩
theorem setLW {X : Cx} {K : PySem.W.Frag} {w : World} (hK : X.K = K) (hw : X.w = w) (hc : X.calm = true) : CallR X (.type "set") (rSetL K w) := by
  subst hK hw
  exact cr_setL hc
theorem sortedW {X : Cx} {w : World} (hw : X.w = w) (hc : X.calm = true) : CallR X (.builtin "sorted") (rSortedSet w) := by
  subst hw
  exact cr_sortedSet hc
/-! the program: rows of one length, or a refusal -/
theorem cnt_pos : ∀ (rs : List Int), rs ≠ [] → 1 ≤ cnt rs.reverse
  | [], h => absurd rfl h
  | x :: r, _ => by
    rw [List.reverse_cons, cnt_snoc]
    by_cases z : x ∈ r.reverse
    · rw [if_pos z]
      exact cnt_pos r fun e => by
        rw [e] at z
        cases z
    · rw [if_neg z]
      omega
theorem cnt_two : ∀ (rs : List Int) (c d : Int), c ∈ rs → d ∈ rs → c ≠ d → 2 ≤ cnt rs.reverse
  | [], _, _, h, _, _ => by cases h
  | x :: r, c, d, hc, hd, hne => by
    rw [List.reverse_cons, cnt_snoc]
    by_cases z : x ∈ r.reverse
    · rw [if_pos z]
      have inn : ∀ y, y ∈ x :: r → y ∈ r := fun y hy => by
        rcases List.mem_cons.mp hy with rfl | hy
        · exact List.mem_reverse.mp z
        · exact hy
      exact cnt_two r c d (inn c hc) (inn d hd) hne
    · rw [if_neg z]
      have hr : r ≠ [] := fun e => by
        subst e
        rw [List.mem_singleton.mp hc, List.mem_singleton.mp hd] at hne
        exact hne rfl
      have := cnt_pos r hr
      omega
theorem cnt_diff {ls : List Int} {c d : Int} (hc : c ∈ ls) (hd : d ∈ ls) (hne : c ≠ d) : 1 < cnt ls := by
  have := cnt_two ls.reverse c d (List.mem_reverse.mpr hc) (List.mem_reverse.mpr hd) hne
  rw [List.reverse_reverse] at this
  omega
theorem cnt_same {ls : List Int} {c : Int} (h : ∀ x, x ∈ ls → x = c) (hne : ls ≠ []) : cnt ls = 1 := by
  have aux : ∀ (rs : List Int), (∀ x, x ∈ rs → x = c) → rs ≠ [] → cnt rs.reverse = 1 := by
    intro rs
    induction rs with
    | nil => intro _ z; exact absurd rfl z
    | cons x r ih =>
      intro hr _
      rw [List.reverse_cons, cnt_snoc]
      by_cases z : r = []
      · subst z
        rfl
      · have hx : x = c := hr x List.mem_cons_self
        have h1 : ∀ y, y ∈ r → y = c := fun y hy => hr y (List.mem_cons_of_mem _ hy)
        obtain ⟨y, t, e⟩ : ∃ y t, r = y :: t := by
          cases r with
          | nil => exact absurd rfl z
          | cons y t => exact ⟨y, t, rfl⟩
        have hm : x ∈ r.reverse := by
          rw [List.mem_reverse, e, hx, ← h1 y (by rw [e]; exact List.mem_cons_self)]
          exact List.mem_cons_self
        rw [if_pos hm]
        exact ih h1 z
  have := aux ls.reverse (fun x hx => h x (List.mem_reverse.mp hx)) (fun z => hne (List.reverse_eq_nil_iff.mp z))
  rw [List.reverse_reverse] at this
  exact this
def sp_refuse_unlike {K : PySem.W.Frag} {mg : Str → Option Value} (T : Defs K mg) : Sp := fun vs H Q E => ∃ (l : Addr) (as : List (Addr × List V)), vs = [.ref l] ∧ H l = some (.lst (as.map fun q => V.ref q.1)) ∧ as.length ≤ 8 ∧ as ≠ [] ∧ (∀ q ∈ as, H q.1 = some (.tup q.2)) ∧
  (((∃ n : Nat, ∀ q ∈ as, q.2.length = n) ∧ Q .non H) ∨ ((∃ p q, p ∈ as ∧ q ∈ as ∧ p.2.length ≠ q.2.length) ∧ E (.ref T.C_Unlike) none H))
theorem ok_refuse_unlike (T : Defs K mg) (TT : Tabs T base) : FnOk P w K mg base (L2.CX P w) 1 T.f_refuse_unlike T.fd_refuse_unlike ["rows"] (sp_refuse_unlike T) := by
  refine okX T.F_refuse_unlike sc_refuse_unlike (fun vs H Q E h => ?_) (fun cdv A outer s H vs Q E hr h => ?_)
  · obtain ⟨l, as, rfl, hl, hn, hne, hts, h⟩ := h
    rfl
  · obtain ⟨l, as, rfl, hl, hn, hne, hts, h⟩ := h
    refine ⟨_, (pss_one (ps_if (pt_cmpR op_gt (pe_lenSC (i := 0) (by rfl) T.m_len rfl rfl (.inl rfl) rfl (by decide +kernel) (by decide +kernel) (by decide +kernel) rfl rfl) pe_int (nomark _)) (pss_one (ps_raise rfl (takes_of (E := E) rfl rfl rfl rfl) (pmk_own PySem.F.excBase_ValueError T.xi_Unlike T.g_Unlike T.xk_Unlike (raises_own T.xs_Unlike T.xt_Unlike) (by rfl)))) pss_nil)), ?_⟩
    refine ⟨l, as, rfl, hl, hn, hts, _, _, rfl, rfl, _, rfl, ?_⟩
    rcases h with ⟨⟨n, heq⟩, q⟩ | ⟨⟨p1, p2, m1, m2, hd⟩, q⟩
    · rw [cnt_same (c := (n : Int)) (fun x hx => by
        obtain ⟨p, hp, rfl⟩ := List.mem_map.mp hx
        rw [heq p hp]) (fun z => hne (List.map_eq_nil_iff.mp z))]
      exact iteF q
    · have big := cnt_diff (ls := as.map fun q => ((q.2.length : Nat) : Int)) (List.mem_map.mpr ⟨p1, m1, rfl⟩) (List.mem_map.mpr ⟨p2, m2, rfl⟩) (by omega)
      refine ite2 (fun _ => q) (fun z => absurd (decide_eq_true ?_) z)
      show (1 : Int) < _
      omega
def sp_ones (_ : PySem.W.Frag) : Sp := fun vs H Q _ => ∃ (a : Addr) (rs : List Int), vs = [.ref a] ∧ H a = some (.tup (rs.map V.int)) ∧ Q (.int rs.sum) H
theorem ok_ones (T : Defs K mg) (TT : Tabs T base) : FnOk P w K mg base CX0 1 T.f_ones T.fd_ones ["row"] (sp_ones K) := by
  refine T.F_ones.ok sc_ones (fun vs H Q E h => ?_) (fun cdv A outer s H vs Q E hr h => ?_)
  · obtain ⟨a, rs, rfl, ha, q⟩ := h
    rfl
  · obtain ⟨a, rs, rfl, ha, q⟩ := h
    refine ⟨_, PSs.nox (pss_one (ps_ret (pe_callB (cr_sumT rfl) (by rfl) T.m_sum bt_sum (pa_cons (pv 0) pa_nil)))), ?_⟩
    exact ⟨.ref a, rfl, a, rs, rfl, SqT.mk ha, q⟩
theorem and_bits {x y : Int} (hx : x = 0 ∨ x = 1) (hy : y = 0 ∨ y = 1) : Builtin.bitAnd x y = x * y := by
  rcases hx with rfl | rfl <;> rcases hy with rfl | rfl <;> decide
def Two (H : Hp) (a b : Addr) (rs ss : List Int) : Prop := H a = some (.tup (rs.map V.int)) ∧ H b = some (.tup (ss.map V.int)) ∧ Bits rs ∧ Bits ss
def sp_both {K : PySem.W.Frag} {mg : Str → Option Value} (T : Defs K mg) : Sp := fun vs H Q E => ∃ (a b : Addr) (rs ss : List Int), vs = [.ref a, .ref b] ∧ Two H a b rs ss ∧
  ((rs.length = ss.length ∧ GxR.TabG H T.P_both ∧ ∀ H' p, Sam H H' → H p = none → H' p = some (.tup ((List.zipWith (fun x y => x * y) rs ss).map V.int)) → Q (.ref p) H') ∨
   (rs.length ≠ ss.length ∧ ∀ H', Same H H' → E (.ref T.C_Unlike) none H'))
theorem ok_both (T : Defs K mg) (TT : Tabs T base) : FnOk P w K mg base (L2.CX P w) 2 T.f_both T.fd_both ["one", "other"] (sp_both T) := by
  have G_refuse_unlike : FnOk P w K mg base (L2.CX P w) 1 T.f_refuse_unlike T.fd_refuse_unlike ["rows"] (sp_refuse_unlike T) := ok_refuse_unlike T TT
  refine okXC T.F_both T.k_both sc_both (fun vs H Q E h => ?_) (fun A outer s H vs Q E hr h => ?_)
  · obtain ⟨a, b, rs, ss, rfl, ⟨ha, hb, br, bs⟩, h⟩ := h
    rfl
  · obtain ⟨a, b, rs, ss, rfl, ⟨ha, hb, br, bs⟩, h⟩ := h
    refine ⟨_, (pss_cons (ps_expr (pe_call (E := E) G_refuse_unlike (hr.mono (by decide)) (by rfl) T.g_refuse_unlike T.F_refuse_unlike.kp T.b_refuse_unlike .nil (passes_call (takes_of rfl rfl rfl rfl) (fun _ _ _ _ h => h)) (pa_cons (pe_lst (pa_cons (pv 0) (pa_cons (pv 1) pa_nil))) pa_nil)))
    (pss_one (ps_ret (pe_tupZ hr (by rfl) T.m_tuple bt_tuple (by rfl) T.m_zip TT.t_both rfl ⟨⟨rfl, rfl, by decide +kernel, rfl, rfl, gs_free rfl⟩, rfl, by decide⟩ (pa_cons (pv 0) (pa_cons (pv 1) pa_nil)) (elt_and rfl rfl rfl) (fun _ => rfl))))), ?_⟩
    refine ⟨.ref a, rfl, .ref b, rfl, (show 2 ≤ sizeLine by decide), fun l nl => ?_⟩
    have s1 : Same H (upd H l (.lst [.ref a, .ref b])) := same_upd nl
    refine ⟨l, [(a, rs.map V.int), (b, ss.map V.int)], rfl, upd_same, (show 2 ≤ 8 by decide), by simp, ?_, ?_⟩
    · intro p hp
      rcases List.mem_cons.mp hp with rfl | hp
      · exact s1 _ _ ha
      · rw [List.mem_singleton.mp hp]
        exact s1 _ _ hb
    rcases h with ⟨hl, tg, q⟩ | ⟨hl, q⟩
    rotate_left
    · refine .inr ⟨⟨(a, rs.map V.int), (b, ss.map V.int), List.mem_cons_self, List.mem_cons_of_mem _ List.mem_cons_self, ?_⟩, q _ s1⟩
      show (rs.map V.int).length ≠ (ss.map V.int).length
      rw [List.length_map, List.length_map]
      exact hl
    refine .inl ⟨⟨rs.length, fun p hp => ?_⟩, ?_⟩
    · rcases List.mem_cons.mp hp with rfl | hp
      · exact List.length_map ..
      · rw [List.mem_singleton.mp hp, hl]
        exact List.length_map ..
    have tg1 := (Sam.of s1).tabG tg
    refine ⟨.ref a, rfl, .ref b, rfl, a, b, _, _, rfl, s1 _ _ ha, s1 _ _ hb, by rw [List.length_map, List.length_map, hl], tg1, (List.zipWith (fun x y => x * y) rs ss).map V.int, ?_, ?_, ?_⟩
    · rw [List.length_map, List.length_map, List.length_zipWith]
      omega
    · intro i x y hx hy
      rw [List.getElem?_map] at hx hy
      have hi : i < rs.length := by
        by_cases z : i < rs.length
        · exact z
        · rw [List.getElem?_eq_none (by omega)] at hx
          cases hx
      rw [List.getElem?_eq_getElem hi] at hx
      rw [List.getElem?_eq_getElem (show i < ss.length by omega)] at hy
      cases hx
      cases hy
      refine ⟨.int (rs[i] * ss[i]), ?_, rs[i], ss[i], rfl, rfl, ?_⟩
      · rw [List.getElem?_map, List.getElem?_zipWith, List.getElem?_eq_getElem hi, List.getElem?_eq_getElem (show i < ss.length by omega)]
        rfl
      · rw [and_bits (br _ (List.getElem_mem hi)) (bs _ (List.getElem_mem _))]
    · intro H2 p tb np
      have s2 := Sam.tabbed tg1 tb
      have s3 := (Sam.of s1).trans s2
      exact q _ p (sam_newer s3 (s3.free np)) (s3.free np) upd_same
def sp_overlap {K : PySem.W.Frag} {mg : Str → Option Value} (T : Defs K mg) : Sp := fun vs H Q E => ∃ (a b : Addr) (rs ss : List Int), vs = [.ref a, .ref b] ∧ Two H a b rs ss ∧
  ((rs.length = ss.length ∧ GxR.TabG H T.P_both ∧ ∀ H', Sam H H' → Q (.int (dot rs ss)) H') ∨ (rs.length ≠ ss.length ∧ ∀ H', Same H H' → E (.ref T.C_Unlike) none H'))
theorem ok_overlap (T : Defs K mg) (TT : Tabs T base) : FnOk P w K mg base (L2.CX P w) 3 T.f_overlap T.fd_overlap ["one", "other"] (sp_overlap T) := by
  have G_ones : FnOk P w K mg base CX0 1 T.f_ones T.fd_ones ["row"] (sp_ones K) := ok_ones T TT
  have G_both : FnOk P w K mg base (L2.CX P w) 2 T.f_both T.fd_both ["one", "other"] (sp_both T) := ok_both T TT
  refine okX T.F_overlap sc_overlap (fun vs H Q E h => ?_) (fun cdv A outer s H vs Q E hr h => ?_)
  · obtain ⟨a, b, rs, ss, rfl, two, h⟩ := h
    rfl
  · obtain ⟨a, b, rs, ss, rfl, two, h⟩ := h
    refine ⟨_, (pss_one (ps_ret (pe_call G_ones (hr.mono (by decide)) (by rfl) T.g_ones T.F_ones.kp T.b_ones .nil pass0 (pa_cons (pe_call (E := E) G_both (hr.mono (by decide)) (by rfl) T.g_both T.F_both.kp T.b_both .nil (passes_call (takes_of rfl rfl rfl rfl) (fun _ _ _ _ h => h)) (pa_cons (pv 0) (pa_cons (pv 1) pa_nil))) pa_nil)))), ?_⟩
    refine ⟨.ref a, rfl, .ref b, rfl, a, b, rs, ss, rfl, two, ?_⟩
    rcases h with ⟨hl, tg, q⟩ | ⟨hl, q⟩
    · exact .inl ⟨hl, tg, fun H1 p s1 np hp => ⟨p, _, rfl, hp, q H1 s1⟩⟩
    · exact .inr ⟨hl, q⟩
def sp_lean {K : PySem.W.Frag} {mg : Str → Option Value} (T : Defs K mg) : Sp := fun vs H Q E => ∃ (a b : Addr) (rs ss : List Int), vs = [.ref a, .ref b] ∧ Two H a b rs ss ∧ rs.length ≤ 100000 ∧
  ((rs.length = ss.length ∧ GxR.TabG H T.P_both ∧ ∀ H', Sam H H' → Q (.int (rs.length * dot rs ss - rs.sum * ss.sum)) H') ∨ (rs.length ≠ ss.length ∧ ∀ H', Same H H' → E (.ref T.C_Unlike) none H'))
theorem ok_lean (T : Defs K mg) (TT : Tabs T base) : FnOk P w K mg base (L2.CX P w) 4 T.f_lean T.fd_lean ["one", "other"] (sp_lean T) := by
  have G_overlap : FnOk P w K mg base (L2.CX P w) 3 T.f_overlap T.fd_overlap ["one", "other"] (sp_overlap T) := ok_overlap T TT
  have G_ones : FnOk P w K mg base CX0 1 T.f_ones T.fd_ones ["row"] (sp_ones K) := ok_ones T TT
  refine okX T.F_lean sc_lean (fun vs H Q E h => ?_) (fun cdv A outer s H vs Q E hr h => ?_)
  · obtain ⟨a, b, rs, ss, rfl, two, hz, h⟩ := h
    rfl
  · obtain ⟨a, b, rs, ss, rfl, two, hz, h⟩ := h
    refine ⟨_, (pss_one (ps_ret (pe_op op_sub (pe_op op_mul (pe_callB call_len_seq (by rfl) T.m_len bt_len (pa_cons (pv 0) pa_nil)) (pe_call (E := E) G_overlap (hr.mono (by decide)) (by rfl) T.g_overlap T.F_overlap.kp T.b_overlap .nil (passes_call (takes_of rfl rfl rfl rfl) (fun _ _ _ _ h => h)) (pa_cons (pv 0) (pa_cons (pv 1) pa_nil)))) (pe_op op_mul (pe_call G_ones (hr.mono (by decide)) (by rfl) T.g_ones T.F_ones.kp T.b_ones .nil pass0 (pa_cons (pv 0) pa_nil)) (pe_call G_ones (hr.mono (by decide)) (by rfl) T.g_ones T.F_ones.kp T.b_ones .nil pass0 (pa_cons (pv 1) pa_nil)))))), ?_⟩
    obtain ⟨ha, hb, br, bs⟩ := id two
    have b1 := bits_sum rs br
    refine ⟨.ref a, rfl, a, _, rfl, .inr (SqT.mk ha), .ref a, rfl, .ref b, rfl, a, b, rs, ss, rfl, two, ?_⟩
    rcases h with ⟨hl, tg, q⟩ | ⟨hl, q⟩
    rotate_left
    · exact .inr ⟨hl, q⟩
    refine .inl ⟨hl, tg, fun H1 s1 => ?_⟩
    refine ⟨_, _, rfl, rfl, .inl ⟨by rw [List.length_map]; omega, by rw [List.length_map]; omega⟩, .ref a, rfl, a, rs, rfl, s1.tup ha, .ref b, rfl, b, ss, rfl, s1.tup hb, _, _, rfl, rfl, .inl ⟨by omega, by omega⟩, _, _, rfl, rfl, ?_⟩
    rw [List.length_map]
    exact q H1 s1
theorem places_pos {rs : List Int} {i : Nat} (h : rs.getD i 0 = 1) : places rs (i + 1) = places rs i ++ [i] := by
  unfold places
  rw [List.range_succ, List.filter_append, List.filter_cons_of_pos (p := fun i => decide (rs.getD i 0 = 1)) (a := i) (decide_eq_true h)]
  rfl
theorem places_neg {rs : List Int} {i : Nat} (h : ¬ rs.getD i 0 = 1) : places rs (i + 1) = places rs i := by
  unfold places
  rw [List.range_succ, List.filter_append, List.filter_cons_of_neg (p := fun i => decide (rs.getD i 0 = 1)) (a := i) (fun z => h (of_decide_eq_true z))]
  exact List.append_nil _
theorem places_lt {rs : List Int} {n k : Nat} (h : k ∈ places rs n) : k < n := List.mem_range.mp (List.mem_filter.mp h).1
theorem places_len (rs : List Int) (n : Nat) : (places rs n).length ≤ n := by
  have := List.length_filter_le (fun i => decide (rs.getD i 0 = 1)) (List.range n)
  rw [List.length_range] at this
  exact this
/-- an item so many places back, round about -/
theorem at_back {ss : List Int} {k b : Nat} (hk : k < ss.length) (hb : b < ss.length) : atI (ss.map V.int) ((k : Int) - (0 + (b : Int))) = some (.int (ss.getD ((k + ss.length - b) % ss.length) 0)) := by
  unfold atI ixN
  rw [List.length_map]
  by_cases h : b ≤ k
  · rw [if_pos (by omega), if_pos (by omega)]
    show (ss.map V.int)[((k : Int) - (0 + (b : Int))).toNat]? = _
    rw [show ((k : Int) - (0 + (b : Int))).toNat = k - b by omega, show k + ss.length - b = (k - b) + ss.length by omega, Nat.add_mod_right, Nat.mod_eq_of_lt (show k - b < ss.length by omega), List.getElem?_map, getD_at (show k - b < ss.length by omega)]
    rfl
  · rw [if_neg (by omega), if_pos (by omega)]
    show (ss.map V.int)[_]? = _
    rw [show ((k : Int) - (0 + (b : Int)) + ((ss.length : Nat) : Int)).toNat = k + ss.length - b by omega, Nat.mod_eq_of_lt (show k + ss.length - b < ss.length by omega), List.getElem?_map, getD_at (show k + ss.length - b < ss.length by omega)]
    rfl
def sp_leans {K : PySem.W.Frag} {mg : Str → Option Value} (T : Defs K mg) : Sp := fun vs H Q E => ∃ (a b : Addr) (rs ss : List Int), vs = [.ref a, .ref b] ∧ Two H a b rs ss ∧ rs.length ≤ 100000 ∧
  ((rs.length = ss.length ∧ ∀ H' p, Same H H' → H p = none → H' p = some (.lst ((LS rs ss).map V.int)) → Q (.ref p) H') ∨ (rs.length ≠ ss.length ∧ ∀ H', Same H H' → E (.ref T.C_Unlike) none H'))
theorem ok_leans (T : Defs K mg) (TT : Tabs T base) : FnOk P w K mg base (L2.CX P w) 2 T.f_leans T.fd_leans ["one", "other"] (sp_leans T) := by
  have G_refuse_unlike : FnOk P w K mg base (L2.CX P w) 1 T.f_refuse_unlike T.fd_refuse_unlike ["rows"] (sp_refuse_unlike T) := ok_refuse_unlike T TT
  have G_ones : FnOk P w K mg base CX0 1 T.f_ones T.fd_ones ["row"] (sp_ones K) := ok_ones T TT
  refine okX T.F_leans sc_leans (fun vs H Q E h => ?_) (fun cdv A outer s H vs Q E hr h => ?_)
  · obtain ⟨a, b, rs, ss, rfl, ⟨ha, hb, br, bs⟩, hz, h⟩ := h
    rfl
  · obtain ⟨a, b, rs, ss, rfl, ⟨ha, hb, br, bs⟩, hz, h⟩ := h
    refine ⟨_, (pss_cons (ps_expr (pe_call (E := E) G_refuse_unlike (hr.mono (by decide)) (by rfl) T.g_refuse_unlike T.F_refuse_unlike.kp T.b_refuse_unlike .nil (passes_call (takes_of rfl rfl rfl rfl) (fun _ _ _ _ h => h)) (pa_cons (pe_lst (pa_cons (pv 0) (pa_cons (pv 1) pa_nil))) pa_nil)))
    (pss_cons (ps_set (i := 2) sc_leans.nd rfl (.inr rfl) (pe_callB call_len_seq (by rfl) T.m_len bt_len (pa_cons (pv 0) pa_nil)))
    (pss_cons (ps_set (i := 3) sc_leans.nd rfl (.inr rfl) (pe_op op_mul (pe_call G_ones (hr.mono (by decide)) (by rfl) T.g_ones T.F_ones.kp T.b_ones .nil pass0 (pa_cons (pv 0) pa_nil)) (pe_call G_ones (hr.mono (by decide)) (by rfl) T.g_ones T.F_ones.kp T.b_ones .nil pass0 (pa_cons (pv 1) pa_nil))))
    (pss_cons (ps_set (i := 4) sc_leans.nd rfl (.inr rfl) (pe_lc (own := [("at", 5)]) (g := gName 5) rfl sc_leans.nd (pi_range1 (by rfl) T.m_range (pa_cons (pv 2) pa_nil)) (blkOk_by (N := N_leans) (sc := defScope s_leans) (by decide +kernel)) (fun _ _ _ _ _ => (pg_name (i := 5) sc_leans.nd rfl (.inl rfl))) (fun _ _ _ _ _ => pts_one (pt_cmpR op_eq (pe_ix (ixtK (K := K) rfl) (pv 0) (pv 5) (fun _ _ => rfl)) pe_int (nomark _))) (fun _ _ _ _ _ => (pv 5))))
    (pss_one (ps_ret (pe_lc (own := [("by", 6)]) (g := gName 6) (tt := tYes) rfl sc_leans.nd (pi_range1 (by rfl) T.m_range (pa_cons (pv 2) pa_nil)) (blkOk_by (N := N_leans) (sc := defScope s_leans) (by decide +kernel)) (fun _ _ _ _ _ => (pg_name (i := 6) sc_leans.nd rfl (.inr rfl))) (fun _ _ _ _ _ => pts_nil) (fun _ _ _ _ _ => (pe_op op_sub (pe_op op_mul (pv 2) (pe_callB (sumK (K := K) rfl rfl) (by rfl) T.m_sum bt_sum (pa_cons (pe_lc (own := [("at", 5)]) (g := gName 5) (tt := tYes) rfl sc_leans.nd (listK (K := K) rfl (pv 4)) (blkOk_by (by rfl)) (fun _ _ _ _ _ => (pg_name (i := 5) sc_leans.nd rfl (.inl rfl))) (fun _ _ _ _ _ => pts_nil) (fun _ _ _ _ _ => (pe_ix (ixtK (K := K) rfl) (pv 1) (pe_op op_sub (pv 5) (pv 6)) (fun _ _ => rfl)))) pa_nil))) (pv 3)))))))))), ?_⟩
    have hsl : sizeLine = 16777216 := by decide
    refine ⟨.ref a, rfl, .ref b, rfl, (show 2 ≤ sizeLine by decide), fun l nl => ?_⟩
    have s1 : Same H (upd H l (.lst [.ref a, .ref b])) := same_upd nl
    refine ⟨l, [(a, rs.map V.int), (b, ss.map V.int)], rfl, upd_same, (show 2 ≤ 8 by decide), by simp, ?_, ?_⟩
    · intro p hp
      rcases List.mem_cons.mp hp with rfl | hp
      · exact s1 _ _ ha
      · rw [List.mem_singleton.mp hp]
        exact s1 _ _ hb
    rcases h with ⟨hl, q⟩ | ⟨hl, q⟩
    rotate_left
    · refine .inr ⟨⟨(a, rs.map V.int), (b, ss.map V.int), List.mem_cons_self, List.mem_cons_of_mem _ List.mem_cons_self, ?_⟩, q _ s1⟩
      show (rs.map V.int).length ≠ (ss.map V.int).length
      rw [List.length_map, List.length_map]
      exact hl
    refine .inl ⟨⟨rs.length, fun p hp => ?_⟩, ?_⟩
    · rcases List.mem_cons.mp hp with rfl | hp
      · exact List.length_map ..
      · rw [List.mem_singleton.mp hp, hl]
        exact List.length_map ..
    have ha1 := s1 _ _ ha
    have hb1 := s1 _ _ hb
    generalize upd H l (.lst [.ref a, .ref b]) = H1 at *
    have b1 := bits_sum rs br
    refine ⟨.ref a, rfl, a, _, rfl, .inr (SqT.mk ha1), .ref a, rfl, a, rs, rfl, ha1, .ref b, rfl, b, ss, rfl, hb1, _, _, rfl, rfl, .inl ⟨by omega, by omega⟩, ?_⟩
    have en : (rs.map V.int).length = rs.length := List.length_map ..
    rw [en]
    -- the places
    refine ⟨.int (rs.length : Nat), rfl, (rs.length : Nat), rfl, by omega, by omega, fun D nD => ?_⟩
    refine lc_range (fun i G => Same H1 G ∧ G D = some (.lst ((places rs i).map fun k => V.int (k : Nat)))) ⟨same_upd nD, upd_same⟩ (fun i G hi h => ?_) (fun G h => ?_)
    · obtain ⟨sG, hD⟩ := h
      rw [Int.toNat_natCast] at hi
      refine ⟨rfl, ?_⟩
      refine ⟨.ref a, rfl, _, rfl, a, _, _, .int (rs.getD i 0), rfl, rfl, SqT.mk (sG _ _ ha1), ?_, rfl, _, rfl, ite2 (fun z => ?_) (fun z => ?_)⟩
      · rw [Int.zero_add]
        exact atI_nat (by rw [List.getElem?_map, getD_at hi]; rfl)
      · have z1 : rs.getD i 0 = 1 := V.int.inj (of_decide_eq_true z)
        refine ⟨_, rfl, _, hD, ?_, same_newer sG nD, ?_⟩
        · have := places_len rs i
          rw [List.length_map]
          omega
        · rw [upd_same, places_pos z1, List.map_append, Int.zero_add]
          rfl
      · have z1 : ¬ rs.getD i 0 = 1 := fun y => z (by rw [y]; exact decide_eq_true rfl)
        exact ⟨sG, by rw [places_neg z1]; exact hD⟩
    obtain ⟨s2, hD⟩ := h
    rw [Int.toNat_natCast] at hD
    -- the leans
    refine ⟨.int (rs.length : Nat), rfl, (rs.length : Nat), rfl, by omega, by omega, fun D' nD' => ?_⟩
    refine lc_range (fun i G' => Same G G' ∧ G' D' = some (.lst (((List.range i).map fun b => rs.length * mt rs ss b - rs.sum * ss.sum).map V.int))) ⟨same_upd nD', upd_same⟩ (fun i G1 hi h => ?_) (fun G1 h => ?_)
    · obtain ⟨s3, hD1⟩ := h
      rw [Int.toNat_natCast] at hi
      have hb3 := s3 _ _ (s2 _ _ hb1)
      refine ⟨rfl, yes_ite ?_⟩
      refine ⟨.int (rs.length : Nat), rfl, _, rfl, D, rfl, ⟨_, SqL.mk (s3 _ _ hD)⟩, fun D3 nD3 => ?_⟩
      refine lc_list (xs := (places rs rs.length).map fun k => V.int (k : Nat)) (fun j G2 => Same G1 G2 ∧ G2 D3 = some (.lst ((((places rs rs.length).take j).map fun k => ss.getD ((k + rs.length - i) % rs.length) 0).map V.int))) ⟨same_upd nD3, upd_same⟩ (fun j G2 _ h => SqL.mk (h.1 _ _ (s3 _ _ hD))) (fun j x G2 hx h => ?_) (fun G2 h => ?_)
      · obtain ⟨s4, hD3⟩ := h
        rw [List.getElem?_map] at hx
        obtain ⟨k, hk, rfl⟩ := Option.map_eq_some_iff.mp hx
        have kn := places_lt (List.mem_of_getElem? hk)
        refine ⟨rfl, yes_ite ?_⟩
        refine ⟨.ref b, rfl, .int (k : Nat), rfl, _, rfl, _, _, rfl, rfl, b, _, _, .int (ss.getD ((k + ss.length - i) % ss.length) 0), rfl, rfl, SqT.mk (s4 _ _ hb3), at_back (by omega) (by omega), ?_⟩
        have pl := places_len rs rs.length
        refine ⟨_, hD3, by rw [List.length_map, List.length_map, List.length_take]; omega, same_newer s4 nD3, ?_⟩
        rw [upd_same, List.take_add_one, hk, List.map_append, List.map_append, hl]
        rfl
      · obtain ⟨s4, hD3⟩ := h
        rw [List.length_map, List.take_length] at hD3
        refine ⟨D3, _, rfl, SqL.mk hD3, ?_⟩
        rw [places_mt br]
        refine ⟨_, _, rfl, rfl, .inl ⟨by omega, by omega⟩, _, rfl, _, _, rfl, rfl, _, s4 _ _ hD1, by rw [List.length_map, List.length_map, List.length_range]; omega, same_newer (s3.trans s4) nD', ?_⟩
        rw [upd_same, List.range_succ, List.map_append, List.map_append]
        rfl
    · obtain ⟨s3, hD1⟩ := h
      rw [Int.toNat_natCast] at hD1
      exact q G1 D' (s1.trans (s2.trans s3)) (s1.free (s2.free nD')) hD1
def sp_parting {K : PySem.W.Frag} {mg : Str → Option Value} (T : Defs K mg) : Sp := fun vs H Q E => ∃ (a b : Addr) (rs ss : List Int), vs = [.ref a, .ref b] ∧ Two H a b rs ss ∧ rs.length ≤ 100000 ∧
  ((rs.length = ss.length ∧ ∀ H', Same H H' → ((0 ∉ LS rs ss → Q .non H') ∧ (∀ j : Nat, (LS rs ss)[j]? = some 0 → (∀ m, m < j → (LS rs ss)[m]? ≠ some 0) → Q (.int (j : Nat)) H'))) ∨ (rs.length ≠ ss.length ∧ ∀ H', Same H H' → E (.ref T.C_Unlike) none H'))
theorem flat_ints (xs : List Int) : (xs.map V.int).all flatV = true := by
  rw [List.all_eq_true]
  intro x hx
  obtain ⟨i, _, rfl⟩ := List.mem_map.mp hx
  rfl
theorem in_ints (xs : List Int) (k : Int) : inV (.int k) (xs.map V.int) = decide (k ∈ xs) := by
  unfold inV
  rw [Bool.eq_iff_iff, List.any_eq_true, decide_eq_true_iff]
  constructor
  · rintro ⟨y, hy, e⟩
    obtain ⟨i, hi, rfl⟩ := List.mem_map.mp hy
    have : i = k := by
      have e : (i == k) = true := e
      exact eq_of_beq e
    rw [← this]
    exact hi
  · intro h
    exact ⟨_, List.mem_map.mpr ⟨k, h, rfl⟩, show (k == k) = true from beq_self_eq_true k⟩
theorem first_of {xs : List Int} {k : Int} : k ∈ xs → ∃ j : Nat, xs[j]? = some k ∧ ∀ m, m < j → xs[m]? ≠ some k := by
  induction xs with
  | nil => intro h; cases h
  | cons x r ih =>
    intro h
    by_cases e : x = k
    · exact ⟨0, by rw [e]; rfl, fun m hm => by omega⟩
    · rcases List.mem_cons.mp h with h | h
      · exact absurd h.symm e
      · obtain ⟨j, h1, h2⟩ := ih h
        refine ⟨j + 1, h1, fun m hm => ?_⟩
        cases m with
        | zero => exact fun z => e (Option.some.inj z)
        | succ m => exact h2 m (by omega)
theorem ok_parting (T : Defs K mg) (TT : Tabs T base) : FnOk P w K mg base (L2.CX P w) 3 T.f_parting T.fd_parting ["one", "other"] (sp_parting T) := by
  have G_leans : FnOk P w K mg base (L2.CX P w) 2 T.f_leans T.fd_leans ["one", "other"] (sp_leans T) := ok_leans T TT
  refine okX T.F_parting sc_parting (fun vs H Q E h => ?_) (fun cdv A outer s H vs Q E hr h => ?_)
  · obtain ⟨a, b, rs, ss, rfl, two, hz, h⟩ := h
    rfl
  · obtain ⟨a, b, rs, ss, rfl, two, hz, h⟩ := h
    refine ⟨_, (pss_cons (ps_set (i := 2) sc_parting.nd rfl (.inl rfl) (pe_call (E := E) G_leans (hr.mono (by decide)) (by rfl) T.g_leans T.F_leans.kp T.b_leans .nil (passes_call (takes_of rfl rfl rfl rfl) (fun _ _ _ _ h => h)) (pa_cons (pv 0) (pa_cons (pv 1) pa_nil))))
    (pss_cons (ps_if (pt_cmpR op_notIn_seq pe_int (pv 2) rfl) (pss_one (ps_ret pe_non)) pss_nil)
    (pss_one (ps_ret (pe_bm PySem.F.plainAttrs_list PySem.F.slot_list_index PySem.F.type_list_index mt_index (pv 2) (pa_cons pe_int pa_nil)))))), ?_⟩
    refine ⟨.ref a, rfl, .ref b, rfl, a, b, rs, ss, rfl, two, hz, ?_⟩
    rcases h with ⟨hl, q⟩ | ⟨hl, q⟩
    rotate_left
    · exact .inr ⟨hl, q⟩
    refine .inl ⟨hl, fun H1 p s1 np hp => ?_⟩
    obtain ⟨q1, q2⟩ := q H1 s1
    refine ⟨.ref p, rfl, p, _, rfl, .inl (SqL.mk hp), rfl, flat_ints _, _, rfl, ?_⟩
    rw [if_pos rfl, in_ints]
    by_cases z : 0 ∈ LS rs ss
    · rw [decide_eq_true z]
      refine iteF ?_
      obtain ⟨j, h1, h2⟩ := first_of z
      refine ⟨.ref p, rfl, .inl ⟨rfl, _, SqL.mk hp⟩, p, _, .int 0, j, .int 0, rfl, rfl, SqL.mk hp, rfl, flat_ints _, by rw [List.getElem?_map, h1]; rfl, rfl, fun m z' hm e => ?_, q2 j h1 h2⟩
      rw [List.getElem?_map] at e
      obtain ⟨x, hx, rfl⟩ := Option.map_eq_some_iff.mp e
      have hx0 : x ≠ 0 := fun y => h2 m hm (by rw [hx, y])
      show (x == 0) = false
      exact beq_eq_false_iff_ne.mpr hx0
    · rw [decide_eq_false z]
      exact iteT (q1 z)
/-! the law's look at two things alike -/
theorem walk_zipT {K : PySem.W.Frag} {a b : Addr} {xs ys : List V} {n : Nat} (hn : n = min xs.length ys.length) : Walk (RZ.ItzT K a b) n (fun H => SqT K H a xs ∧ SqT K H b ys) (YPair (fun i => xs[i]?) (fun i => ys[i]?)) := by
  subst hn
  refine ⟨fun i H hi q => ?_, fun H q => ⟨xs, ys, q.1, q.2, by omega⟩, fun i H v H' _ q y => ?_⟩
  · exact ⟨xs, ys, xs[i]'(by omega), ys[i]'(by omega), q.1, q.2, List.getElem?_eq_getElem _, List.getElem?_eq_getElem _⟩
  · obtain ⟨T, x, y, e1, e2, e3, f1, f2⟩ := y
    exact ⟨T, x, y, e1, e2, e3, f1 _ q.1, f2 _ q.2⟩
theorem ki2 : PySem.W.kitAny K (.type "int") [.type "list", .type "tuple"] = some false := kitAny_cons (kit_ty (r := false) (by decide +kernel)) (fun _ => kitAny_cons (kit_ty (r := false) (by decide +kernel)) (fun _ => rfl) (fun z => by cases z)) (fun z => by cases z)
theorem kt2 : PySem.W.kitAny K (.type "tuple") [.type "list", .type "tuple"] = some true := kitAny_cons (kit_ty (r := false) (by decide +kernel)) (fun _ => kitAny_cons (r := true) (kit_ty (r := true) (by decide +kernel)) (fun z => by cases z) (fun _ => rfl)) (fun z => by cases z)
theorem kIn {a b : String} {r : Bool} (h : kitB a b = some r) : PySem.W.kitOne K (.type a) (.type b) = some r := kit_ty h
theorem k_is : kitB "int" "str" = some false := by decide +kernel
theorem k_ib : kitB "int" "bool" = some false := by decide +kernel
theorem k_ii : kitB "int" "int" = some true := by decide +kernel
theorem k_tl : kitB "tuple" "list" = some false := by decide +kernel
theorem k_tt : kitB "tuple" "tuple" = some true := by decide +kernel
def sp_same0 (_ : PySem.W.Frag) : Sp := fun vs H Q _ => ∃ x y : Int, vs = [.int x, .int y] ∧ ∀ H', Same H H' → Q (.bl (decide (x = y))) H'
theorem ok_same0 (T : Defs K mg) (TT : Tabs T base) : FnOk P w K mg base CX0 1 T.f__law_same T.fd__law_same ["_law_found", "_law_due"] (sp_same0 K) := by
  have G__law_same : FnOk P w K mg base CX0 0 T.f__law_same T.fd__law_same ["_law_found", "_law_due"] (fun _ _ _ _ => False) := ⟨fun _ _ _ _ z => z.elim, fun _ _ _ _ _ _ _ _ _ _ _ _ _ z => z.elim⟩
  refine T.F__law_same.ok sc__law_same (fun vs H Q E h => ?_) (fun cdv A outer s H vs Q E hr h => ?_)
  · obtain ⟨x, y, rfl, q⟩ := h
    rfl
  · obtain ⟨x, y, rfl, q⟩ := h
    refine ⟨_, PSs.nox (pss_cons (ps_if (pt_val (pe_callB call_isiT (by rfl) T.m_isinstance bt_isinstance (pa_cons (pv 1) (pa_cons (pe_tup (pa_cons (pe_bltn (v := .ty "list") (by rfl) T.m_list bt_list rfl) (pa_cons (pe_bltn (v := .ty "tuple") (by rfl) T.m_tuple bt_tuple rfl) pa_nil))) pa_nil)))) (pss_cons (ps_if (PW.pt (pw_or (pt_cmpR op_ne (pe_callB call_isi (by rfl) T.m_isinstance bt_isinstance (pa_cons (pv 0) (pa_cons (pe_bltn (v := .ty "list") (by rfl) T.m_list bt_list rfl) pa_nil))) (pe_callB call_isi (by rfl) T.m_isinstance bt_isinstance (pa_cons (pv 1) (pa_cons (pe_bltn (v := .ty "list") (by rfl) T.m_list bt_list rfl) pa_nil))) (nomark _)) (pw_or1 (pt_cmpR op_ne (pe_callB call_isi (by rfl) T.m_isinstance bt_isinstance (pa_cons (pv 0) (pa_cons (pe_bltn (v := .ty "tuple") (by rfl) T.m_tuple bt_tuple rfl) pa_nil))) (pe_callB call_isi (by rfl) T.m_isinstance bt_isinstance (pa_cons (pv 1) (pa_cons (pe_bltn (v := .ty "tuple") (by rfl) T.m_tuple bt_tuple rfl) pa_nil))) (nomark _))))) (pss_one (ps_ret pe_bl)) pss_nil)
    (pss_one (ps_ret (pe_and (pe_cmpR op_eq (pe_callB call_len_seq (by rfl) T.m_len bt_len (pa_cons (pv 0) pa_nil)) (pe_callB call_len_seq (by rfl) T.m_len bt_len (pa_cons (pv 1) pa_nil)) (nomark _)) (pe_one (pe_callB (cr_all rfl) (by rfl) T.m_all bt_all (pa_cons (pe_lc (own := [("_law_one", 2), ("_law_other", 3)]) (g := gTup K 2 (gCons (gName 2) (gCons (gName 3) gNil))) (tt := tYes) rfl sc__law_same.nd (RZ.pi_zipA (by rfl) T.m_zip (pa_cons (pv 0) (pa_cons (pv 1) pa_nil))) (blkOk_by (N := N__law_same) (sc := defScope s__law_same) (by decide +kernel)) (fun _ _ _ _ _ => (pg_tupK (K := K) rfl rfl (pgs_cons (pg_name (i := 2) sc__law_same.nd rfl (.inl rfl)) (pgs_cons (pg_name (i := 3) sc__law_same.nd rfl (.inl rfl)) pgs_nil)))) (fun _ _ _ _ _ => pts_nil) (fun _ _ _ _ _ => (pe_call G__law_same (hr.mono (by decide)) (by rfl) T.g__law_same T.F__law_same.kp T.b__law_same .nil pass0 (pa_cons (pv 2) (pa_cons (pv 3) pa_nil))))) pa_nil))))))) pss_nil)
    (pss_cons (ps_if (pt_cmpR op_isN (pv 1) pe_non (nomark _)) (pss_one (ps_ret (pe_cmpR op_isN (pv 0) pe_non (nomark _)))) pss_nil)
    (pss_cons (ps_if (pt_val (pe_callB call_isi (by rfl) T.m_isinstance bt_isinstance (pa_cons (pv 1) (pa_cons (pe_bltn (v := .ty "str") (by rfl) T.m_str bt_str rfl) pa_nil)))) (pss_one (ps_ret (pe_and (pe_callB call_isi (by rfl) T.m_isinstance bt_isinstance (pa_cons (pv 0) (pa_cons (pe_bltn (v := .ty "str") (by rfl) T.m_str bt_str rfl) pa_nil))) (pe_one (pe_cmpR op_eq (pv 0) (pv 1) (nomark _)))))) pss_nil)
    (pss_cons (ps_if (pt_val (pe_callB call_isi (by rfl) T.m_isinstance bt_isinstance (pa_cons (pv 1) (pa_cons (pe_bltn (v := .ty "bool") (by rfl) T.m_bool bt_bool rfl) pa_nil)))) (pss_one (ps_ret (pe_and (pe_callB call_isi (by rfl) T.m_isinstance bt_isinstance (pa_cons (pv 0) (pa_cons (pe_bltn (v := .ty "bool") (by rfl) T.m_bool bt_bool rfl) pa_nil))) (pe_one (pe_cmpR op_eq (pv 0) (pv 1) (nomark _)))))) pss_nil)
    (pss_one (ps_ret (pe_and (pe_callB call_isi (by rfl) T.m_isinstance bt_isinstance (pa_cons (pv 0) (pa_cons (pe_bltn (v := .ty "int") (by rfl) T.m_int bt_int rfl) pa_nil))) (pe_and (pe_not (pe_callB call_isi (by rfl) T.m_isinstance bt_isinstance (pa_cons (pv 0) (pa_cons (pe_bltn (v := .ty "bool") (by rfl) T.m_bool bt_bool rfl) pa_nil)))) (pe_one (pe_cmpR op_eq (pv 0) (pv 1) (nomark _))))))))))), ?_⟩
    refine ⟨.int y, rfl, (show 2 ≤ sizeLine by decide), fun tp np => ?_⟩
    have s1 : Same H (upd H tp (.tup [.ty "list", .ty "tuple"])) := same_upd np
    refine ⟨_, tp, _, _, _, _, rfl, upd_same, .cons (.ty "list") (.cons (.ty "tuple") .nil), .base (.int y), ki2, _, rfl, ?_⟩
    refine iteF ?_
    refine ⟨.int y, rfl, rfl, _, rfl, ?_⟩
    refine iteF ?_
    refine ⟨.int y, rfl, _, _, _, _, _, rfl, .ty "str", .base (.int y), kIn k_is, _, rfl, ?_⟩
    refine iteF ?_
    refine ⟨.int y, rfl, _, _, _, _, _, rfl, .ty "bool", .base (.int y), kIn k_ib, _, rfl, ?_⟩
    refine iteF ?_
    refine ⟨.int x, rfl, _, _, _, _, _, rfl, .ty "int", .base (.int x), kIn k_ii, _, rfl, ?_⟩
    refine iteT ?_
    refine ⟨.int x, rfl, _, _, _, _, _, rfl, .ty "bool", .base (.int x), kIn k_ib, _, rfl, _, rfl, ?_⟩
    refine iteT ?_
    refine ⟨.int x, rfl, .int y, rfl, rfl, ?_⟩
    have e : decide (V.int x = V.int y) = decide (x = y) := decide_eq_decide.mpr ⟨V.int.inj, fun z => by rw [z]⟩
    rw [e]
    exact q _ s1
theorem kl2 : PySem.W.kitAny K (.type "list") [.type "list", .type "tuple"] = some true := kitAny_cons (r := true) (kit_ty (r := true) (by decide +kernel)) (fun z => by cases z) (fun _ => rfl)
theorem kn2 : PySem.W.kitAny K (.type "NoneType") [.type "list", .type "tuple"] = some false := kitAny_cons (kit_ty (r := false) (by decide +kernel)) (fun _ => kitAny_cons (kit_ty (r := false) (by decide +kernel)) (fun _ => rfl) (fun z => by cases z)) (fun z => by cases z)
theorem k_ll : kitB "list" "list" = some true := by decide +kernel
theorem k_lt : kitB "list" "tuple" = some false := by decide +kernel
/-- two numbers alike, no thing twice, or two lists of the same numbers -/
def sp__law_same (_ : PySem.W.Frag) : Sp := fun vs H Q _ => ∃ x y : V, vs = [x, y] ∧ ((∃ i : Int, x = .int i ∧ y = .int i) ∨ (x = .non ∧ y = .non) ∨ (∃ (a b : Addr) (rs : List Int), x = .ref a ∧ y = .ref b ∧ H a = some (.lst (rs.map V.int)) ∧ H b = some (.lst (rs.map V.int)) ∧ rs.length ≤ 100000)) ∧
  ∀ H', Same H H' → Q (.bl true) H'
theorem ok__law_same (T : Defs K mg) (TT : Tabs T base) : FnOk P w K mg base CX0 2 T.f__law_same T.fd__law_same ["_law_found", "_law_due"] (sp__law_same K) := by
  have G__law_same : FnOk P w K mg base CX0 1 T.f__law_same T.fd__law_same ["_law_found", "_law_due"] (sp_same0 K) := ok_same0 T TT
  refine T.F__law_same.ok sc__law_same (fun vs H Q E h => ?_) (fun cdv A outer s H vs Q E hr h => ?_)
  · obtain ⟨vx, vy, rfl, h, q⟩ := h
    rfl
  · obtain ⟨vx, vy, rfl, h, q⟩ := h
    refine ⟨_, PSs.nox (pss_cons (ps_if (pt_val (pe_callB call_isiT (by rfl) T.m_isinstance bt_isinstance (pa_cons (pv 1) (pa_cons (pe_tup (pa_cons (pe_bltn (v := .ty "list") (by rfl) T.m_list bt_list rfl) (pa_cons (pe_bltn (v := .ty "tuple") (by rfl) T.m_tuple bt_tuple rfl) pa_nil))) pa_nil)))) (pss_cons (ps_if (PW.pt (pw_or (pt_cmpR op_ne (pe_callB call_isi (by rfl) T.m_isinstance bt_isinstance (pa_cons (pv 0) (pa_cons (pe_bltn (v := .ty "list") (by rfl) T.m_list bt_list rfl) pa_nil))) (pe_callB call_isi (by rfl) T.m_isinstance bt_isinstance (pa_cons (pv 1) (pa_cons (pe_bltn (v := .ty "list") (by rfl) T.m_list bt_list rfl) pa_nil))) (nomark _)) (pw_or1 (pt_cmpR op_ne (pe_callB call_isi (by rfl) T.m_isinstance bt_isinstance (pa_cons (pv 0) (pa_cons (pe_bltn (v := .ty "tuple") (by rfl) T.m_tuple bt_tuple rfl) pa_nil))) (pe_callB call_isi (by rfl) T.m_isinstance bt_isinstance (pa_cons (pv 1) (pa_cons (pe_bltn (v := .ty "tuple") (by rfl) T.m_tuple bt_tuple rfl) pa_nil))) (nomark _))))) (pss_one (ps_ret pe_bl)) pss_nil)
    (pss_one (ps_ret (pe_and (pe_cmpR op_eq (pe_callB call_len_seq (by rfl) T.m_len bt_len (pa_cons (pv 0) pa_nil)) (pe_callB call_len_seq (by rfl) T.m_len bt_len (pa_cons (pv 1) pa_nil)) (nomark _)) (pe_one (pe_callB (cr_all rfl) (by rfl) T.m_all bt_all (pa_cons (pe_lc (own := [("_law_one", 2), ("_law_other", 3)]) (g := gTup K 2 (gCons (gName 2) (gCons (gName 3) gNil))) (tt := tYes) rfl sc__law_same.nd (RZ.pi_zipA (by rfl) T.m_zip (pa_cons (pv 0) (pa_cons (pv 1) pa_nil))) (blkOk_by (N := N__law_same) (sc := defScope s__law_same) (by decide +kernel)) (fun _ _ _ _ _ => (pg_tupK (K := K) rfl rfl (pgs_cons (pg_name (i := 2) sc__law_same.nd rfl (.inl rfl)) (pgs_cons (pg_name (i := 3) sc__law_same.nd rfl (.inl rfl)) pgs_nil)))) (fun _ _ _ _ _ => pts_nil) (fun _ _ _ _ _ => (pe_call G__law_same (hr.mono (by decide)) (by rfl) T.g__law_same T.F__law_same.kp T.b__law_same .nil pass0 (pa_cons (pv 2) (pa_cons (pv 3) pa_nil))))) pa_nil))))))) pss_nil)
    (pss_cons (ps_if (pt_cmpR op_isN (pv 1) pe_non (nomark _)) (pss_one (ps_ret (pe_cmpR op_isN (pv 0) pe_non (nomark _)))) pss_nil)
    (pss_cons (ps_if (pt_val (pe_callB call_isi (by rfl) T.m_isinstance bt_isinstance (pa_cons (pv 1) (pa_cons (pe_bltn (v := .ty "str") (by rfl) T.m_str bt_str rfl) pa_nil)))) (pss_one (ps_ret (pe_and (pe_callB call_isi (by rfl) T.m_isinstance bt_isinstance (pa_cons (pv 0) (pa_cons (pe_bltn (v := .ty "str") (by rfl) T.m_str bt_str rfl) pa_nil))) (pe_one (pe_cmpR op_eq (pv 0) (pv 1) (nomark _)))))) pss_nil)
    (pss_cons (ps_if (pt_val (pe_callB call_isi (by rfl) T.m_isinstance bt_isinstance (pa_cons (pv 1) (pa_cons (pe_bltn (v := .ty "bool") (by rfl) T.m_bool bt_bool rfl) pa_nil)))) (pss_one (ps_ret (pe_and (pe_callB call_isi (by rfl) T.m_isinstance bt_isinstance (pa_cons (pv 0) (pa_cons (pe_bltn (v := .ty "bool") (by rfl) T.m_bool bt_bool rfl) pa_nil))) (pe_one (pe_cmpR op_eq (pv 0) (pv 1) (nomark _)))))) pss_nil)
    (pss_one (ps_ret (pe_and (pe_callB call_isi (by rfl) T.m_isinstance bt_isinstance (pa_cons (pv 0) (pa_cons (pe_bltn (v := .ty "int") (by rfl) T.m_int bt_int rfl) pa_nil))) (pe_and (pe_not (pe_callB call_isi (by rfl) T.m_isinstance bt_isinstance (pa_cons (pv 0) (pa_cons (pe_bltn (v := .ty "bool") (by rfl) T.m_bool bt_bool rfl) pa_nil)))) (pe_one (pe_cmpR op_eq (pv 0) (pv 1) (nomark _))))))))))), ?_⟩
    rcases h with ⟨x, rfl, rfl⟩ | ⟨rfl, rfl⟩ | ⟨a, b, rs, rfl, rfl, ha, hb, hl⟩
    · refine ⟨.int x, rfl, (show 2 ≤ sizeLine by decide), fun tp np => ?_⟩
      have s1 : Same H (upd H tp (.tup [.ty "list", .ty "tuple"])) := same_upd np
      refine ⟨_, tp, _, _, _, _, rfl, upd_same, .cons (.ty "list") (.cons (.ty "tuple") .nil), .base (.int x), ki2, _, rfl, ?_⟩
      refine iteF ?_
      refine ⟨.int x, rfl, rfl, _, rfl, ?_⟩
      refine iteF ?_
      refine ⟨.int x, rfl, _, _, _, _, _, rfl, .ty "str", .base (.int x), kIn k_is, _, rfl, ?_⟩
      refine iteF ?_
      refine ⟨.int x, rfl, _, _, _, _, _, rfl, .ty "bool", .base (.int x), kIn k_ib, _, rfl, ?_⟩
      refine iteF ?_
      refine ⟨.int x, rfl, _, _, _, _, _, rfl, .ty "int", .base (.int x), kIn k_ii, _, rfl, ?_⟩
      refine iteT ?_
      refine ⟨.int x, rfl, _, _, _, _, _, rfl, .ty "bool", .base (.int x), kIn k_ib, _, rfl, _, rfl, ?_⟩
      refine iteT ?_
      refine ⟨.int x, rfl, .int x, rfl, rfl, ?_⟩
      rw [decide_eq_true rfl]
      exact q _ s1
    · refine ⟨.non, rfl, (show 2 ≤ sizeLine by decide), fun tp np => ?_⟩
      have s1 : Same H (upd H tp (.tup [.ty "list", .ty "tuple"])) := same_upd np
      refine ⟨_, tp, _, _, _, _, rfl, upd_same, .cons (.ty "list") (.cons (.ty "tuple") .nil), .base .non, kn2, _, rfl, ?_⟩
      refine iteF ?_
      refine ⟨.non, rfl, rfl, _, rfl, ?_⟩
      refine iteT ?_
      exact ⟨.non, rfl, rfl, q _ s1⟩
    · refine ⟨.ref b, rfl, (show 2 ≤ sizeLine by decide), fun tp np => ?_⟩
      have s1 : Same H (upd H tp (.tup [.ty "list", .ty "tuple"])) := same_upd np
      have ha1 := s1 _ _ ha
      have hb1 := s1 _ _ hb
      refine ⟨_, tp, _, _, _, _, rfl, upd_same, .cons (.ty "list") (.cons (.ty "tuple") .nil), .base (.lst hb1), kl2, _, rfl, ?_⟩
      generalize upd H tp (.tup [.ty "list", .ty "tuple"]) = H1 at *
      refine iteT ?_
      refine ⟨.ref a, rfl, _, _, _, _, _, rfl, .ty "list", .base (.lst ha1), kIn k_ll, .ref b, rfl, _, _, _, _, _, rfl, .ty "list", .base (.lst hb1), kIn k_ll, rfl, _, rfl, ?_⟩
      refine iteF ?_
      refine ⟨.ref a, rfl, _, _, _, _, _, rfl, .ty "tuple", .base (.lst ha1), kIn k_lt, .ref b, rfl, _, _, _, _, _, rfl, .ty "tuple", .base (.lst hb1), kIn k_lt, rfl, _, rfl, ?_⟩
      refine iteF ?_
      refine ⟨.ref a, rfl, a, _, rfl, .inl (SqL.mk ha1), .ref b, rfl, b, _, rfl, .inl (SqL.mk hb1), rfl, _, rfl, ?_⟩
      rw [decide_eq_true rfl]
      refine iteT ?_
      have hsl : sizeLine = 16777216 := by decide
      refine ⟨.ref a, rfl, .ref b, rfl, a, b, _, _, rfl, .inl ⟨SqL.mk ha1, SqL.mk hb1, fun D nD => ?_⟩⟩
      refine lc_it (walk_zip (n := rs.length) (xs := rs.map V.int) (ys := rs.map V.int) (by rw [List.length_map, Nat.min_self])) (fun i H2 => Same H1 H2 ∧ H2 D = some (.lst ((List.replicate i true).map V.bl))) ⟨same_upd nD, upd_same⟩ (fun i H2 _ h2 => ⟨SqL.mk (h2.1 _ _ ha1), SqL.mk (h2.1 _ _ hb1)⟩) ?_ ?_
      · rintro i x H2 H3 hi ⟨s2, hD⟩ ⟨t, x1, x2, rfl, nt, rfl, e1, e2⟩
        have g : (rs.map V.int)[i]? = some (.int rs[i]) := by
          rw [List.getElem?_map, List.getElem?_eq_getElem hi]
          rfl
        have e1 : (rs.map V.int)[i]? = some x1 := e1
        have e2 : (rs.map V.int)[i]? = some x2 := e2
        rw [g] at e1 e2
        cases e1
        cases e2
        refine ⟨t, _, rfl, SqT.mk upd_same, rfl, _, _, rfl, _, _, rfl, rfl, rfl, yes_ite ?_⟩
        refine ⟨_, rfl, _, rfl, rs[i], rs[i], rfl, fun H4 s4 => ?_⟩
        have s24 : Same H2 H4 := (same_upd nt).trans s4
        refine ⟨_, s24 _ _ hD, by rw [List.length_map, List.length_replicate]; omega, same_newer (s2.trans s24) nD, ?_⟩
        rw [upd_same, List.replicate_succ', List.map_append, decide_eq_true rfl]
        rfl
      · rintro H2 ⟨s2, hD⟩
        refine ⟨D, List.replicate rs.length true, rfl, SqL.mk hD, ?_⟩
        rw [show (List.replicate rs.length true).all id = true by rw [List.all_replicate]; simp]
        exact q _ (s1.trans s2)
/-! how often two rows meet, by the law's own count -/
theorem filt_pos {p : Nat → Bool} {i : Nat} (h : p i = true) : (List.range (i + 1)).filter p = (List.range i).filter p ++ [i] := by
  rw [List.range_succ, List.filter_append, List.filter_cons_of_pos h]
  rfl
theorem filt_neg {p : Nat → Bool} {i : Nat} (h : p i = false) : (List.range (i + 1)).filter p = (List.range i).filter p := by
  rw [List.range_succ, List.filter_append, List.filter_cons_of_neg (by rw [h]; exact Bool.false_ne_true)]
  exact List.append_nil _
theorem filt_len (p : Nat → Bool) (i : Nat) : ((List.range i).filter p).length ≤ i := by
  have := List.length_filter_le p (List.range i)
  rw [List.length_range] at this
  exact this
theorem back_mod {i b n : Nat} (hb : b < n) : ((0 : Int) + (i : Int) - (b : Int)) % (n : Int) = (((i + n - b) % n : Nat) : Int) := by
  rw [Int.natCast_emod, Int.ofNat_sub (show b ≤ i + n by omega), Int.natCast_add, Int.zero_add, show (i : Int) + (n : Int) - (b : Int) = (i : Int) - (b : Int) + (n : Int) by omega, Int.add_emod_right]
def sp__law_met (_ : PySem.W.Frag) : Sp := fun vs H Q _ => ∃ (a b : Addr) (rs ss : List Int) (v : Int) (bn : Nat), vs = [.ref a, .ref b, .int v] ∧ v = (bn : Nat) ∧ Two H a b rs ss ∧ rs.length = ss.length ∧ bn < rs.length ∧ rs.length ≤ 100000 ∧
  ∀ H', Same H H' → Q (.int (mt rs ss bn)) H'
theorem ok__law_met (T : Defs K mg) (TT : Tabs T base) : FnOk P w K mg base CX0 1 T.f__law_met T.fd__law_met ["_law_one", "_law_other", "_law_by"] (sp__law_met K) := by
  refine T.F__law_met.ok sc__law_met (fun vs H Q E h => ?_) (fun cdv A outer s H vs Q E hr h => ?_)
  · obtain ⟨a, b, rs, ss, v, bn, rfl, rfl, ⟨ha, hb, br, bs⟩, hl, hbn, hz, q⟩ := h
    rfl
  · obtain ⟨a, b, rs, ss, v, bn, rfl, rfl, ⟨ha, hb, br, bs⟩, hl, hbn, hz, q⟩ := h
    refine ⟨_, PSs.nox (pss_cons (ps_set (i := 3) sc__law_met.nd rfl (.inr rfl) (pe_callB call_len_seq (by rfl) T.m_len bt_len (pa_cons (pv 0) pa_nil)))
    (pss_one (ps_ret (pe_callB call_len_seq (by rfl) T.m_len bt_len (pa_cons (pe_lc (own := [("_law_place", 4)]) (g := gName 4) rfl sc__law_met.nd (pi_range1 (by rfl) T.m_range (pa_cons (pv 3) pa_nil)) (blkOk_by (N := N__law_met) (sc := defScope s__law_met) (by decide +kernel)) (fun _ _ _ _ _ => (pg_name (i := 4) sc__law_met.nd rfl (.inl rfl))) (fun _ _ _ _ _ => pts_one (PW.pt (pw_and (pt_cmpR op_eq (pe_ix (ixtK (K := K) rfl) (pv 0) (pv 4) (fun _ _ => rfl)) pe_int (nomark _)) (pw_and1 (pt_cmpR op_eq (pe_ix (ixtK (K := K) rfl) (pv 1) (pe_op op_mod (pe_op op_sub (pv 4) (pv 2)) (pv 3)) (fun _ _ => rfl)) pe_int (nomark _)))))) (fun _ _ _ _ _ => (pv 4))) pa_nil))))), ?_⟩
    have hsl : sizeLine = 16777216 := by decide
    refine ⟨.ref a, rfl, a, _, rfl, .inr (SqT.mk ha), ?_⟩
    have en : (rs.map V.int).length = rs.length := List.length_map ..
    rw [en]
    refine ⟨.int (rs.length : Nat), rfl, (rs.length : Nat), rfl, by omega, by omega, fun D nD => ?_⟩
    refine lc_range (fun i G => Same H G ∧ G D = some (.lst (((List.range i).filter fun i => decide (rs.getD i 0 = 1) && decide (ss.getD ((i + rs.length - bn) % rs.length) 0 = 1)).map fun k => V.int (k : Nat)))) ⟨same_upd nD, upd_same⟩ (fun i G hi h => ?_) (fun G h => ?_)
    · obtain ⟨sG, hD⟩ := h
      rw [Int.toNat_natCast] at hi
      have hm : (i + rs.length - bn) % rs.length < ss.length := by
        rw [← hl]
        exact Nat.mod_lt _ (by omega)
      refine ⟨rfl, ?_⟩
      refine ⟨.ref a, rfl, _, rfl, a, _, _, .int (rs.getD i 0), rfl, rfl, SqT.mk (sG _ _ ha), ?_, rfl, _, rfl, ite2 (fun z => ?_) (fun z => ?_)⟩
      · rw [Int.zero_add]
        exact atI_nat (by rw [List.getElem?_map, getD_at hi]; rfl)
      · have z1 : rs.getD i 0 = 1 := V.int.inj (of_decide_eq_true z)
        refine ⟨.ref b, rfl, _, rfl, .int (bn : Nat), rfl, _, _, rfl, rfl, .int (rs.length : Nat), rfl, _, _, rfl, rfl, (show (0 : Int) < (rs.length : Nat) by omega), b, _, _, .int (ss.getD ((i + rs.length - bn) % rs.length) 0), rfl, rfl, SqT.mk (sG _ _ hb), ?_, rfl, _, rfl, ite2 (fun z' => ?_) (fun z' => ?_)⟩
        · rw [back_mod hbn]
          exact atI_nat (by rw [List.getElem?_map, getD_at hm]; rfl)
        · have z2 : ss.getD ((i + rs.length - bn) % rs.length) 0 = 1 := V.int.inj (of_decide_eq_true z')
          refine ⟨_, rfl, _, hD, ?_, same_newer sG nD, ?_⟩
          · have := filt_len (fun i => decide (rs.getD i 0 = 1) && decide (ss.getD ((i + rs.length - bn) % rs.length) 0 = 1)) i
            rw [List.length_map]
            omega
          · rw [upd_same, filt_pos (by rw [decide_eq_true z1, decide_eq_true z2]; rfl), List.map_append, Int.zero_add]
            rfl
        · have z2 : ¬ ss.getD ((i + rs.length - bn) % rs.length) 0 = 1 := fun y => z' (by rw [y]; exact decide_eq_true rfl)
          exact ⟨sG, by rw [filt_neg (by rw [decide_eq_false z2, Bool.and_false])]; exact hD⟩
      · have z1 : ¬ rs.getD i 0 = 1 := fun y => z (by rw [y]; exact decide_eq_true rfl)
        refine iteF ?_
        exact ⟨sG, by rw [filt_neg (by rw [decide_eq_false z1, Bool.false_and])]; exact hD⟩
    · obtain ⟨sG, hD⟩ := h
      rw [Int.toNat_natCast] at hD
      refine ⟨D, _, rfl, .inl (SqL.mk hD), ?_⟩
      rw [List.length_map, count_mt br bs]
      exact q G sG
/-! two rows of two lengths are refused -/
theorem none_of {t c1 c2 c3 c4 c5 : Value} (h1 : PySem.W.kitOne K t c1 = some false) (h2 : PySem.W.kitOne K t c2 = some false) (h3 : PySem.W.kitOne K t c3 = some false) (h4 : PySem.W.kitOne K t c4 = some false) (h5 : PySem.W.kitOne K t c5 = some false) : PySem.W.kitAny K t [c1, c2, c3, c4, c5] = some false :=
  kitAny_cons h1 (fun _ => kitAny_cons h2 (fun _ => kitAny_cons h3 (fun _ => kitAny_cons h4 (fun _ => kitAny_cons h5 (fun _ => rfl) (fun z => by cases z)) (fun z => by cases z)) (fun z => by cases z)) (fun z => by cases z)) (fun z => by cases z)
def sp__law_refused {K : PySem.W.Frag} {mg : Str → Option Value} (_ : Defs K mg) : Sp := fun vs H Q _ => ∃ (a b : Addr) (rs ss : List Int) (v : Int), vs = [.int v, .ref a, .ref b] ∧ Two H a b rs ss ∧ rs.length ≠ ss.length ∧ rs.length ≤ 100000 ∧
  ∀ H', Same H H' → Q (.bl true) H'
theorem ok__law_refused (T : Defs K mg) (TT : Tabs T base) : FnOk P w K mg base CX0 5 T.f__law_refused T.fd__law_refused ["_law_which", "_law_one", "_law_other"] (sp__law_refused T) := by
  have G_overlap : FnOk P w K mg base (L2.CX P w) 3 T.f_overlap T.fd_overlap ["one", "other"] (sp_overlap T) := ok_overlap T TT
  have G_lean : FnOk P w K mg base (L2.CX P w) 4 T.f_lean T.fd_lean ["one", "other"] (sp_lean T) := ok_lean T TT
  have G_leans : FnOk P w K mg base (L2.CX P w) 2 T.f_leans T.fd_leans ["one", "other"] (sp_leans T) := ok_leans T TT
  have G_parting : FnOk P w K mg base (L2.CX P w) 3 T.f_parting T.fd_parting ["one", "other"] (sp_parting T) := ok_parting T TT
  refine T.F__law_refused.ok sc__law_refused (fun vs H Q E h => ?_) (fun cdv A outer s H vs Q E hr h => ?_)
  · obtain ⟨a, b, rs, ss, v, rfl, two, hne, hz, q⟩ := h
    rfl
  · obtain ⟨a, b, rs, ss, v, rfl, two, hne, hz, q⟩ := h
    refine ⟨_, PSs.nox (pss_cons (ps_set (i := 3) sc__law_refused.nd rfl (.inl rfl) pe_non)
    (pss_cons (ps_try_held (i := 4) rfl rfl rfl sc__law_refused.nd rfl rfl ⟨by rfl, by decide, .inl T.g_OnesError⟩ takes0 (fun W pn xe tk pa => (pss_one (ps_if (pt_cmpR op_eq (pv 0) pe_int (nomark _)) (pss_one (ps_expr (pe_callS G_overlap (hr.mono (by decide)) (by rfl) T.g_overlap T.F_overlap.kp T.b_overlap (fun σ => passAt tk σ) (pa_cons (pv 1) (pa_cons (pv 2) pa_nil))))) (pss_one (ps_if (pt_cmpR op_eq (pv 0) pe_int (nomark _)) (pss_one (ps_expr (pe_callS G_lean (hr.mono (by decide)) (by rfl) T.g_lean T.F_lean.kp T.b_lean (fun σ => passAt tk σ) (pa_cons (pv 1) (pa_cons (pv 2) pa_nil))))) (pss_one (ps_if (pt_cmpR op_eq (pv 0) pe_int (nomark _)) (pss_one (ps_expr (pe_callS G_leans (hr.mono (by decide)) (by rfl) T.g_leans T.F_leans.kp T.b_leans (fun σ => passAt tk σ) (pa_cons (pv 1) (pa_cons (pv 2) pa_nil))))) (pss_one (ps_expr (pe_callS G_parting (hr.mono (by decide)) (by rfl) T.g_parting T.F_parting.kp T.b_parting (fun σ => passAt tk σ) (pa_cons (pv 1) (pa_cons (pv 2) pa_nil)))))))))))) (fun a oe cls d pn hz hf => (pss_one (ps_set (i := 3) sc__law_refused.nd rfl (.inl rfl) (pv 4)))))
    (pss_cons (ps_if (PW.pt (pw_or (pt_not (pt_val (pe_callB call_isK (by rfl) T.m_isinstance bt_isinstance (pa_cons (pv 3) (pa_cons (pe_glob (v := .ref T.C_Unlike) (by rfl) T.g_Unlike rfl) pa_nil))))) (pw_or1 (pt_not (pt_val (pe_callB call_isK (by rfl) T.m_isinstance bt_isinstance (pa_cons (pv 3) (pa_cons (pe_bltn (v := .ty "ValueError") (by rfl) T.m_ValueError bt_ValueError rfl) pa_nil)))))))) (pss_one (ps_ret pe_bl)) pss_nil)
    (pss_one (ps_ret (pe_not (pe_callB call_isKT (by rfl) T.m_isinstance bt_isinstance (pa_cons (pv 3) (pa_cons (pe_tup (pa_cons (pe_glob (v := .ref T.C_BadSheet) (by rfl) T.g_BadSheet rfl) (pa_cons (pe_glob (v := .ref T.C_BadText) (by rfl) T.g_BadText rfl) (pa_cons (pe_glob (v := .ref T.C_NoOne) (by rfl) T.g_NoOne rfl) (pa_cons (pe_glob (v := .ref T.C_NoRound) (by rfl) T.g_NoRound rfl) (pa_cons (pe_glob (v := .ref T.C_NoSuch) (by rfl) T.g_NoSuch rfl) pa_nil)))))) pa_nil))))))))), ?_⟩
    refine ⟨.int v, rfl, rfl, _, rfl, ite2 (fun _ => ?_) (fun _ => ?_)⟩
    · refine ⟨.ref a, rfl, .ref b, rfl, a, b, rs, ss, rfl, two, .inr ⟨hne, fun H1 s1 => ?_⟩⟩
      refine ⟨true, T.xm_Unlike, fun z => (by cases z), fun _ e ne => ?_⟩
      refine ⟨.ref e, rfl, ?_⟩
      have s2 : Same H (upd H1 e (ExK (.ref T.C_Unlike) none e)) := s1.trans (same_upd ne)
      refine ⟨.ref e, rfl, e, T.C_Unlike, _, _, true, rfl, upd_same, T.xc_Unlike, .own _, T.xo_Unlike_Unlike, _, rfl, ?_⟩
      refine iteF ?_
      refine ⟨.ref e, rfl, e, T.C_Unlike, _, _, true, rfl, upd_same, T.xc_Unlike, .ty "ValueError", T.xv_Unlike, _, rfl, ?_⟩
      refine iteF ?_
      refine ⟨.ref e, rfl, (show 5 ≤ sizeLine by decide), fun t nt => ?_⟩
      refine ⟨e, T.C_Unlike, t, _, _, false, rfl, (same_upd nt) _ _ upd_same, T.xc_Unlike, upd_same, .cons (.own _) (.cons (.own _) (.cons (.own _) (.cons (.own _) (.cons (.own _) .nil)))), none_of T.xo_Unlike_BadSheet T.xo_Unlike_BadText T.xo_Unlike_NoOne T.xo_Unlike_NoRound T.xo_Unlike_NoSuch, _, rfl, ?_⟩
      exact q _ (s2.trans (same_upd nt))
    refine ⟨.int v, rfl, rfl, _, rfl, ite2 (fun _ => ?_) (fun _ => ?_)⟩
    · refine ⟨.ref a, rfl, .ref b, rfl, a, b, rs, ss, rfl, two, hz, .inr ⟨hne, fun H1 s1 => ?_⟩⟩
      refine ⟨true, T.xm_Unlike, fun z => (by cases z), fun _ e ne => ?_⟩
      refine ⟨.ref e, rfl, ?_⟩
      have s2 : Same H (upd H1 e (ExK (.ref T.C_Unlike) none e)) := s1.trans (same_upd ne)
      refine ⟨.ref e, rfl, e, T.C_Unlike, _, _, true, rfl, upd_same, T.xc_Unlike, .own _, T.xo_Unlike_Unlike, _, rfl, ?_⟩
      refine iteF ?_
      refine ⟨.ref e, rfl, e, T.C_Unlike, _, _, true, rfl, upd_same, T.xc_Unlike, .ty "ValueError", T.xv_Unlike, _, rfl, ?_⟩
      refine iteF ?_
      refine ⟨.ref e, rfl, (show 5 ≤ sizeLine by decide), fun t nt => ?_⟩
      refine ⟨e, T.C_Unlike, t, _, _, false, rfl, (same_upd nt) _ _ upd_same, T.xc_Unlike, upd_same, .cons (.own _) (.cons (.own _) (.cons (.own _) (.cons (.own _) (.cons (.own _) .nil)))), none_of T.xo_Unlike_BadSheet T.xo_Unlike_BadText T.xo_Unlike_NoOne T.xo_Unlike_NoRound T.xo_Unlike_NoSuch, _, rfl, ?_⟩
      exact q _ (s2.trans (same_upd nt))
    refine ⟨.int v, rfl, rfl, _, rfl, ite2 (fun _ => ?_) (fun _ => ?_)⟩
    · refine ⟨.ref a, rfl, .ref b, rfl, a, b, rs, ss, rfl, two, hz, .inr ⟨hne, fun H1 s1 => ?_⟩⟩
      refine ⟨true, T.xm_Unlike, fun z => (by cases z), fun _ e ne => ?_⟩
      refine ⟨.ref e, rfl, ?_⟩
      have s2 : Same H (upd H1 e (ExK (.ref T.C_Unlike) none e)) := s1.trans (same_upd ne)
      refine ⟨.ref e, rfl, e, T.C_Unlike, _, _, true, rfl, upd_same, T.xc_Unlike, .own _, T.xo_Unlike_Unlike, _, rfl, ?_⟩
      refine iteF ?_
      refine ⟨.ref e, rfl, e, T.C_Unlike, _, _, true, rfl, upd_same, T.xc_Unlike, .ty "ValueError", T.xv_Unlike, _, rfl, ?_⟩
      refine iteF ?_
      refine ⟨.ref e, rfl, (show 5 ≤ sizeLine by decide), fun t nt => ?_⟩
      refine ⟨e, T.C_Unlike, t, _, _, false, rfl, (same_upd nt) _ _ upd_same, T.xc_Unlike, upd_same, .cons (.own _) (.cons (.own _) (.cons (.own _) (.cons (.own _) (.cons (.own _) .nil)))), none_of T.xo_Unlike_BadSheet T.xo_Unlike_BadText T.xo_Unlike_NoOne T.xo_Unlike_NoRound T.xo_Unlike_NoSuch, _, rfl, ?_⟩
      exact q _ (s2.trans (same_upd nt))
    · refine ⟨.ref a, rfl, .ref b, rfl, a, b, rs, ss, rfl, two, hz, .inr ⟨hne, fun H1 s1 => ?_⟩⟩
      refine ⟨true, T.xm_Unlike, fun z => (by cases z), fun _ e ne => ?_⟩
      refine ⟨.ref e, rfl, ?_⟩
      have s2 : Same H (upd H1 e (ExK (.ref T.C_Unlike) none e)) := s1.trans (same_upd ne)
      refine ⟨.ref e, rfl, e, T.C_Unlike, _, _, true, rfl, upd_same, T.xc_Unlike, .own _, T.xo_Unlike_Unlike, _, rfl, ?_⟩
      refine iteF ?_
      refine ⟨.ref e, rfl, e, T.C_Unlike, _, _, true, rfl, upd_same, T.xc_Unlike, .ty "ValueError", T.xv_Unlike, _, rfl, ?_⟩
      refine iteF ?_
      refine ⟨.ref e, rfl, (show 5 ≤ sizeLine by decide), fun t nt => ?_⟩
      refine ⟨e, T.C_Unlike, t, _, _, false, rfl, (same_upd nt) _ _ upd_same, T.xc_Unlike, upd_same, .cons (.own _) (.cons (.own _) (.cons (.own _) (.cons (.own _) (.cons (.own _) .nil)))), none_of T.xo_Unlike_BadSheet T.xo_Unlike_BadText T.xo_Unlike_NoOne T.xo_Unlike_NoRound T.xo_Unlike_NoSuch, _, rfl, ?_⟩
      exact q _ (s2.trans (same_upd nt))
/-! two rows, all of it -/
theorem first_filter (p : Nat → Bool) : ∀ n, ((∀ i, i < n → p i = false) ∧ (List.range n).filter p = []) ∨ ∃ k r, (List.range n).filter p = k :: r ∧ k < n ∧ p k = true ∧ ∀ m, m < k → p m = false
  | 0 => .inl ⟨fun i hi => by omega, rfl⟩
  | n + 1 => by
    rcases first_filter p n with ⟨h1, h2⟩ | ⟨k, r, h1, h2, h3, h4⟩
    · cases e : p n with
      | true => exact .inr ⟨n, [], by rw [filt_pos e, h2]; rfl, by omega, e, h1⟩
      | false =>
        refine .inl ⟨fun i hi => ?_, by rw [filt_neg e, h2]⟩
        by_cases z : i = n
        · rw [z]
          exact e
        · exact h1 i (by omega)
    · cases e : p n with
      | true => exact .inr ⟨k, r ++ [n], by rw [filt_pos e, h1]; rfl, by omega, h3, h4⟩
      | false => exact .inr ⟨k, r, by rw [filt_neg e, h1], by omega, h3, h4⟩
/-- the least lateness, or no thing -/
def Least (xs : List Int) (v : V) : Prop := (0 ∉ xs → v = .non) ∧ ∀ j : Nat, xs[j]? = some 0 → (∀ m, m < j → xs[m]? ≠ some 0) → v = .int (j : Nat)
theorem least_at (xs : List Int) : ∃ v, (((List.range xs.length).filter fun b => decide (xs.getD b 0 = 0)).map (fun k => V.int (k : Nat)) ++ [V.non])[0]? = some v ∧ Least xs v := by
  rcases first_filter (fun b => decide (xs.getD b 0 = 0)) xs.length with ⟨h1, h2⟩ | ⟨k, r, h1, h2, h3, h4⟩
  · refine ⟨.non, by rw [h2]; rfl, fun _ => rfl, fun j hj _ => ?_⟩
    have jl : j < xs.length := by
      by_cases z : j < xs.length
      · exact z
      · rw [List.getElem?_eq_none (by omega)] at hj
        cases hj
    have := h1 j jl
    rw [getD_at jl] at hj
    rw [decide_eq_true (Option.some.inj hj)] at this
    cases this
  · have k0 : xs.getD k 0 = 0 := of_decide_eq_true h3
    refine ⟨.int (k : Nat), by rw [h1]; rfl, fun z => absurd (List.mem_of_getElem? (by rw [getD_at h2, k0])) z, fun j hj hm => ?_⟩
    have jl : j < xs.length := by
      by_cases z : j < xs.length
      · exact z
      · rw [List.getElem?_eq_none (by omega)] at hj
        cases hj
    by_cases e : j < k
    · have := h4 j e
      rw [getD_at jl] at hj
      rw [decide_eq_true (Option.some.inj hj)] at this
      cases this
    · by_cases e2 : k < j
      · exact absurd (by rw [getD_at h2, k0]) (hm k e2)
      · rw [show j = k by omega]
theorem Two.sam {H H' : Hp} {a b : Addr} {rs ss : List Int} (h : Two H a b rs ss) (s : Sam H H') : Two H' a b rs ss := ⟨s.tup h.1, s.tup h.2.1, h.2.2⟩
theorem Two.same {H H' : Hp} {a b : Addr} {rs ss : List Int} (h : Two H a b rs ss) (s : Same H H') : Two H' a b rs ss := h.sam (Sam.of s)
def sp__law_two_right {K : PySem.W.Frag} {mg : Str → Option Value} (T : Defs K mg) : Sp := fun vs H Q _ => ∃ (a b : Addr) (rs ss : List Int), vs = [.ref a, .ref b] ∧ Two H a b rs ss ∧ rs.length = ss.length ∧ 1 ≤ rs.length ∧ rs.length ≤ 4096 ∧ GxR.TabG H T.P_both ∧
  ∀ H', Sam H H' → Q (.bl true) H'
theorem ok__law_two_right (T : Defs K mg) (TT : Tabs T base) : FnOk P w K mg base CX0 5 T.f__law_two_right T.fd__law_two_right ["_law_one", "_law_other"] (sp__law_two_right T) := by
  have G__law_same : FnOk P w K mg base CX0 2 T.f__law_same T.fd__law_same ["_law_found", "_law_due"] (sp__law_same K) := ok__law_same T TT
  have G_leans : FnOk P w K mg base (L2.CX P w) 2 T.f_leans T.fd_leans ["one", "other"] (sp_leans T) := ok_leans T TT
  have G__law_met : FnOk P w K mg base CX0 1 T.f__law_met T.fd__law_met ["_law_one", "_law_other", "_law_by"] (sp__law_met K) := ok__law_met T TT
  have G_overlap : FnOk P w K mg base (L2.CX P w) 3 T.f_overlap T.fd_overlap ["one", "other"] (sp_overlap T) := ok_overlap T TT
  have G_lean : FnOk P w K mg base (L2.CX P w) 4 T.f_lean T.fd_lean ["one", "other"] (sp_lean T) := ok_lean T TT
  have G_parting : FnOk P w K mg base (L2.CX P w) 3 T.f_parting T.fd_parting ["one", "other"] (sp_parting T) := ok_parting T TT
  refine T.F__law_two_right.ok sc__law_two_right (fun vs H Q E h => ?_) (fun cdv A outer s H vs Q E hr h => ?_)
  · obtain ⟨a, b, rs, ss, rfl, two, hl, h1, hz, tg, q⟩ := h
    rfl
  · obtain ⟨a, b, rs, ss, rfl, two, hl, h1, hz, tg, q⟩ := h
    refine ⟨_, PSs.nox (pss_cons (ps_asg (pe_tup (pa_cons (pe_callB call_len_seq (by rfl) T.m_len bt_len (pa_cons (pv 0) pa_nil)) (pa_cons (pe_callB (cr_sumT rfl) (by rfl) T.m_sum bt_sum (pa_cons (pv 0) pa_nil)) (pa_cons (pe_callB (cr_sumT rfl) (by rfl) T.m_sum bt_sum (pa_cons (pv 1) pa_nil)) pa_nil)))) (pg_tup rfl (pgs_cons (pg_name (i := 2) sc__law_two_right.nd rfl (.inr rfl)) (pgs_cons (pg_name (i := 3) sc__law_two_right.nd rfl (.inr rfl)) (pgs_cons (pg_name (i := 4) sc__law_two_right.nd rfl (.inr rfl)) pgs_nil)))))
    (pss_cons (ps_set (i := 5) sc__law_two_right.nd rfl (.inr rfl) (pe_lc (own := [("_law_by", 9)]) (g := gName 9) (tt := tYes) rfl sc__law_two_right.nd (pi_range1 (by rfl) T.m_range (pa_cons (pv 2) pa_nil)) (blkOk_by (N := N__law_two_right) (sc := defScope s__law_two_right) (by decide +kernel)) (fun _ _ _ _ _ => (pg_name (i := 9) sc__law_two_right.nd rfl (.inl rfl))) (fun _ _ _ _ _ => pts_nil) (fun _ _ _ _ _ => (pe_op op_sub (pe_op op_mul (pv 2) (pe_call G__law_met (hr.mono (by decide)) (by rfl) T.g__law_met T.F__law_met.kp T.b__law_met .nil pass0 (pa_cons (pv 0) (pa_cons (pv 1) (pa_cons (pv 9) pa_nil))))) (pe_op op_mul (pv 3) (pv 4))))))
    (pss_cons (ps_if (pt_not (pt_val (pe_call G__law_same (hr.mono (by decide)) (by rfl) T.g__law_same T.F__law_same.kp T.b__law_same .nil pass0 (pa_cons (pe_lst (pa_cons (pe_call G_overlap (hr.mono (by decide)) (by rfl) T.g_overlap T.F_overlap.kp T.b_overlap .nil passL (pa_cons (pv 0) (pa_cons (pv 1) pa_nil))) (pa_cons (pe_call G_lean (hr.mono (by decide)) (by rfl) T.g_lean T.F_lean.kp T.b_lean .nil passL (pa_cons (pv 0) (pa_cons (pv 1) pa_nil))) pa_nil))) (pa_cons (pe_lst (pa_cons (pe_call G__law_met (hr.mono (by decide)) (by rfl) T.g__law_met T.F__law_met.kp T.b__law_met .nil pass0 (pa_cons (pv 0) (pa_cons (pv 1) (pa_cons pe_int pa_nil)))) (pa_cons (pe_ix ix_list (pv 5) pe_int (fun _ _ => rfl)) pa_nil))) pa_nil))))) (pss_one (ps_ret pe_bl)) pss_nil)
    (pss_cons (ps_set (i := 6) sc__law_two_right.nd rfl (.inl rfl) (pe_ix ix_list (pe_op op_cat (pe_lc (own := [("_law_by", 9)]) (g := gName 9) rfl sc__law_two_right.nd (pi_range1 (by rfl) T.m_range (pa_cons (pv 2) pa_nil)) (blkOk_by (N := N__law_two_right) (sc := defScope s__law_two_right) (by decide +kernel)) (fun _ _ _ _ _ => (pg_name (i := 9) sc__law_two_right.nd rfl (.inl rfl))) (fun _ _ _ _ _ => pts_one (pt_cmpR op_eq (pe_ix (ixlK (K := K) rfl) (pv 5) (pv 9) (fun _ _ => rfl)) pe_int (nomark _))) (fun _ _ _ _ _ => (pv 9))) (pe_lst (pa_cons pe_non pa_nil))) pe_int (fun _ _ => rfl)))
    (pss_cons (ps_for PassesOwn.never rfl (pi_range1 (by rfl) T.m_range (pa_cons pe_int pa_nil)) (pg_name (i := 7) sc__law_two_right.nd rfl (.inl rfl)) (pss_cons (ps_set (i := 8) sc__law_two_right.nd rfl (.inl rfl) (pe_call G_leans (hr.mono (by decide)) (by rfl) T.g_leans T.F_leans.kp T.b_leans .nil passL (pa_cons (pv 0) (pa_cons (pv 1) pa_nil))))
    (pss_cons (ps_if (PW.pt (pw_or (pt_not (pt_val (pe_call G__law_same (hr.mono (by decide)) (by rfl) T.g__law_same T.F__law_same.kp T.b__law_same .nil pass0 (pa_cons (pv 8) (pa_cons (pv 5) pa_nil))))) (pw_or (pt_cmpR op_ne (pe_callB (cr_sum rfl) (by rfl) T.m_sum bt_sum (pa_cons (pv 8) pa_nil)) pe_int (nomark _)) (pw_or1 (pt_not (pt_val (pe_call G__law_same (hr.mono (by decide)) (by rfl) T.g__law_same T.F__law_same.kp T.b__law_same .nil pass0 (pa_cons (pe_call G_parting (hr.mono (by decide)) (by rfl) T.g_parting T.F_parting.kp T.b_parting .nil passL (pa_cons (pv 0) (pa_cons (pv 1) pa_nil))) (pa_cons (pv 6) pa_nil))))))))) (pss_one (ps_ret pe_bl)) pss_nil)
    (pss_one (ps_expr (pe_bm PySem.F.plainAttrs_list PySem.F.slot_list_append PySem.F.type_list_append mt_append (pv 8) (pa_cons pe_int pa_nil)))))))
    (pss_one (ps_ret pe_bl))))))), ?_⟩
    have hsl : sizeLine = 16777216 := by decide
    have en : (rs.map V.int).length = rs.length := List.length_map ..
    have sr := bits_sum rs two.2.2.1
    refine ⟨.ref a, rfl, a, _, rfl, .inr (SqT.mk two.1), .ref a, rfl, a, rs, rfl, SqT.mk two.1, .ref b, rfl, b, ss, rfl, SqT.mk two.2.1, (show 3 ≤ sizeLine by decide), fun t nt => ?_⟩
    refine ⟨t, _, rfl, SqT.mk upd_same, rfl, _, _, rfl, _, _, rfl, _, _, rfl, rfl, ?_⟩
    have s0 : Same H (upd H t (.tup [.int ((rs.map V.int).length : Nat), .int rs.sum, .int ss.sum])) := same_upd nt
    replace two := two.same s0
    replace tg := (Sam.of s0).tabG tg
    replace q : ∀ H', Sam (upd H t (.tup [.int ((rs.map V.int).length : Nat), .int rs.sum, .int ss.sum])) H' → Q (.bl true) H' := fun H' s => q H' ((Sam.of s0).trans s)
    clear s0
    generalize upd H t (.tup [.int ((rs.map V.int).length : Nat), .int rs.sum, .int ss.sum]) = H0 at *
    rw [en]
    -- due
    refine ⟨.int (rs.length : Nat), rfl, (rs.length : Nat), rfl, by omega, by omega, fun D nD => ?_⟩
    refine lc_range (fun i G => Same H0 G ∧ G D = some (.lst (((List.range i).map fun b => rs.length * mt rs ss b - rs.sum * ss.sum).map V.int))) ⟨same_upd nD, upd_same⟩ (fun i G hi h => ?_) (fun G h => ?_)
    · obtain ⟨sG, hD⟩ := h
      rw [Int.toNat_natCast] at hi
      refine ⟨rfl, yes_ite ?_⟩
      refine ⟨.int (rs.length : Nat), rfl, .ref a, rfl, .ref b, rfl, _, rfl, a, b, rs, ss, _, i, rfl, Int.zero_add _, two.same sG, hl, hi, by omega, fun G2 s2 => ?_⟩
      refine ⟨_, _, rfl, rfl, .inl ⟨by omega, by omega⟩, .int rs.sum, rfl, .int ss.sum, rfl, _, _, rfl, rfl, .inl ⟨by omega, by omega⟩, _, _, rfl, rfl, _, s2 _ _ hD, by rw [List.length_map, List.length_map, List.length_range]; omega, same_newer (sG.trans s2) nD, ?_⟩
      rw [upd_same, List.range_succ, List.map_append, List.map_append]
      rfl
    obtain ⟨sG, hD⟩ := h
    rw [Int.toNat_natCast] at hD
    have hD : G D = some (.lst ((LS rs ss).map V.int)) := hD
    have tgG := (Sam.of sG).tabG tg
    -- overlap, lean
    refine ⟨.ref a, rfl, .ref b, rfl, a, b, rs, ss, rfl, two.same sG, .inl ⟨hl, tgG, fun G1 s1 => ?_⟩⟩
    refine ⟨.ref a, rfl, .ref b, rfl, a, b, rs, ss, rfl, (two.same sG).sam s1, by omega, .inl ⟨hl, s1.tabG tgG, fun G2 s2 => ?_⟩⟩
    refine ⟨(show 2 ≤ sizeLine by decide), fun l1 n1 => ?_⟩
    have t2 := ((two.same sG).sam s1).sam s2
    refine ⟨.ref a, rfl, .ref b, rfl, a, b, rs, ss, 0, 0, rfl, rfl, t2.same (same_upd n1), hl, by omega, by omega, fun G3 s3 => ?_⟩
    have hD3 := s3 _ _ ((same_upd n1 (o := .lst [.int (dot rs ss), .int (rs.length * dot rs ss - rs.sum * ss.sum)])) _ _ ((s1.trans s2).lst hD))
    refine ⟨_, rfl, D, _, _, .int (rs.length * mt rs ss 0 - rs.sum * ss.sum), rfl, rfl, SqL.mk hD3, atI_nat (j := 0) (by rw [List.getElem?_map, LS_at (by omega)]; rfl), ?_⟩
    refine ⟨(show 2 ≤ sizeLine by decide), fun l2 n2 => ?_⟩
    have S3 : Sam H0 G3 := (Sam.of sG).trans ((s1.trans s2).trans (Sam.of ((same_upd n1).trans s3)))
    have hl1 := (same_upd n2 (o := .lst [.int (mt rs ss 0), .int (rs.length * mt rs ss 0 - rs.sum * ss.sum)])) _ _ (s3 _ _ (upd_same (H := G2) (a := l1) (o := .lst [.int (dot rs ss), .int (rs.length * dot rs ss - rs.sum * ss.sum)])))
    rw [dot_mt hl] at hl1
    refine ⟨_, _, rfl, .inr (.inr ⟨l1, l2, [mt rs ss 0, rs.length * mt rs ss 0 - rs.sum * ss.sum], rfl, rfl, hl1, upd_same, (show 2 ≤ 100000 by decide)⟩), fun G4 s4 => ⟨_, rfl, ?_⟩⟩
    refine iteF ?_
    have S4 : Sam H0 G4 := S3.trans (Sam.of ((same_upd n2).trans s4))
    have hD4 := s4 _ _ ((same_upd n2) _ _ hD3)
    clear S3 hl1 hD3 s1 s2 s3 s4 n1 n2 t2 tgG hD
    -- the least
    refine ⟨.int (rs.length : Nat), rfl, (rs.length : Nat), rfl, by omega, by omega, fun D2 nD2 => ?_⟩
    refine lc_range (fun i G => Same G4 G ∧ G D2 = some (.lst (((List.range i).filter fun b => decide ((LS rs ss).getD b 0 = 0)).map fun k => V.int (k : Nat)))) ⟨same_upd nD2, upd_same⟩ (fun i G5 hi h => ?_) (fun G5 h => ?_)
    · obtain ⟨s5, hD2⟩ := h
      rw [Int.toNat_natCast] at hi
      refine ⟨rfl, ?_⟩
      refine ⟨.ref D, rfl, _, rfl, D, _, _, .int ((LS rs ss).getD i 0), rfl, rfl, SqL.mk (s5 _ _ hD4), ?_, rfl, _, rfl, ite2 (fun z => ?_) (fun z => ?_)⟩
      · rw [Int.zero_add]
        exact atI_nat (by rw [List.getElem?_map, getD_at (by rw [LS_len]; exact hi)]; rfl)
      · have z1 : (LS rs ss).getD i 0 = 0 := V.int.inj (of_decide_eq_true z)
        refine ⟨_, rfl, _, hD2, ?_, same_newer s5 nD2, ?_⟩
        · have := filt_len (fun b => decide ((LS rs ss).getD b 0 = 0)) i
          rw [List.length_map]
          omega
        · rw [upd_same, filt_pos (decide_eq_true z1), List.map_append, Int.zero_add]
          rfl
      · have z1 : ¬ (LS rs ss).getD i 0 = 0 := fun y => z (by rw [y]; exact decide_eq_true rfl)
        exact ⟨s5, by rw [filt_neg (decide_eq_false z1)]; exact hD2⟩
    obtain ⟨s5, hD2⟩ := h
    rw [Int.toNat_natCast, ← LS_len rs ss] at hD2
    refine ⟨(show 1 ≤ sizeLine by decide), fun l3 n3 => ?_⟩
    obtain ⟨lv, elv, hlv⟩ := least_at (LS rs ss)
    refine ⟨D2, l3, _, _, rfl, rfl, (same_upd n3) _ _ hD2, upd_same, ?_, fun g ng => ?_⟩
    · have := filt_len (fun b => decide ((LS rs ss).getD b 0 = 0)) (LS rs ss).length
      rw [LS_len] at this
      rw [List.length_map, LS_len]
      show _ + 1 ≤ sizeLine
      omega
    refine ⟨g, _, _, lv, rfl, rfl, SqL.mk upd_same, atI_nat (j := 0) elv, ?_⟩
    have s7 : Same G4 (upd (upd G5 l3 (.lst [.non])) g (.lst (((List.range (LS rs ss).length).filter fun b => decide ((LS rs ss).getD b 0 = 0)).map (fun k => V.int (k : Nat)) ++ [V.non]))) := (s5.trans (same_upd n3)).trans (same_upd ng)
    have S7 := S4.trans (Sam.of s7)
    have hD7 := s7 _ _ hD4
    generalize upd (upd G5 l3 (.lst [.non])) g (.lst (((List.range (LS rs ss).length).filter fun b => decide ((LS rs ss).getD b 0 = 0)).map (fun k => V.int (k : Nat)) ++ [V.non])) = G7 at *
    clear elv hD2 s5 n3 ng nD2
    -- twice
    refine ⟨2, rfl, by decide, by decide, for_range (n := 2) (fun j σ G => ∃ y7 y8 y9, σ = [some (.ref a), some (.ref b), some (.int (rs.length : Nat)), some (.int rs.sum), some (.int ss.sum), some (.ref D), some lv, y7, y8, y9] ∧ Sam H0 G ∧ G D = some (.lst ((LS rs ss).map V.int))) ⟨_, _, _, rfl, S7, hD7⟩ ?_ ?_⟩
    rotate_left
    · rintro σ G ⟨y7, y8, y9, rfl, SG, hDG⟩
      exact q G SG
    rintro j σ G hj ⟨y7, y8, y9, rfl, SG, hDG⟩
    have tG := two.sam SG
    refine ⟨.ref a, rfl, .ref b, rfl, a, b, rs, ss, rfl, tG, by omega, .inl ⟨hl, fun F1 f f1 nf hf => ?_⟩⟩
    refine ⟨.ref f, rfl, .ref D, rfl, _, _, rfl, .inr (.inr ⟨f, D, LS rs ss, rfl, rfl, hf, f1 _ _ hDG, by rw [LS_len]; omega⟩), fun F2 f2 => ⟨_, rfl, ?_⟩⟩
    refine iteF ?_
    refine ⟨.ref f, rfl, f, _, rfl, SqL.mk (f2 _ _ hf), rfl, _, rfl, ?_⟩
    rw [LS_sum hl]
    refine iteF ?_
    refine ⟨.ref a, rfl, .ref b, rfl, a, b, rs, ss, rfl, (tG.same f1).same f2, by omega, .inl ⟨hl, fun F3 f3 => ⟨fun h0 => ?_, fun jj h1' h2' => ?_⟩⟩⟩
    · refine ⟨lv, rfl, _, _, rfl, .inr (.inl ⟨rfl, hlv.1 h0⟩), fun F4 f4 => ⟨_, rfl, ?_⟩⟩
      refine iteF ?_
      have hf4 := f4 _ _ (f3 _ _ (f2 _ _ hf))
      refine ⟨.ref f, rfl, .inl ⟨rfl, _, SqL.mk hf4⟩, f, _, _, rfl, rfl, hf4, by rw [List.length_map, LS_len]; omega, ?_⟩
      have sA : Sam G F4 := (Sam.of f1).trans (Sam.of (f2.trans (f3.trans f4)))
      exact ⟨_, _, _, rfl, sam_newer (SG.trans sA) (SG.free nf), by rw [upd_ne (ne_of_none hDG nf)]; exact sA.lst hDG⟩
    · refine ⟨lv, rfl, _, _, rfl, .inl ⟨_, rfl, hlv.2 jj h1' h2'⟩, fun F4 f4 => ⟨_, rfl, ?_⟩⟩
      refine iteF ?_
      have hf4 := f4 _ _ (f3 _ _ (f2 _ _ hf))
      refine ⟨.ref f, rfl, .inl ⟨rfl, _, SqL.mk hf4⟩, f, _, _, rfl, rfl, hf4, by rw [List.length_map, LS_len]; omega, ?_⟩
      have sA : Sam G F4 := (Sam.of f1).trans (Sam.of (f2.trans (f3.trans f4)))
      exact ⟨_, _, _, rfl, sam_newer (SG.trans sA) (SG.free nf), by rw [upd_ne (ne_of_none hDG nf)]; exact sA.lst hDG⟩
/-! two rows of 4,096 bits -/
def sp__law_long_right {K : PySem.W.Frag} {mg : Str → Option Value} (T : Defs K mg) : Sp := fun vs H Q _ => ∃ (p : Addr) (n : Nat), vs = [.ref p] ∧ Bx H p n ∧ n < 100000000 ∧ GxR.TabG H T.P_both ∧
  ∀ H', Bus p H H' → Bx H' p (n + 10000) → Q (.bl true) H'
theorem ok__law_long_right (T : Defs K mg) (TT : Tabs T base) : FnOk P w K mg base CX0 5 T.f__law_long_right T.fd__law_long_right ["_law_box_here"] (sp__law_long_right T) := by
  have G__law_same : FnOk P w K mg base CX0 2 T.f__law_same T.fd__law_same ["_law_found", "_law_due"] (sp__law_same K) := ok__law_same T TT
  have G__law_row : FnOk P w K mg base CX0 2 T.f__law_row T.fd__law_row ["_law_box_here", "_law_long_here"] (sp__law_row K) := ok__law_row T TT
  have G_overlap : FnOk P w K mg base (L2.CX P w) 3 T.f_overlap T.fd_overlap ["one", "other"] (sp_overlap T) := ok_overlap T TT
  have G_lean : FnOk P w K mg base (L2.CX P w) 4 T.f_lean T.fd_lean ["one", "other"] (sp_lean T) := ok_lean T TT
  refine T.F__law_long_right.ok sc__law_long_right (fun vs H Q E h => ?_) (fun cdv A outer s H vs Q E hr h => ?_)
  · obtain ⟨p, n, rfl, hB, hn, tg, q⟩ := h
    rfl
  · obtain ⟨p, n, rfl, hB, hn, tg, q⟩ := h
    refine ⟨_, PSs.nox (pss_cons (ps_par (i := 1) (j := 2) (by rfl) sc__law_long_right.nd rfl rfl (by decide) rfl rfl (pa_cons (pe_call G__law_row (hr.mono (by decide)) (by rfl) T.g__law_row T.F__law_row.kp T.b__law_row .nil pass0 (pa_cons (pv 0) (pa_cons pe_int pa_nil))) (pa_cons (pe_call G__law_row (hr.mono (by decide)) (by rfl) T.g__law_row T.F__law_row.kp T.b__law_row .nil pass0 (pa_cons (pv 0) (pa_cons pe_int pa_nil))) pa_nil)) (by rfl))
    (pss_cons (ps_set (i := 3) sc__law_long_right.nd rfl (.inl rfl) (pe_callB call_len_seq (by rfl) T.m_len bt_len (pa_cons (pe_lc (own := [("_law_bit", 5), ("_law_more", 6)]) (g := gTup K 2 (gCons (gName 5) (gCons (gName 6) gNil))) rfl sc__law_long_right.nd (RZ.pi_zipA (by rfl) T.m_zip (pa_cons (pv 1) (pa_cons (pv 2) pa_nil))) (blkOk_by (N := N__law_long_right) (sc := defScope s__law_long_right) (by decide +kernel)) (fun _ _ _ _ _ => (pg_tupK (K := K) rfl rfl (pgs_cons (pg_name (i := 5) sc__law_long_right.nd rfl (.inl rfl)) (pgs_cons (pg_name (i := 6) sc__law_long_right.nd rfl (.inl rfl)) pgs_nil)))) (fun _ _ _ _ _ => pts_one (pt_cmpR op_eq (pe_op op_add (pv 5) (pv 6)) pe_int (nomark _))) (fun _ _ _ _ _ => (pv 5))) pa_nil)))
    (pss_cons (ps_set (i := 4) sc__law_long_right.nd rfl (.inl rfl) (pe_lst (pa_cons (pv 3) (pa_cons (pe_op op_sub (pe_op op_mul pe_int (pv 3)) (pe_op op_mul (pe_callB (cr_sumT rfl) (by rfl) T.m_sum bt_sum (pa_cons (pv 1) pa_nil)) (pe_callB (cr_sumT rfl) (by rfl) T.m_sum bt_sum (pa_cons (pv 2) pa_nil)))) pa_nil))))
    (pss_one (ps_ret (pe_call G__law_same (hr.mono (by decide)) (by rfl) T.g__law_same T.F__law_same.kp T.b__law_same .nil pass0 (pa_cons (pe_lst (pa_cons (pe_call G_overlap (hr.mono (by decide)) (by rfl) T.g_overlap T.F_overlap.kp T.b_overlap .nil passL (pa_cons (pv 1) (pa_cons (pv 2) pa_nil))) (pa_cons (pe_call G_lean (hr.mono (by decide)) (by rfl) T.g_lean T.F_lean.kp T.b_lean .nil passL (pa_cons (pv 1) (pa_cons (pv 2) pa_nil))) pa_nil))) (pa_cons (pv 4) pa_nil)))))))), ?_⟩
    have hsl : sizeLine = 16777216 := by decide
    refine ⟨.ref p, rfl, p, 4096, n, rfl, hB, by decide, by decide, by omega, fun H1 a rs b1 B1 ha1 lr br => ?_⟩
    refine ⟨.ref p, rfl, p, 4096, n + 5000, rfl, B1, by decide, by decide, by omega, fun H2 b ss b2 B2 hb2 ls bs => ?_⟩
    have ha2 := b2 _ _ (B1.ne_tup ha1) ha1
    refine ⟨_, _, rfl, ?_⟩
    have hl : rs.length = ss.length := by omega
    refine ⟨.ref a, rfl, .ref b, rfl, a, b, _, _, rfl, .inr ⟨SqT.mk ha2, SqT.mk hb2, fun D nD => ?_⟩⟩
    refine lc_it (walk_zipT (n := rs.length) (xs := rs.map V.int) (ys := ss.map V.int) (by rw [List.length_map, List.length_map, ← hl, Nat.min_self])) (fun i G => Same H2 G ∧ ∃ cs : List Int, cs.length ≤ i ∧ (cs.length : Int) = Sm (fun i => rs.getD i 0 * ss.getD i 0) i ∧ G D = some (.lst (cs.map V.int))) ⟨same_upd nD, [], Nat.le_refl 0, rfl, upd_same⟩ (fun i G _ h => ⟨SqT.mk (h.1 _ _ ha2), SqT.mk (h.1 _ _ hb2)⟩) ?_ ?_
    · rintro i x G G3 hi ⟨s2, cs, hc, hS, hD⟩ ⟨t, x1, x2, rfl, nt, rfl, e1, e2⟩
      have e1 : (rs.map V.int)[i]? = some x1 := e1
      have e2 : (ss.map V.int)[i]? = some x2 := e2
      rw [List.getElem?_map, getD_at hi] at e1
      rw [List.getElem?_map, getD_at (show i < ss.length by omega)] at e2
      cases e1
      cases e2
      refine ⟨t, _, rfl, SqT.mk upd_same, rfl, _, _, rfl, _, _, rfl, rfl, rfl, ?_⟩
      have q1 := bits_at br i
      have q2 := bits_at bs i
      refine ⟨_, rfl, _, rfl, _, _, rfl, rfl, rfl, _, rfl, ite2 (fun z => ?_) (fun z => ?_)⟩
      · have z1 : rs.getD i 0 + ss.getD i 0 = 2 := V.int.inj (of_decide_eq_true z)
        have z2 : rs.getD i 0 = 1 := by omega
        have z3 : ss.getD i 0 = 1 := by omega
        refine ⟨_, rfl, _, (same_upd nt) _ _ hD, by rw [List.length_map]; omega, same_newer (s2.trans (same_upd nt)) nD, cs ++ [rs.getD i 0], by rw [List.length_append]; show _ + 1 ≤ _; omega, ?_, by rw [upd_same, List.map_append]; rfl⟩
        rw [List.length_append, Int.natCast_add, hS]
        show _ + (1 : Int) = Sm _ i + rs.getD i 0 * ss.getD i 0
        rw [z2, z3]
        rfl
      · have z1 : ¬ rs.getD i 0 + ss.getD i 0 = 2 := fun y => z (decide_eq_true (congrArg V.int y))
        refine ⟨s2.trans (same_upd nt), cs, by omega, ?_, (same_upd nt) _ _ hD⟩
        rw [hS]
        show Sm _ i = Sm _ i + rs.getD i 0 * ss.getD i 0
        have : rs.getD i 0 * ss.getD i 0 = 0 := by
          rcases q1 with e | e
          · rw [e, Int.zero_mul]
          · rcases q2 with e' | e'
            · rw [e', Int.mul_zero]
            · omega
        omega
    rintro G ⟨s2, cs, hc, hS, hD⟩
    rw [← dot_Sm rs ss hl] at hS
    refine ⟨D, _, rfl, .inl (SqL.mk hD), ?_⟩
    rw [List.length_map, hS]
    have haG := s2 _ _ ha2
    have hbG := s2 _ _ hb2
    have b0G : Bus p H G := Bus.of ((b1.trans b2).trans (same_but s2))
    have BG := B2.same s2
    have sr := bits_sum rs br
    refine ⟨_, rfl, _, rfl, _, _, rfl, rfl, .inl ⟨by decide, by decide⟩, .ref a, rfl, a, rs, rfl, SqT.mk haG, .ref b, rfl, b, ss, rfl, SqT.mk hbG, _, _, rfl, rfl, .inl ⟨by omega, by omega⟩, _, _, rfl, rfl, (show 2 ≤ sizeLine by decide), fun d nd => ?_⟩
    have two : Two (upd G d (.lst [.int (dot rs ss), .int (4096 * dot rs ss - rs.sum * ss.sum)])) a b rs ss := ⟨(same_upd nd) _ _ haG, (same_upd nd) _ _ hbG, br, bs⟩
    have b0 := b0G.new (o := .lst [.int (dot rs ss), .int (4096 * dot rs ss - rs.sum * ss.sum)]) nd
    have tgd := b0.tabG hB tg
    have hd : (upd G d (.lst [.int (dot rs ss), .int (4096 * dot rs ss - rs.sum * ss.sum)])) d = some (.lst [.int (dot rs ss), .int (4096 * dot rs ss - rs.sum * ss.sum)]) := upd_same
    have Bd := BG.new (o := .lst [.int (dot rs ss), .int (4096 * dot rs ss - rs.sum * ss.sum)]) nd
    generalize upd G d (.lst [.int (dot rs ss), .int (4096 * dot rs ss - rs.sum * ss.sum)]) = G0 at *
    refine ⟨.ref a, rfl, .ref b, rfl, a, b, rs, ss, rfl, two, .inl ⟨hl, tgd, fun F1 f1 => ?_⟩⟩
    refine ⟨.ref a, rfl, .ref b, rfl, a, b, rs, ss, rfl, two.sam f1, by omega, .inl ⟨hl, f1.tabG tgd, fun F2 f2 => ?_⟩⟩
    refine ⟨(show 2 ≤ sizeLine by decide), fun l nl => ?_⟩
    have f12 := f1.trans f2
    refine ⟨_, rfl, _, _, rfl, .inr (.inr ⟨l, d, [dot rs ss, 4096 * dot rs ss - rs.sum * ss.sum], rfl, rfl, ?_, (same_upd nl) _ _ (f12.lst hd), (show 2 ≤ 100000 by decide)⟩), fun F3 f3 => ?_⟩
    · rw [upd_same, lr]
      rfl
    have fin := (f12.trans (Sam.of (same_upd nl))).trans (Sam.of f3)
    exact q F3 (b0.trans (Bus.sam fin)) (Bd.sam fin)
/-! spots of ones -/
theorem strict_eq : ∀ (xs ys : List Nat), xs.Pairwise (· < ·) → ys.Pairwise (· < ·) → (∀ k, k ∈ xs ↔ k ∈ ys) → xs = ys
  | [], [], _, _, _ => rfl
  | [], y :: t, _, _, h => by
    have := (h y).mpr List.mem_cons_self
    cases this
  | x :: r, [], _, _, h => by
    have := (h x).mp List.mem_cons_self
    cases this
  | x :: r, y :: t, hx, hy, h => by
    obtain ⟨x1, x2⟩ := List.pairwise_cons.mp hx
    obtain ⟨y1, y2⟩ := List.pairwise_cons.mp hy
    have e : x = y := by
      rcases List.mem_cons.mp ((h x).mp List.mem_cons_self) with e | m1
      · exact e
      · rcases List.mem_cons.mp ((h y).mpr List.mem_cons_self) with e | m2
        · exact e.symm
        · have := y1 x m1
          have := x1 y m2
          omega
    subst e
    rw [strict_eq r t x2 y2 fun k => ⟨fun hk => ?_, fun hk => ?_⟩]
    · rcases List.mem_cons.mp ((h k).mp (List.mem_cons_of_mem _ hk)) with e | m
      · have := x1 k hk
        omega
      · exact m
    · rcases List.mem_cons.mp ((h k).mpr (List.mem_cons_of_mem _ hk)) with e | m
      · have := y1 k hk
        omega
      · exact m
def spotsRow (L : Nat) (ns : List Int) : List Int := (List.range L).map fun (i : Nat) => if decide ((i : Int) ∈ ns) = true then (1 : Int) else 0
theorem spots_len (L : Nat) (ns : List Int) : (spotsRow L ns).length = L := by
  unfold spotsRow
  rw [List.length_map, List.length_range]
theorem spots_bits (L : Nat) (ns : List Int) : Bits (spotsRow L ns) := fun x hx => by
  obtain ⟨i, _, rfl⟩ := List.mem_map.mp hx
  split
  · exact .inr rfl
  · exact .inl rfl
theorem spots_at {L i : Nat} {ns : List Int} (h : i < L) : (spotsRow L ns).getD i 0 = if decide ((i : Int) ∈ ns) = true then 1 else 0 := by
  unfold spotsRow
  rw [List.getD_eq_getElem?_getD, List.getElem?_map, List.getElem?_range h]
  rfl
theorem spots_places {L : Nat} {ns : List Int} (hp : ns.Pairwise (· < ·)) (hb : ∀ k, k ∈ ns → 0 ≤ k ∧ k < L) : places (spotsRow L ns) L = ns.map Int.toNat := by
  refine strict_eq _ _ (List.Pairwise.filter _ List.pairwise_lt_range) (List.pairwise_map.mpr (List.Pairwise.imp_of_mem (fun {a b} ma mb hab => ?_) hp)) fun k => ⟨fun hk => ?_, fun hk => ?_⟩
  · have := hb a ma
    have := hb b mb
    omega
  · obtain ⟨k1, k2⟩ := List.mem_filter.mp hk
    have kl := List.mem_range.mp k1
    have e : (spotsRow L ns).getD k 0 = 1 := of_decide_eq_true k2
    rw [spots_at kl] at e
    by_cases z : (k : Int) ∈ ns
    · exact List.mem_map.mpr ⟨_, z, Int.toNat_natCast k⟩
    · rw [decide_eq_false z, if_neg Bool.false_ne_true] at e
      cases e
  · obtain ⟨i, hi, rfl⟩ := List.mem_map.mp hk
    obtain ⟨b1, b2⟩ := hb i hi
    have kl : i.toNat < L := by omega
    refine List.mem_filter.mpr ⟨List.mem_range.mpr kl, decide_eq_true ?_⟩
    rw [spots_at kl, show ((i.toNat : Nat) : Int) = i by omega, decide_eq_true hi, if_pos rfl]
theorem sum_places {rs : List Int} (h : Bits rs) : rs.sum = ((places rs rs.length).length : Int) := by
  unfold places
  rw [Sm_count, Sm_list]
  refine Sm_congr fun i _ => ?_
  rcases bits_at h i with e | e
  · rw [e]
    rfl
  · rw [e]
    rfl
theorem spots_due {L b : Nat} {ns ss : List Int} (hp : ns.Pairwise (· < ·)) (hb : ∀ k, k ∈ ns → 0 ≤ k ∧ k < L) : (L : Int) * (ns.map fun k => ss.getD ((k.toNat + L - b) % L) 0).sum - (ns.length : Int) * ss.sum = (L : Int) * mt (spotsRow L ns) ss b - (spotsRow L ns).sum * ss.sum := by
  have e1 := places_mt (ss := ss) (spots_bits L ns) b
  rw [spots_len, spots_places hp hb, List.map_map] at e1
  have e2 := sum_places (spots_bits L ns)
  rw [spots_len, spots_places hp hb, List.length_map] at e2
  rw [e2, ← e1]
  rfl
/-! two rows that part late -/
def pA (h : Nat) : List Int := [1, 1] ++ List.replicate (2 * h - 2) 0
def pB (h s : Nat) : List Int := (List.replicate s 0 ++ List.replicate h 1) ++ List.replicate (h - s) 0
theorem pA_len {h : Nat} (hh : 1 ≤ h) : (pA h).length = 2 * h := by
  unfold pA
  rw [List.length_append, List.length_replicate]
  show 2 + _ = _
  omega
theorem pB_len {h s : Nat} (hs : s ≤ h) : (pB h s).length = 2 * h := by
  unfold pB
  rw [List.length_append, List.length_append, List.length_replicate, List.length_replicate, List.length_replicate]
  omega
theorem pA_sum (h : Nat) : (pA h).sum = 2 := by
  unfold pA
  rw [List.sum_append, sum_rep]
  show (1 + (1 + 0) : Int) + _ = 2
  omega
theorem pB_sum (h s : Nat) : (pB h s).sum = h := by
  unfold pB
  rw [List.sum_append, List.sum_append, sum_rep, sum_rep, sum_rep]
  omega
theorem rep_bits {k : Nat} {x : Int} (hx : x = 0 ∨ x = 1) : Bits (List.replicate k x) := fun y hy => by
  rw [List.eq_of_mem_replicate hy]
  exact hx
theorem app_bits {xs ys : List Int} (h1 : Bits xs) (h2 : Bits ys) : Bits (xs ++ ys) := fun y hy => by
  rcases List.mem_append.mp hy with h | h
  · exact h1 y h
  · exact h2 y h
theorem pA_bits (h : Nat) : Bits (pA h) := app_bits (fun y hy => by
  rcases List.mem_cons.mp hy with e | hy
  · exact .inr e
  · exact .inr (List.mem_singleton.mp hy)) (rep_bits (.inl rfl))
theorem pB_bits (h s : Nat) : Bits (pB h s) := app_bits (app_bits (rep_bits (.inl rfl)) (rep_bits (.inr rfl))) (rep_bits (.inl rfl))
theorem pB_zero {h s i : Nat} (hi : i < s ∨ s + h ≤ i) : (pB h s).getD i 0 = 0 := by
  unfold pB
  rw [List.getD_eq_getElem?_getD, List.getElem?_append, List.getElem?_append, List.length_append, List.length_replicate, List.length_replicate, List.getElem?_replicate, List.getElem?_replicate, List.getElem?_replicate]
  rcases hi with hi | hi
  · rw [if_pos (by omega), if_pos hi, if_pos hi]
    rfl
  · rw [if_neg (by omega)]
    split <;> rfl
theorem pB_one {h s i : Nat} (h1 : s ≤ i) (h2 : i < s + h) : (pB h s).getD i 0 = 1 := by
  unfold pB
  rw [List.getD_eq_getElem?_getD, List.getElem?_append, List.getElem?_append, List.length_append, List.length_replicate, List.length_replicate, List.getElem?_replicate, List.getElem?_replicate, List.getElem?_replicate]
  rw [if_pos h2, if_neg (by omega), if_pos (by omega)]
  rfl
theorem pA_tail {h i : Nat} : (pA h).getD (i + 1 + 1) 0 = 0 := by
  unfold pA
  rw [List.getD_eq_getElem?_getD]
  show ((List.replicate (2 * h - 2) (0 : Int))[i]?).getD 0 = 0
  rw [List.getElem?_replicate]
  split <;> rfl
theorem mt_A {h b : Nat} (hh : 1 ≤ h) (ss : List Int) : mt (pA h) ss b = ss.getD ((0 + 2 * h - b) % (2 * h)) 0 + ss.getD ((1 + 2 * h - b) % (2 * h)) 0 := by
  unfold mt
  rw [pA_len hh]
  have e : Sm (fun i => (pA h).getD i 0 * ss.getD ((i + 2 * h - b) % (2 * h)) 0) (2 * h) = Sm (fun i => (pA h).getD i 0 * ss.getD ((i + 2 * h - b) % (2 * h)) 0) ((2 * h - 2) + 1 + 1) := by
    rw [show 2 * h - 2 + 1 + 1 = 2 * h by omega]
  rw [e, Sm_head, Sm_head, Sm_congr (g := fun _ => 0) fun i _ => by rw [pA_tail, Int.zero_mul], Sm_const]
  show (1 : Int) * _ + ((1 : Int) * _ + _) = _
  rw [Int.one_mul, Int.one_mul, Int.mul_zero, Int.add_zero]
theorem part_mt {h s b : Nat} (hs : 2 ≤ s) (hs2 : s < h) (hb : b ≤ h + 1 - s) : mt (pA h) (pB h s) b = if b = h + 1 - s then 1 else 0 := by
  rw [mt_A (by omega)]
  by_cases z : b = 0
  · rw [if_neg (by omega), z, show 0 + 2 * h - 0 = 0 + 2 * h by omega, Nat.add_mod_right, Nat.mod_eq_of_lt (by omega), pB_zero (.inl (by omega)), show 1 + 2 * h - 0 = 1 + 2 * h by omega, Nat.add_mod_right, Nat.mod_eq_of_lt (by omega), pB_zero (.inl (by omega))]
    rfl
  rw [Nat.mod_eq_of_lt (show 0 + 2 * h - b < 2 * h by omega)]
  by_cases z1 : b = 1
  · rw [if_neg (by omega), z1, show 1 + 2 * h - 1 = 2 * h by omega, Nat.mod_self, pB_zero (i := 0) (.inl (by omega)), pB_zero (.inr (by omega))]
    rfl
  rw [Nat.mod_eq_of_lt (show 1 + 2 * h - b < 2 * h by omega), pB_zero (i := 1 + 2 * h - b) (.inr (by omega))]
  by_cases z2 : b = h + 1 - s
  · rw [if_pos z2, pB_one (by omega) (by omega)]
    rfl
  · rw [if_neg z2, pB_zero (.inr (by omega))]
    rfl
theorem part_LS {h s b : Nat} (hs : 2 ≤ s) (hs2 : s < h) (hb : b ≤ h + 1 - s) : (LS (pA h) (pB h s))[b]? = some (if b = h + 1 - s then (0 : Int) else -(2 * (h : Int))) := by
  have hl := pA_len (h := h) (by omega)
  rw [LS_at (by rw [hl]; omega), hl, part_mt hs hs2 hb, pA_sum, pB_sum]
  by_cases z : b = h + 1 - s
  · rw [if_pos z, if_pos z]
    congr 1
    omega
  · rw [if_neg z, if_neg z]
    congr 1
    omega
theorem part_in {h s : Nat} (hs : 2 ≤ s) (hs2 : s < h) : 0 ∈ LS (pA h) (pB h s) := by
  have := part_LS hs hs2 (Nat.le_refl _)
  rw [if_pos rfl] at this
  exact List.mem_of_getElem? this
theorem part_first {h s j : Nat} (hs : 2 ≤ s) (hs2 : s < h) (h1 : (LS (pA h) (pB h s))[j]? = some 0) (h2 : ∀ m, m < j → (LS (pA h) (pB h s))[m]? ≠ some 0) : j = h + 1 - s := by
  by_cases z : j ≤ h + 1 - s
  · rw [part_LS hs hs2 z] at h1
    by_cases e : j = h + 1 - s
    · exact e
    · rw [if_neg e] at h1
      have := Option.some.inj h1
      omega
  · refine absurd ?_ (h2 (h + 1 - s) (by omega))
    rw [part_LS hs hs2 (Nat.le_refl _), if_pos rfl]
def PN (p D : Addr) (HX : Hp) (m : Int) (k i : Nat) (H1 : Hp) : Prop := ∃ rs : List Int, rs.length = i ∧ (∀ x, x ∈ rs → 0 ≤ x ∧ x < m) ∧ But p HX H1 ∧ Bx H1 p (k + i) ∧ H1 D = some (.lst (rs.map V.int))
theorem pn_start {p D : Addr} {HX : Hp} {m : Int} {k : Nat} (nD : HX D = none) (B : Bx HX p k) : PN p D HX m k 0 (upd HX D (.lst [])) := ⟨[], rfl, fun _ h => (by cases h), (But.refl p HX).new nD, B.new nD, upd_same⟩
theorem pn_step {p D : Addr} {HX H1 H4 : Hp} {m : Int} {k i : Nat} {x : Int} (nD : HX D = none) (Dp : D ≠ p) (h : PN p D HX m k i H1) (b : But p H1 H4) (B : Bx H4 p (k + (i + 1))) (hi : i < 100000) (hx : 0 ≤ x ∧ x < m) :
    ∃ acc, H4 D = some (.lst acc) ∧ acc.length < sizeLine ∧ PN p D HX m k (i + 1) (upd H4 D (.lst (acc ++ [.int x]))) := by
  obtain ⟨rs, hl, hb, b1, _, hD⟩ := h
  have hsl : sizeLine = 16777216 := by decide
  refine ⟨_, b _ _ Dp hD, by rw [List.length_map]; omega, rs ++ [x], by rw [List.length_append, hl]; rfl, fun y hy => ?_, but_newer (b1.trans b) nD, B.other Dp, ?_⟩
  · rcases List.mem_append.mp hy with hy | hy
    · exact hb y hy
    · rw [List.mem_singleton.mp hy]
      exact hx
  · rw [upd_same, List.map_append]
    rfl
/-! rows with few ones, and rows that part late -/
def sp__law_late_right {K : PySem.W.Frag} {mg : Str → Option Value} (_ : Defs K mg) : Sp := fun vs H Q _ => ∃ (p : Addr) (n : Nat), vs = [.ref p] ∧ Bx H p n ∧ n < 100000000 ∧
  ∀ H', But p H H' → Bx H' p (n + 6000) → Q (.bl true) H'
theorem ok__law_late_right (T : Defs K mg) (TT : Tabs T base) : FnOk P w K mg base CX0 4 T.f__law_late_right T.fd__law_late_right ["_law_box_here"] (sp__law_late_right T) := by
  have G__law_same : FnOk P w K mg base CX0 2 T.f__law_same T.fd__law_same ["_law_found", "_law_due"] (sp__law_same K) := ok__law_same T TT
  have G__law_take : FnOk P w K mg base CX0 1 T.f__law_take T.fd__law_take ["_law_box_here", "_law_many"] (sp__law_take K) := ok__law_take T TT
  have G__law_row : FnOk P w K mg base CX0 2 T.f__law_row T.fd__law_row ["_law_box_here", "_law_long_here"] (sp__law_row K) := ok__law_row T TT
  have G_parting : FnOk P w K mg base (L2.CX P w) 3 T.f_parting T.fd_parting ["one", "other"] (sp_parting T) := ok_parting T TT
  have G_leans : FnOk P w K mg base (L2.CX P w) 2 T.f_leans T.fd_leans ["one", "other"] (sp_leans T) := ok_leans T TT
  refine T.F__law_late_right.ok sc__law_late_right (fun vs H Q E h => ?_) (fun cdv A outer s H vs Q E hr h => ?_)
  · obtain ⟨p, n, rfl, hB, hn, q⟩ := h
    rfl
  · obtain ⟨p, n, rfl, hB, hn, q⟩ := h
    refine ⟨_, PSs.nox (pss_cons (ps_set (i := 1) sc__law_late_right.nd rfl (.inr rfl) (pe_op op_add pe_int (pe_call G__law_take (hr.mono (by decide)) (by rfl) T.g__law_take T.F__law_take.kp T.b__law_take .nil pass0 (pa_cons (pv 0) (pa_cons pe_int pa_nil)))))
    (pss_cons (ps_set (i := 2) sc__law_late_right.nd rfl (.inr rfl) (pe_callB (sortedW (w := w) rfl rfl) (by rfl) T.m_sorted bt_sorted (pa_cons (pe_callTy (setLW (K := K) (w := w) rfl rfl rfl) (by rfl) T.m_set bt_set (pa_cons (pe_lc (own := [("_law_turn", 9)]) (g := gName 9) (tt := tYes) rfl sc__law_late_right.nd (pi_range1 (by rfl) T.m_range (pa_cons pe_int pa_nil)) (blkOk_by (N := N__law_late_right) (sc := defScope s__law_late_right) (by decide +kernel)) (fun _ _ _ _ _ => (pg_name (i := 9) sc__law_late_right.nd rfl (.inl rfl))) (fun _ _ _ _ _ => pts_nil) (fun _ _ _ _ _ => (pe_call G__law_take (hr.mono (by decide)) (by rfl) T.g__law_take T.F__law_take.kp T.b__law_take .nil pass0 (pa_cons (pv 0) (pa_cons (pv 1) pa_nil))))) pa_nil)) pa_nil)))
    (pss_cons (ps_asg (pe_tup (pa_cons (pe_callTy call_tuple_of (by rfl) T.m_tuple bt_tuple (pa_cons (pe_lc (own := [("_law_place", 10)]) (g := gName 10) (tt := tYes) rfl sc__law_late_right.nd (pi_range1 (by rfl) T.m_range (pa_cons (pv 1) pa_nil)) (blkOk_by (N := N__law_late_right) (sc := defScope s__law_late_right) (by decide +kernel)) (fun _ _ _ _ _ => (pg_name (i := 10) sc__law_late_right.nd rfl (.inl rfl))) (fun _ _ _ _ _ => pts_nil) (fun _ _ _ _ _ => (pe_callTy call_int1 (by rfl) T.m_int bt_int (pa_cons (pe_cmpR (inK (K := K) rfl) (pv 10) (pv 2) rfl) pa_nil)))) pa_nil)) (pa_cons (pe_call G__law_row (hr.mono (by decide)) (by rfl) T.g__law_row T.F__law_row.kp T.b__law_row .nil pass0 (pa_cons (pv 0) (pa_cons (pv 1) pa_nil))) pa_nil))) (pg_tup rfl (pgs_cons (pg_name (i := 3) sc__law_late_right.nd rfl (.inl rfl)) (pgs_cons (pg_name (i := 4) sc__law_late_right.nd rfl (.inr rfl)) pgs_nil))))
    (pss_cons (ps_set (i := 5) sc__law_late_right.nd rfl (.inl rfl) (pe_lst pa_nil))
    (pss_cons (ps_for PassesOwn.never rfl (pi_range1 (by rfl) T.m_range (pa_cons (pv 1) pa_nil)) (pg_name (i := 6) sc__law_late_right.nd rfl (.inr rfl)) (pss_one (ps_expr (pe_bm PySem.F.plainAttrs_list PySem.F.slot_list_append PySem.F.type_list_append mt_append (pv 5) (pa_cons (pe_op op_sub (pe_op op_mul (pv 1) (pe_callB (cr_sum rfl) (by rfl) T.m_sum bt_sum (pa_cons (pe_lc (own := [("_law_place", 10)]) (g := gName 10) (tt := tYes) rfl sc__law_late_right.nd (pi_list (pv 2)) (blkOk_by (N := N__law_late_right) (sc := defScope s__law_late_right) (by decide +kernel)) (fun _ _ _ _ _ => (pg_name (i := 10) sc__law_late_right.nd rfl (.inl rfl))) (fun _ _ _ _ _ => pts_nil) (fun _ _ _ _ _ => (pe_ix (ixtK (K := K) rfl) (pv 4) (pe_op op_sub (pv 10) (pv 6)) (fun _ _ => rfl)))) pa_nil))) (pe_op op_mul (pe_callB call_len_seq (by rfl) T.m_len bt_len (pa_cons (pv 2) pa_nil)) (pe_callB (cr_sumT rfl) (by rfl) T.m_sum bt_sum (pa_cons (pv 4) pa_nil)))) pa_nil)))))
    (pss_cons (ps_if (pt_not (pt_val (pe_call G__law_same (hr.mono (by decide)) (by rfl) T.g__law_same T.F__law_same.kp T.b__law_same .nil pass0 (pa_cons (pe_call G_leans (hr.mono (by decide)) (by rfl) T.g_leans T.F_leans.kp T.b_leans .nil passL (pa_cons (pv 3) (pa_cons (pv 4) pa_nil))) (pa_cons (pv 5) pa_nil))))) (pss_one (ps_ret pe_bl)) pss_nil)
    (pss_cons (ps_par (i := 7) (j := 8) (by rfl) sc__law_late_right.nd rfl rfl (by decide) rfl rfl (pa_cons (pe_op op_add pe_int (pe_call G__law_take (hr.mono (by decide)) (by rfl) T.g__law_take T.F__law_take.kp T.b__law_take .nil pass0 (pa_cons (pv 0) (pa_cons pe_int pa_nil)))) (pa_cons (pe_op op_add pe_int (pe_call G__law_take (hr.mono (by decide)) (by rfl) T.g__law_take T.F__law_take.kp T.b__law_take .nil pass0 (pa_cons (pv 0) (pa_cons pe_int pa_nil)))) pa_nil)) (by rfl))
    (pss_cons (ps_asg (pe_tup (pa_cons (pe_op op_catA (pe_tup (pa_cons pe_int (pa_cons pe_int pa_nil))) (pe_op op_repB (pe_tup (pa_cons pe_int pa_nil)) (pe_op op_sub (pe_op op_mul pe_int (pv 7)) pe_int))) (pa_cons (pe_op op_catA (pe_op op_catA (pe_op op_repB (pe_tup (pa_cons pe_int pa_nil)) (pv 8)) (pe_op op_repB (pe_tup (pa_cons pe_int pa_nil)) (pv 7))) (pe_op op_repB (pe_tup (pa_cons pe_int pa_nil)) (pe_op op_sub (pv 7) (pv 8)))) pa_nil))) (pg_tup rfl (pgs_cons (pg_name (i := 3) sc__law_late_right.nd rfl (.inl rfl)) (pgs_cons (pg_name (i := 4) sc__law_late_right.nd rfl (.inr rfl)) pgs_nil))))
    (pss_one (ps_ret (pe_call G__law_same (hr.mono (by decide)) (by rfl) T.g__law_same T.F__law_same.kp T.b__law_same .nil pass0 (pa_cons (pe_call G_parting (hr.mono (by decide)) (by rfl) T.g_parting T.F_parting.kp T.b_parting .nil passL (pa_cons (pv 3) (pa_cons (pv 4) pa_nil))) (pa_cons (pe_op op_sub (pe_op op_add (pv 7) pe_int) (pv 8)) pa_nil))))))))))))), ?_⟩
    have hsl : sizeLine = 16777216 := by decide
    refine ⟨.ref p, rfl, p, 144, n, rfl, hB, by decide, by decide, by omega, fun H1 r1 b1 B1 l1 u1 => ⟨_, _, rfl, rfl, ?_⟩⟩
    obtain ⟨L, hL⟩ : ∃ L : Nat, 257 + r1 = (L : Nat) := ⟨(257 + r1).toNat, by omega⟩
    dsimp only
    rw [hL]
    have L1 : 257 ≤ L := by omega
    have L2' : L ≤ 400 := by omega
    clear hL l1 u1
    -- the spots
    refine ⟨40, rfl, by decide, by decide, fun D nD => ?_⟩
    refine lc_range (PN p D H1 L (n + 1)) (pn_start nD B1) (fun i H2 hi h2 => ?_) (fun H2 h2 => ?_)
    · refine ⟨rfl, yes_ite ?_⟩
      have h2' := h2
      obtain ⟨_, _, _, _, B2, _⟩ := h2'
      have hi : i < 40 := hi
      refine ⟨.ref p, rfl, .int (L : Nat), rfl, p, _, n + 1 + i, rfl, B2, by omega, by omega, by omega, fun H3 r3 b3 B3 l3 u3 => ?_⟩
      exact pn_step nD (ne_new B1 nD) h2 b3 B3 (by omega) ⟨l3, u3⟩
    obtain ⟨ks, hlk, hbk, b2, B2, hD⟩ := h2
    have hlk : ks.length = 40 := hlk
    have B2 : Bx H2 p (n + 1 + 40) := B2
    refine ⟨D, ks, rfl, SqL.mk hD, by omega, fun S c nS hc => ?_⟩
    refine ⟨S, _, c, rfl, upd_same, by omega, fun ns l pw hm hlen nl => ?_⟩
    have hb : ∀ k, k ∈ ns → 0 ≤ k ∧ k < L := fun k hk => hbk k (of_decide_eq_true ((hm k).mp hk))
    have nl40 : ns.length ≤ 40 := by omega
    have s4 : Same H2 (upd (upd H2 S (SetO w S (fun j => decide (j ∈ ks)) c)) l (.lst (ns.map V.int))) := (same_upd nS).trans (same_upd nl)
    have hl4 : (upd (upd H2 S (SetO w S (fun j => decide (j ∈ ks)) c)) l (.lst (ns.map V.int))) l = some (.lst (ns.map V.int)) := upd_same
    have B4 := B2.same s4
    have b4 : But p H (upd (upd H2 S (SetO w S (fun j => decide (j ∈ ks)) c)) l (.lst (ns.map V.int))) := (b1.trans b2).trans (same_but s4)
    have lp : l ≠ p := ne_new (B2.new nS) nl
    clear hm hlen hbk hD b1 b2 B1 B2 nD
    generalize upd (upd H2 S (SetO w S (fun j => decide (j ∈ ks)) c)) l (.lst (ns.map V.int)) = H4 at *
    -- one
    refine ⟨.int (L : Nat), rfl, (L : Nat), rfl, by omega, by omega, fun D nD => ?_⟩
    refine lc_range (fun i G => Same H4 G ∧ G D = some (.lst (((List.range i).map fun (i : Nat) => if decide ((i : Int) ∈ ns) = true then (1 : Int) else 0).map V.int))) ⟨same_upd nD, upd_same⟩ (fun i G hi h => ?_) (fun G h => ?_)
    · obtain ⟨sG, hD⟩ := h
      rw [Int.toNat_natCast] at hi
      refine ⟨rfl, yes_ite ?_⟩
      refine ⟨_, rfl, .ref l, rfl, l, _, rfl, .inl (SqL.mk (sG _ _ hl4)), rfl, flat_ints _, .inr ⟨_, rfl, ?_⟩⟩
      refine ⟨_, hD, by rw [List.length_map, List.length_map, List.length_range]; omega, same_newer sG nD, ?_⟩
      rw [upd_same, List.range_succ, List.map_append, List.map_append, if_neg Bool.false_ne_true, in_ints, Int.zero_add]
      rfl
    obtain ⟨sG, hD⟩ := h
    rw [Int.toNat_natCast] at hD
    refine ⟨D, _, rfl, .inl ⟨SqL.mk hD, fun o no => ?_⟩⟩
    have s5 := sG.trans (same_upd no (o := .tup ((spotsRow L ns).map V.int)))
    have ho5 : (upd G o (.tup ((spotsRow L ns).map V.int))) o = some (.tup ((spotsRow L ns).map V.int)) := upd_same
    have e5 : upd G o (.tup (((List.range L).map fun (i : Nat) => if decide ((i : Int) ∈ ns) = true then (1 : Int) else 0).map V.int)) = upd G o (.tup ((spotsRow L ns).map V.int)) := rfl
    rw [e5]
    generalize upd G o (.tup ((spotsRow L ns).map V.int)) = H5 at *
    have B5 := B4.same s5
    have hl5 := s5 _ _ hl4
    -- other
    refine ⟨.ref p, rfl, .int (L : Nat), rfl, p, L, n + 1 + 40, rfl, B5, by omega, by omega, by omega, fun H6 r ss b6 B6 hr6 lr br => ?_⟩
    have ho6 := b6 _ _ (B5.ne_tup ho5) ho5
    have hl6 := b6 _ _ lp hl5
    refine ⟨(show 2 ≤ sizeLine by decide), fun t nt => ?_⟩
    refine ⟨t, _, rfl, SqT.mk upd_same, rfl, _, _, rfl, _, _, rfl, rfl, ?_⟩
    -- due
    refine ⟨Nat.zero_le _, fun d nd => ?_⟩
    have s7 : Same H6 (upd (upd H6 t (.tup [.ref o, .ref r])) d (.lst [])) := (same_upd nt).trans (same_upd nd)
    have hd7 : (upd (upd H6 t (.tup [.ref o, .ref r])) d (.lst [])) d = some (.lst []) := upd_same
    have nd6 : H6 d = none := (same_upd nt).free nd
    generalize upd (upd H6 t (.tup [.ref o, .ref r])) d (.lst []) = H7 at *
    have hss : ss.length = L := lr
    refine ⟨.int (L : Nat), rfl, (L : Nat), rfl, by omega, by omega, for_range (fun i σ G => ∃ y6 y7 y8 y9 y10, σ = [some (.ref p), some (.int (L : Nat)), some (.ref l), some (.ref o), some (.ref r), some (.ref d), y6, y7, y8, y9, y10] ∧ Same H6 G ∧ G d = some (.lst (((List.range i).map fun (b : Nat) => (L : Int) * mt (spotsRow L ns) ss b - (spotsRow L ns).sum * ss.sum).map V.int))) ⟨_, _, _, _, _, rfl, s7, hd7⟩ ?_ ?_⟩
    · rintro i σ G hi ⟨y6, y7, y8, y9, y10, rfl, sG, hdG⟩
      rw [Int.toNat_natCast] at hi
      have hlG := sG _ _ hl6
      have hrG := sG _ _ hr6
      refine ⟨.ref d, rfl, .inl ⟨rfl, _, SqL.mk hdG⟩, ?_⟩
      refine ⟨.int (L : Nat), rfl, _, rfl, l, rfl, ⟨_, SqL.mk hlG⟩, fun D3 nD3 => ?_⟩
      refine lc_list (xs := ns.map V.int) (fun j G2 => Same G G2 ∧ G2 D3 = some (.lst (((ns.take j).map fun k => ss.getD ((k.toNat + L - i) % L) 0).map V.int))) ⟨same_upd nD3, upd_same⟩ (fun j G2 _ h => SqL.mk (h.1 _ _ hlG)) (fun j x G2 hx h => ?_) (fun G2 h => ?_)
      · obtain ⟨s8, hD3⟩ := h
        rw [List.getElem?_map] at hx
        obtain ⟨k, hk, rfl⟩ := Option.map_eq_some_iff.mp hx
        have kb := hb k (List.mem_of_getElem? hk)
        obtain ⟨kn, rfl⟩ := nat_of kb.1
        refine ⟨rfl, yes_ite ?_⟩
        refine ⟨.ref r, rfl, .int (kn : Nat), rfl, _, rfl, _, _, rfl, rfl, r, _, _, .int (ss.getD ((kn + ss.length - i) % ss.length) 0), rfl, rfl, SqT.mk (s8 _ _ hrG), at_back (by omega) (by omega), ?_⟩
        refine ⟨_, hD3, by rw [List.length_map, List.length_map, List.length_take]; omega, same_newer s8 nD3, ?_⟩
        rw [upd_same, List.take_add_one, hk, List.map_append, List.map_append, hss]
        rfl
      · obtain ⟨s8, hD3⟩ := h
        rw [List.length_map, List.take_length] at hD3
        refine ⟨D3, _, rfl, SqL.mk hD3, ?_⟩
        refine ⟨_, _, rfl, rfl, .inl ⟨by omega, by omega⟩, .ref l, rfl, l, _, rfl, .inl (SqL.mk (s8 _ _ hlG)), .ref r, rfl, r, ss, rfl, SqT.mk (s8 _ _ hrG), _, _, rfl, rfl, .inl ⟨by rw [List.length_map]; omega, by rw [List.length_map]; omega⟩, _, _, rfl, rfl, ?_⟩
        refine ⟨d, _, _, rfl, rfl, s8 _ _ hdG, by rw [List.length_map, List.length_map, List.length_range]; omega, ?_⟩
        refine ⟨_, _, _, _, _, rfl, same_newer (sG.trans s8) nd6, ?_⟩
        rw [upd_same, List.length_map]
        dsimp only
        rw [spots_due pw hb, List.range_succ, List.map_append, List.map_append]
        rfl
    rintro σ G ⟨y6, y7, y8, y9, y10, rfl, sG, hdG⟩
    rw [Int.toNat_natCast] at hdG
    have hdG : G d = some (.lst ((LS (spotsRow L ns) ss).map V.int)) := by
      rw [hdG]
      unfold LS
      rw [spots_len]
    have hlr : (spotsRow L ns).length = ss.length := by rw [spots_len, hss]
    have twoG : Two G o r (spotsRow L ns) ss := ⟨sG _ _ ho6, sG _ _ hr6, spots_bits L ns, br⟩
    refine ⟨.ref o, rfl, .ref r, rfl, o, r, spotsRow L ns, ss, rfl, twoG, by rw [spots_len]; omega, .inl ⟨hlr, fun F1 f f1 nf hf => ?_⟩⟩
    refine ⟨.ref d, rfl, _, _, rfl, .inr (.inr ⟨f, d, LS (spotsRow L ns) ss, rfl, rfl, hf, f1 _ _ hdG, by rw [LS_len, spots_len]; omega⟩), fun F2 f2 => ⟨_, rfl, ?_⟩⟩
    refine iteF ?_
    have sF := sG.trans (f1.trans f2)
    have BF := B6.same sF
    have bF : But p H F2 := ((b4.trans (same_but s5)).trans b6).trans (same_but sF)
    clear sF f1 f2 hf nf twoG hdG sG b6 B6 b4 B4 B5
    -- late ones
    refine ⟨.ref p, rfl, p, 60, n + 1 + 40 + 5000, rfl, BF, by decide, by decide, by omega, fun E1 x1 c1 C1 v1 w1 => ⟨_, _, rfl, rfl, ?_⟩⟩
    refine ⟨.ref p, rfl, p, 2, n + 1 + 40 + 5000 + 1, rfl, C1, by decide, by decide, by omega, fun E2 x2 c2 C2 v2 w2 => ⟨_, _, rfl, rfl, ?_⟩⟩
    obtain ⟨h, hh⟩ : ∃ h : Nat, 258 + x1 = (h : Nat) := ⟨(258 + x1).toNat, by omega⟩
    obtain ⟨s, hs⟩ : ∃ s : Nat, 2 + x2 = (s : Nat) := ⟨(2 + x2).toNat, by omega⟩
    dsimp only
    rw [hh, hs]
    have hh1 : 258 ≤ h := by omega
    have hh2 : h ≤ 317 := by omega
    have hs1 : 2 ≤ s := by omega
    have hs2 : s ≤ 3 := by omega
    clear hh hs v1 w1 v2 w2
    refine ⟨_, _, rfl, ?_⟩
    -- one
    refine ⟨(show 2 ≤ sizeLine by decide), fun t1 n1 => ?_⟩
    refine ⟨(show 1 ≤ sizeLine by decide), fun t2 n2 => ?_⟩
    refine ⟨.int (h : Nat), rfl, _, _, rfl, rfl, .inl ⟨by decide, by decide⟩, _, _, rfl, rfl, rep_go (k := 2 * h - 2) (by omega) upd_same (by omega) fun G1 p1 g1 hp1 => ?_⟩
    refine cat_go (rs := [1, 1]) (ss := List.replicate (2 * h - 2) 0) (g1 _ _ ((same_upd n2) _ _ upd_same)) hp1 (by rw [List.length_replicate]; show 2 + _ ≤ _; omega) fun G2 o2 g2 ho2 => ?_
    have S2 : Same E2 G2 := (((same_upd n1).trans (same_upd n2)).trans g1).trans g2
    have ho2 : G2 o2 = some (.tup ((pA h).map V.int)) := ho2
    clear g1 g2 hp1 n1 n2
    -- other
    refine ⟨(show 1 ≤ sizeLine by decide), fun t1 n1 => ?_⟩
    refine ⟨.int (s : Nat), rfl, rep_go (k := s) rfl upd_same (by omega) fun G3 p3 g3 hp3 => ?_⟩
    refine ⟨(show 1 ≤ sizeLine by decide), fun t2 n2 => ?_⟩
    refine ⟨.int (h : Nat), rfl, rep_go (k := h) rfl upd_same (by omega) fun G4 p4 g4 hp4 => ?_⟩
    refine cat_go (rs := List.replicate s 0) (ss := List.replicate h 1) (g4 _ _ ((same_upd n2) _ _ hp3)) hp4 (by rw [List.length_replicate, List.length_replicate]; omega) fun G5 p5 g5 hp5 => ?_
    refine ⟨(show 1 ≤ sizeLine by decide), fun t3 n3 => ?_⟩
    refine ⟨.int (h : Nat), rfl, .int (s : Nat), rfl, _, _, rfl, rfl, rep_go (k := h - s) (by omega) upd_same (by omega) fun G6 p6 g6 hp6 => ?_⟩
    refine cat_go (rs := List.replicate s 0 ++ List.replicate h 1) (ss := List.replicate (h - s) 0) (g6 _ _ ((same_upd n3) _ _ hp5)) hp6 (by rw [List.length_append, List.length_replicate, List.length_replicate, List.length_replicate]; omega) fun G7 r2 g7 hr2 => ?_
    have S7 : Same G2 G7 := ((((((same_upd n1).trans g3).trans (same_upd n2)).trans g4).trans g5).trans (same_upd n3)).trans (g6.trans g7)
    have hr2 : G7 r2 = some (.tup ((pB h s).map V.int)) := hr2
    clear g3 g4 g5 g6 g7 hp3 hp4 hp5 hp6 n1 n2 n3
    refine ⟨(show 2 ≤ sizeLine by decide), fun t4 n4 => ?_⟩
    refine ⟨t4, _, rfl, SqT.mk upd_same, rfl, _, _, rfl, _, _, rfl, rfl, ?_⟩
    have two8 : Two (upd G7 t4 (.tup [.ref o2, .ref r2])) o2 r2 (pA h) (pB h s) := ⟨(same_upd n4) _ _ (S7 _ _ ho2), (same_upd n4) _ _ hr2, pA_bits h, pB_bits h s⟩
    have S8 : Same E2 (upd G7 t4 (.tup [.ref o2, .ref r2])) := (S2.trans S7).trans (same_upd n4)
    refine ⟨.ref o2, rfl, .ref r2, rfl, o2, r2, pA h, pB h s, rfl, two8, by rw [pA_len (by omega)]; omega, .inl ⟨by rw [pA_len (by omega), pB_len (by omega)], fun F9 f9 => ⟨fun h0 => absurd (part_in hs1 (by omega)) h0, fun j j1 j2 => ?_⟩⟩⟩
    have ej := part_first hs1 (by omega) j1 j2
    refine ⟨.int (h : Nat), rfl, _, _, rfl, rfl, .int (s : Nat), rfl, _, _, rfl, rfl, _, _, rfl, .inl ⟨(j : Nat), rfl, ?_⟩, fun F10 f10 => ?_⟩
    · show V.int _ = V.int _
      congr 1
      omega
    · have S10 := S8.trans (f9.trans f10)
      exact q F10 (bF.trans ((c1.trans c2).trans (same_but S10))) ((C2.same S10).mono (by omega))
/-! the law -/
theorem slice_from {K : PySem.W.Frag} {H : Hp} {a : Addr} {rs : List Int} {b : Nat} {Q : VK} (ha : H a = some (.tup (rs.map V.int))) (hb : b ≤ rs.length) (br : Bits rs)
    (q : ∀ H' p (xs : List Int), Same H H' → H' p = some (.tup (xs.map V.int)) → xs.length = rs.length - b → Bits xs → Q (.ref p) H') : rSlA K (.ref a) (some (b : Int)) none H Q := by
  refine ⟨a, _, rfl, SqT.mk ha, fun z => ?_, fun z p np => ?_⟩
  · have z1 := z.1
    rw [HT.sIx_nat, List.length_map] at z1
    exact q H a rs (Same.refl H) ha (by omega) br
  · refine q _ p (rs.drop b) (same_upd np) ?_ (List.length_drop ..) fun x hx => br x (List.mem_of_mem_drop hx)
    rw [upd_same]
    unfold cutV
    rw [HT.sIx_nat, HT.sIx_none, List.length_map, Nat.min_eq_left hb, ← List.map_drop, List.take_of_length_le (by rw [List.length_map, List.length_drop]; omega)]
theorem slice_to {K : PySem.W.Frag} {H : Hp} {a : Addr} {rs : List Int} {b : Nat} {Q : VK} (ha : H a = some (.tup (rs.map V.int))) (hb : b ≤ rs.length) (br : Bits rs)
    (q : ∀ H' p (xs : List Int), Same H H' → H' p = some (.tup (xs.map V.int)) → xs.length = b → Bits xs → Q (.ref p) H') : rSlA K (.ref a) none (some (b : Int)) H Q := by
  refine ⟨a, _, rfl, SqT.mk ha, fun z => ?_, fun z p np => ?_⟩
  · have z1 := z.2
    rw [HT.sIx_nat, List.length_map] at z1
    exact q H a rs (Same.refl H) ha (by omega) br
  · refine q _ p (rs.take b) (same_upd np) ?_ (by rw [List.length_take]; omega) fun x hx => br x (List.mem_of_mem_take hx)
    rw [upd_same, cut_take]
theorem at_menuV {Pr : V → Prop} {xs : List V} {r : Int} (h0 : 0 ≤ r) (h1 : r < xs.length) (hx : ∀ x, x ∈ xs → Pr x) : ∃ v, atI xs r = some v ∧ Pr v := by
  obtain ⟨j, rfl⟩ := Int.eq_ofNat_of_zero_le h0
  have hj : j < xs.length := by omega
  exact ⟨xs[j], atI_nat (List.getElem?_eq_getElem hj), hx _ (List.getElem_mem hj)⟩
theorem bits_app {xs ys : List Int} (h1 : Bits xs) (h2 : Bits ys) : Bits (xs ++ ys) := app_bits h1 h2
theorem fork_six {K : PySem.W.Frag} {c : Prop} [Decidable c] {Q : VK} {σ : L2.St} {H3 H4 : Hp} {b : Addr} (hσ : σ[3]? = some (some (.ref b))) (B4 : Bx H4 b 1) (b4 : But b H3 H4)
    (key : ∀ (H5 : Hp) (m : Nat), But b H3 H5 → Bx H5 b 6 → 1 ≤ m → m ≤ 128 → Q (.int (m : Nat)) H5) :
    if c then tOp (rI0 fun i j => V.int (i + j)) (tC (.int 64)) (tCall (sp__law_take K) [] E0 (tCons (tVar 3) (tCons (tC (.int 65)) tNil))) σ H4 Q
    else tCB (fun xs H Q => ∃ i j, xs = [V.int i, V.int j] ∧ Q (.int (if j < i then j else i)) H) (tCons (tC (.int 30)) (tCons (tCall (sp__law_long K) [] E0 (tCons (tVar 3) tNil)) tNil)) σ H4 Q := by
  refine ite2 (fun _ => ?_) (fun _ => ?_)
  · refine ⟨.ref b, hσ, b, 65, 1, rfl, B4, by decide, by decide, by omega, fun H5 r b5 B5 l u => ⟨_, _, rfl, rfl, ?_⟩⟩
    obtain ⟨m, hm⟩ : ∃ m : Nat, 64 + r = (m : Nat) := ⟨(64 + r).toNat, by omega⟩
    have := key H5 m (b4.trans b5) (B5.mono (by omega)) (by omega) (by omega)
    rw [← hm] at this
    exact this
  · refine ⟨.ref b, hσ, b, 1, rfl, B4, by omega, fun H5 m b5 B5 m1 m2 => ⟨_, _, rfl, ?_⟩⟩
    have e : (if (m : Int) < 30 then (m : Int) else 30) = ((min m 30 : Nat) : Int) := by
      split <;> omega
    rw [e]
    exact key H5 _ (b4.trans b5) (B5.mono (by omega)) (by omega) (by omega)
theorem test_long {K : PySem.W.Frag} {mg : Str → Option Value} {T : Defs K mg} {Q : Bool → Hp → Prop} {σ : L2.St} {H : Hp} {b : Addr} {n : Nat} {v : Int} (h3 : σ[3]? = some (some (.ref b))) (h2 : σ[2]? = some (some (.int v))) (B : Bx H b n) (hn : n < 1000000) (tg : GxR.TabG H T.P_both)
    (key : ∀ H', Bus b H H' → Bx H' b (n + 20000) → Q false H') :
    tAnd (tTest (tOp rEq (tCall (sp__law_take K) [] E0 (tCons (tVar 3) (tCons (tC (.int 16)) tNil))) (tC (.int 0)))) (tAnd (tTest (tOp rEq (tVar 2) (tC (.int 0)))) (tNot (tB (tCall (sp__law_long_right T) [] E0 (tCons (tVar 3) tNil))))) σ H Q := by
  refine ⟨.ref b, h3, b, 16, n, rfl, B, by decide, by decide, by omega, fun H1 r b1 B1 l u => ⟨rfl, _, rfl, ite2 (fun _ => ?_) (fun _ => ?_)⟩⟩
  · refine ⟨.int v, h2, rfl, _, rfl, ite2 (fun _ => ?_) (fun _ => ?_)⟩
    · refine ⟨.ref b, h3, b, n + 1, rfl, B1, by omega, (Bus.of b1).tabG B tg, fun H2 b2 B2 => ⟨_, rfl, ?_⟩⟩
      exact key H2 ((Bus.of b1).trans b2) (B2.mono (by omega))
    · exact key H1 (Bus.of b1) (B1.mono (by omega))
  · exact key H1 (Bus.of b1) (B1.mono (by omega))
theorem test_late {K : PySem.W.Frag} {mg : Str → Option Value} {T : Defs K mg} {Q : Bool → Hp → Prop} {σ : L2.St} {H : Hp} {b : Addr} {n : Nat} {v : Int} (h3 : σ[3]? = some (some (.ref b))) (h2 : σ[2]? = some (some (.int v))) (B : Bx H b n) (hn : n < 1000000)
    (key : ∀ H', Bus b H H' → Bx H' b (n + 20000) → Q false H') :
    tAnd (tTest (tOp rEq (tVar 2) (tC (.int 0)))) (tAnd (tTest (tOp rEq (tCall (sp__law_take K) [] E0 (tCons (tVar 3) (tCons (tC (.int 16)) tNil))) (tC (.int 0)))) (tNot (tB (tCall (sp__law_late_right T) [] E0 (tCons (tVar 3) tNil))))) σ H Q := by
  refine ⟨.int v, h2, rfl, _, rfl, ite2 (fun _ => ?_) (fun _ => ?_)⟩
  · refine ⟨.ref b, h3, b, 16, n, rfl, B, by decide, by decide, by omega, fun H1 r b1 B1 l u => ⟨rfl, _, rfl, ite2 (fun _ => ?_) (fun _ => ?_)⟩⟩
    · refine ⟨.ref b, h3, b, n + 1, rfl, B1, by omega, fun H2 b2 B2 => ⟨_, rfl, ?_⟩⟩
      exact key H2 (Bus.of (b1.trans b2)) (B2.mono (by omega))
    · exact key H1 (Bus.of b1) (B1.mono (by omega))
  · exact key H (Bus.refl b H) (B.mono (by omega))
def sp_law {K : PySem.W.Frag} {mg : Str → Option Value} (T : Defs K mg) : Sp := fun vs H Q _ => ∃ (a : Addr) (ns : List Int), vs = [.ref a] ∧ SqL K H a (ns.map V.int) ∧ ns.length ≤ 63 ∧ (GxR.TabG H T.P_both ∧ True) ∧ ∀ H', Q (.bl true) H'
theorem ok_law (T : Defs K mg) (TT : Tabs T base) : FnOk P w K mg base CX0 6 T.f_law T.fd_law ["_law_script"] (sp_law T) := by
  have G__law_folded : FnOk P w K mg base CX0 1 T.f__law_folded T.fd__law_folded ["_law_script", "_law_many"] (sp__law_folded K) := ok__law_folded T TT
  have G__law_box : FnOk P w K mg base CX0 1 T.f__law_box T.fd__law_box ["_law_script", "_law_k"] (sp__law_box K) := ok__law_box T TT
  have G__law_take : FnOk P w K mg base CX0 1 T.f__law_take T.fd__law_take ["_law_box_here", "_law_many"] (sp__law_take K) := ok__law_take T TT
  have G__law_row : FnOk P w K mg base CX0 2 T.f__law_row T.fd__law_row ["_law_box_here", "_law_long_here"] (sp__law_row K) := ok__law_row T TT
  have G__law_long : FnOk P w K mg base CX0 2 T.f__law_long T.fd__law_long ["_law_box_here"] (sp__law_long K) := ok__law_long T TT
  have G__law_two_right : FnOk P w K mg base CX0 5 T.f__law_two_right T.fd__law_two_right ["_law_one", "_law_other"] (sp__law_two_right T) := ok__law_two_right T TT
  have G__law_long_right : FnOk P w K mg base CX0 5 T.f__law_long_right T.fd__law_long_right ["_law_box_here"] (sp__law_long_right T) := ok__law_long_right T TT
  have G__law_late_right : FnOk P w K mg base CX0 4 T.f__law_late_right T.fd__law_late_right ["_law_box_here"] (sp__law_late_right T) := ok__law_late_right T TT
  have G__law_refused : FnOk P w K mg base CX0 5 T.f__law_refused T.fd__law_refused ["_law_which", "_law_one", "_law_other"] (sp__law_refused T) := ok__law_refused T TT
  refine T.F_law.ok sc_law (fun vs H Q E h => ?_) (fun cdv A outer s H vs Q E hr h => ?_)
  · obtain ⟨a, ns, rfl, hS, hlen, ⟨tg0, _⟩, q⟩ := h
    rfl
  · obtain ⟨a, ns, rfl, hS, hlen, ⟨tg0, _⟩, q⟩ := h
    refine ⟨_, PSs.nox (pss_cons (ps_set (i := 1) sc_law.nd rfl (.inl rfl) (pe_call G__law_folded (hr.mono (by decide)) (by rfl) T.g__law_folded T.F__law_folded.kp T.b__law_folded .nil pass0 (pa_cons (pv 0) (pa_cons pe_int pa_nil))))
    (pss_cons (ps_for PassesOwn.never rfl (pi_range1 (by rfl) T.m_range (pa_cons (pe_callB (call_max2 rfl) (by rfl) T.m_max bt_max (pa_cons pe_int (pa_cons (pe_callB call_len_seq (by rfl) T.m_len bt_len (pa_cons (pv 1) pa_nil)) pa_nil))) pa_nil)) (pg_name (i := 2) sc_law.nd rfl (.inl rfl)) (pss_cons (ps_set (i := 3) sc_law.nd rfl (.inl rfl) (pe_call G__law_box (hr.mono (by decide)) (by rfl) T.g__law_box T.F__law_box.kp T.b__law_box .nil pass0 (pa_cons (pv 1) (pa_cons (pv 2) pa_nil))))
    (pss_cons (ps_set (i := 4) sc_law.nd rfl (.inl rfl) (pe_ifExp (pt_cmpR op_eq (pe_call G__law_take (hr.mono (by decide)) (by rfl) T.g__law_take T.F__law_take.kp T.b__law_take .nil pass0 (pa_cons (pv 3) (pa_cons pe_int pa_nil))) pe_int (nomark _)) (pe_op op_add pe_int (pe_call G__law_take (hr.mono (by decide)) (by rfl) T.g__law_take T.F__law_take.kp T.b__law_take .nil pass0 (pa_cons (pv 3) (pa_cons pe_int pa_nil)))) (pe_callB (call_min2 rfl) (by rfl) T.m_min bt_min (pa_cons pe_int (pa_cons (pe_call G__law_long (hr.mono (by decide)) (by rfl) T.g__law_long T.F__law_long.kp T.b__law_long .nil pass0 (pa_cons (pv 3) pa_nil)) pa_nil)))))
    (pss_cons (ps_par (i := 5) (j := 6) (by rfl) sc_law.nd rfl rfl (by decide) rfl rfl (pa_cons (pe_call G__law_row (hr.mono (by decide)) (by rfl) T.g__law_row T.F__law_row.kp T.b__law_row .nil pass0 (pa_cons (pv 3) (pa_cons (pv 4) pa_nil))) (pa_cons (pe_call G__law_row (hr.mono (by decide)) (by rfl) T.g__law_row T.F__law_row.kp T.b__law_row .nil pass0 (pa_cons (pv 3) (pa_cons (pv 4) pa_nil))) pa_nil)) (by rfl))
    (pss_cons (ps_set (i := 7) sc_law.nd rfl (.inl rfl) (pe_call G__law_take (hr.mono (by decide)) (by rfl) T.g__law_take T.F__law_take.kp T.b__law_take .nil pass0 (pa_cons (pv 3) (pa_cons (pv 4) pa_nil))))
    (pss_cons (ps_set (i := 6) sc_law.nd rfl (.inl rfl) (pe_ix ix_list (pe_lst (pa_cons (pv 6) (pa_cons (pv 5) (pa_cons (pe_op op_catA (pe_slice sl_tupA (pv 5) (po_some (pv 7)) po_none) (pe_slice sl_tupA (pv 5) po_none (po_some (pv 7)))) (pa_cons (pv 6) pa_nil))))) (pe_call G__law_take (hr.mono (by decide)) (by rfl) T.g__law_take T.F__law_take.kp T.b__law_take .nil pass0 (pa_cons (pv 3) (pa_cons pe_int pa_nil))) (fun _ _ => rfl)))
    (pss_cons (ps_if (PW.pt (pw_or (pt_not (pt_val (pe_call G__law_two_right (hr.mono (by decide)) (by rfl) T.g__law_two_right T.F__law_two_right.kp T.b__law_two_right .nil pass0 (pa_cons (pv 5) (pa_cons (pv 6) pa_nil))))) (pw_or (pt_not (pt_val (pe_call G__law_two_right (hr.mono (by decide)) (by rfl) T.g__law_two_right T.F__law_two_right.kp T.b__law_two_right .nil pass0 (pa_cons (pv 6) (pa_cons (pv 5) pa_nil))))) (pw_or1 (pt_not (pt_val (pe_call G__law_two_right (hr.mono (by decide)) (by rfl) T.g__law_two_right T.F__law_two_right.kp T.b__law_two_right .nil pass0 (pa_cons (pv 5) (pa_cons (pv 5) pa_nil))))))))) (pss_one (ps_ret pe_bl)) pss_nil)
    (pss_cons (ps_if (PW.pt (pw_and (pt_cmpR op_eq (pe_call G__law_take (hr.mono (by decide)) (by rfl) T.g__law_take T.F__law_take.kp T.b__law_take .nil pass0 (pa_cons (pv 3) (pa_cons pe_int pa_nil))) pe_int (nomark _)) (pw_and (pt_cmpR op_eq (pv 2) pe_int (nomark _)) (pw_and1 (pt_not (pt_val (pe_call G__law_long_right (hr.mono (by decide)) (by rfl) T.g__law_long_right T.F__law_long_right.kp T.b__law_long_right .nil pass0 (pa_cons (pv 3) pa_nil)))))))) (pss_one (ps_ret pe_bl)) pss_nil)
    (pss_cons (ps_if (PW.pt (pw_and (pt_cmpR op_eq (pv 2) pe_int (nomark _)) (pw_and (pt_cmpR op_eq (pe_call G__law_take (hr.mono (by decide)) (by rfl) T.g__law_take T.F__law_take.kp T.b__law_take .nil pass0 (pa_cons (pv 3) (pa_cons pe_int pa_nil))) pe_int (nomark _)) (pw_and1 (pt_not (pt_val (pe_call G__law_late_right (hr.mono (by decide)) (by rfl) T.g__law_late_right T.F__law_late_right.kp T.b__law_late_right .nil pass0 (pa_cons (pv 3) pa_nil)))))))) (pss_one (ps_ret pe_bl)) pss_nil)
    (pss_cons (ps_set (i := 8) sc_law.nd rfl (.inl rfl) (pe_call G__law_row (hr.mono (by decide)) (by rfl) T.g__law_row T.F__law_row.kp T.b__law_row .nil pass0 (pa_cons (pv 3) (pa_cons (pe_op op_add (pe_op op_add (pv 4) pe_int) (pe_call G__law_take (hr.mono (by decide)) (by rfl) T.g__law_take T.F__law_take.kp T.b__law_take .nil pass0 (pa_cons (pv 3) (pa_cons pe_int pa_nil)))) pa_nil))))
    (pss_one (ps_for PassesOwn.never rfl (pi_range1 (by rfl) T.m_range (pa_cons pe_int pa_nil)) (pg_name (i := 9) sc_law.nd rfl (.inl rfl)) (pss_one (ps_if (PW.pt (pw_or (pt_not (pt_val (pe_call G__law_refused (hr.mono (by decide)) (by rfl) T.g__law_refused T.F__law_refused.kp T.b__law_refused .nil pass0 (pa_cons (pv 9) (pa_cons (pv 5) (pa_cons (pv 8) pa_nil)))))) (pw_or1 (pt_not (pt_val (pe_call G__law_refused (hr.mono (by decide)) (by rfl) T.g__law_refused T.F__law_refused.kp T.b__law_refused .nil pass0 (pa_cons (pv 9) (pa_cons (pv 8) (pa_cons (pv 5) pa_nil))))))))) (pss_one (ps_ret pe_bl)) pss_nil))))))))))))))
    (pss_one (ps_ret pe_bl)))), ?_⟩
    refine ⟨.ref a, rfl, a, ns, 4, rfl, hS, hlen, by decide, by decide, fun H1 c cs s1 nc hc lc => ?_⟩
    have tg1 : GxR.TabG H1 T.P_both := (Sam.of s1).tabG tg0
    have hn : (if (((cs.map V.int).length : Nat) : Int) > 2 then (((cs.map V.int).length : Nat) : Int) else 2) ≤ 4 ∧ 0 ≤ (if (((cs.map V.int).length : Nat) : Int) > 2 then (((cs.map V.int).length : Nat) : Int) else 2) := by
      rw [List.length_map]
      split <;> omega
    refine ⟨.ref c, rfl, c, _, rfl, .inl (SqL.mk hc), _, _, rfl, _, rfl, by omega, by omega, for_range (fun i σ H2 => ∃ y2 y3 y4 y5 y6 y7 y8 y9, σ = [some (.ref a), some (.ref c), y2, y3, y4, y5, y6, y7, y8, y9] ∧ Sam H1 H2) ⟨none, none, none, none, none, none, none, none, rfl, Sam.refl H1⟩ ?_ ?_⟩
    rotate_left
    · rintro σ H2 ⟨y2, y3, y4, y5, y6, y7, y8, y9, rfl, s2⟩
      exact q _
    rintro i σ H2 hi ⟨y2, y3, y4, y5, y6, y7, y8, y9, rfl, s2⟩
    have hi2 : i < 1000 := by omega
    refine ⟨.ref c, rfl, .int (0 + (i : Int)), rfl, c, cs, i, by rw [Int.zero_add]; rfl, SqL.mk (s2.lst hc), hi2, fun H3 b s3 nb hB => ?_⟩
    have nb1 : H1 b = none := s2.free nb
    have s13 := s2.trans (Sam.of s3)
    have tg3 : GxR.TabG H3 T.P_both := s13.tabG tg1
    -- how long
    refine ⟨.ref b, rfl, b, 16, 0, rfl, hB, by decide, by decide, by omega, fun H4 r4 b4 B4 l4 u4 => ⟨rfl, _, rfl, ?_⟩⟩
    refine fork_six rfl B4 b4 fun H5 L b5 B5 L1 L2' => ?_
    clear B4 b4 l4 u4
    refine ⟨.ref b, rfl, .int (L : Nat), rfl, b, L, 6, rfl, B5, by omega, by omega, by omega, fun H6 o rs b6 B6 ho6 lr br => ?_⟩
    refine ⟨.ref b, rfl, .int (L : Nat), rfl, b, L, 6 + 5000, rfl, B6, by omega, by omega, by omega, fun H7 r ss b7 B7 hr7 ls bs => ?_⟩
    have ho7 := b7 _ _ (B6.ne_tup ho6) ho6
    refine ⟨_, _, rfl, ?_⟩
    refine ⟨.ref b, rfl, .int (L : Nat), rfl, b, L, 6 + 5000 + 5000, rfl, B7, by omega, by omega, by omega, fun H8 by_ b8 B8 l8 u8 => ?_⟩
    obtain ⟨y, rfl⟩ := nat_of l8
    have ho8 := b8 _ _ (B7.ne_tup ho7) ho7
    have hr8 := b8 _ _ (B7.ne_tup hr7) hr7
    -- the other one
    refine ⟨.ref r, rfl, .ref o, rfl, .ref o, rfl, .int (y : Nat), rfl, (y : Nat), rfl, ?_⟩
    dsimp only [tNoPart]
    refine slice_from (K := K) (b := y) ho8 (by omega) br fun H9 p9 xs s9 hp9 lx bx => ?_
    refine ⟨.ref o, rfl, ?_⟩
    dsimp only [tNoPart]
    refine ⟨.int (y : Nat), rfl, (y : Nat), rfl, ?_⟩
    refine slice_to (K := K) (b := y) (s9 _ _ ho8) (by omega) br fun H10 p10 zs s10 hp10 lz bz => ?_
    refine cat_go (rs := xs) (ss := zs) (s10 _ _ hp9) hp10 (by omega) fun H11 p11 s11 hp11 => ?_
    refine ⟨.ref r, rfl, (show 4 ≤ sizeLine by decide), fun mn nm => ?_⟩
    have s811 : Same H8 H11 := s9.trans (s10.trans s11)
    have B11 := B8.same s811
    refine ⟨.ref b, rfl, b, 4, 6 + 5000 + 5000 + 1, rfl, B11.new nm, by decide, by decide, by omega, fun H12 r12 b12 B12 l12 u12 => ?_⟩
    have t12 : ∀ {x : Addr} {ys : List V}, H11 x = some (.tup ys) → H12 x = some (.tup ys) := fun e => b12 _ _ (B11.ne_tup e) ((same_upd nm) _ _ e)
    have ho12 := t12 (s811 _ _ ho8)
    obtain ⟨v, ev, x, zz, rfl, hx12, lx12, bx12⟩ := at_menuV (Pr := fun v => ∃ x zz, v = V.ref x ∧ H12 x = some (.tup ((zz : List Int).map V.int)) ∧ zz.length = L ∧ Bits zz) (xs := [.ref r, .ref o, .ref p11, .ref r]) l12 u12 (fun v hv => by
      rcases List.mem_cons.mp hv with rfl | hv
      · exact ⟨r, ss, rfl, t12 (s811 _ _ hr8), ls, bs⟩
      rcases List.mem_cons.mp hv with rfl | hv
      · exact ⟨o, rs, rfl, ho12, lr, br⟩
      rcases List.mem_cons.mp hv with rfl | hv
      · exact ⟨p11, xs ++ zs, rfl, t12 hp11, by rw [List.length_append]; omega, bits_app bx bz⟩
      rcases List.mem_cons.mp hv with rfl | hv
      · exact ⟨r, ss, rfl, t12 (s811 _ _ hr8), ls, bs⟩
      · cases hv)
    refine ⟨mn, _, _, _, rfl, rfl, SqL.mk (b12 _ _ (ne_new B11 nm) upd_same), ev, ?_⟩
    have b312 : Bus b H3 H12 := Bus.of ((((b5.trans b6).trans (b7.trans b8)).trans (same_but s811)).trans (((But.refl b H11).new nm).trans b12))
    clear ev b12 B11 s811 hp11 s11 hp10 hp9 s10 s9 nm hr8 ho8 b8 B8 hr7 ho7 b7 B7 b6 B6 ho6 b5 B5 t12 l12 u12 lx lz bx bz
    have tg12 := b312.tabG hB tg3
    -- two rows right
    have two1 : Two H12 o x rs zz := ⟨ho12, hx12, br, bx12⟩
    have two2 : Two H12 x o zz rs := ⟨hx12, ho12, bx12, br⟩
    have two3 : Two H12 o o rs rs := ⟨ho12, ho12, br, br⟩
    refine ⟨.ref o, rfl, .ref x, rfl, o, x, rs, zz, rfl, two1, by omega, by omega, by omega, tg12, fun F1 f1 => ⟨_, rfl, ?_⟩⟩
    refine iteF ?_
    refine ⟨.ref x, rfl, .ref o, rfl, x, o, zz, rs, rfl, two2.sam f1, by omega, by omega, by omega, f1.tabG tg12, fun F2 f2 => ⟨_, rfl, ?_⟩⟩
    refine iteF ?_
    refine ⟨.ref o, rfl, .ref o, rfl, o, o, rs, rs, rfl, (two3.sam f1).sam f2, rfl, by omega, by omega, (f1.trans f2).tabG tg12, fun F3 f3 => ⟨_, rfl, ?_⟩⟩
    refine iteF ?_
    have f123 := (f1.trans f2).trans f3
    have bF3 := b312.trans (Bus.sam f123)
    have BF3 := B12.sam f123
    have hoF3 := f123.tup ho12
    clear f1 f2 f3 f123 two1 two2 two3 hx12 ho12 B12 b312 tg12
    -- long ones
    refine test_long rfl rfl BF3 (by omega) (bF3.tabG hB tg3) fun F4 f4 B4 => ?_
    refine iteF ?_
    have hoF4 := f4.tup BF3 hoF3
    refine test_late rfl rfl B4 (by omega) fun F5 f5 B5 => ?_
    refine iteF ?_
    have hoF5 := f5.tup B4 hoF4
    -- a longer one
    refine ⟨.ref b, rfl, .int (L : Nat), rfl, _, _, rfl, rfl, .ref b, rfl, b, 3, _, rfl, B5, by decide, by decide, by omega, fun F6 r6 c6 B6 l6 u6 => ⟨_, _, rfl, rfl, ?_⟩⟩
    obtain ⟨m, hm⟩ : ∃ m : Nat, (L : Int) + 1 + r6 = (m : Nat) := ⟨((L : Int) + 1 + r6).toNat, by omega⟩
    refine ⟨b, m, _, congrArg (fun z => [V.ref b, V.int z]) hm, B6, by omega, by omega, by omega, fun F7 g gs c7 B7 hg lg bg => ?_⟩
    have hoF7 := c7 _ _ (B6.ne_tup (c6 _ _ (B5.ne_tup hoF5) hoF5)) (c6 _ _ (B5.ne_tup hoF5) hoF5)
    have bF7 : Bus b H3 F7 := ((bF3.trans f4).trans f5).trans (Bus.of (c6.trans c7))
    refine ⟨4, rfl, by decide, by decide, for_range (n := 4) (fun j σ G => ∃ y9, σ = [some (.ref a), some (.ref c), some (.int (0 + (i : Int))), some (.ref b), some (.int (L : Nat)), some (.ref o), some (.ref x), some (.int (y : Nat)), some (.ref g), y9] ∧ Same F7 G) ⟨_, rfl, Same.refl F7⟩ ?_ ?_⟩
    rotate_left
    · rintro σ G ⟨y9, rfl, sG⟩
      exact ⟨_, _, _, _, _, _, _, _, rfl, bus_same nb1 s13 (bF7.trans (Bus.sam (Sam.of sG)))⟩
    rintro j σ G hj ⟨y9, rfl, sG⟩
    have t1 : Two G o g rs gs := ⟨sG _ _ hoF7, sG _ _ hg, br, bg⟩
    have t2 : Two G g o gs rs := ⟨sG _ _ hg, sG _ _ hoF7, bg, br⟩
    refine ⟨_, rfl, .ref o, rfl, .ref g, rfl, o, g, rs, gs, _, rfl, t1, by omega, by omega, fun G1 g1 => ⟨_, rfl, ?_⟩⟩
    refine iteF ?_
    refine ⟨_, rfl, .ref g, rfl, .ref o, rfl, g, o, gs, rs, _, rfl, t2.same g1, by omega, by omega, fun G2 g2 => ⟨_, rfl, ?_⟩⟩
    refine iteF ?_
    exact ⟨_, rfl, sG.trans (g1.trans g2)⟩
end
def d_refuse_unlike : He.DefD := ⟨("refuse_unlike", none), "refuse_unlike", "refuse_unlike", defArgs s_refuse_unlike, defBody s_refuse_unlike, defScope s_refuse_unlike, [], []⟩
def d_ones : He.DefD := ⟨("ones", none), "ones", "ones", defArgs s_ones, defBody s_ones, defScope s_ones, [], []⟩
def d_both : He.DefD := ⟨("both", none), "both", "both", defArgs s_both, defBody s_both, defScope s_both, [], []⟩
def d_overlap : He.DefD := ⟨("overlap", none), "overlap", "overlap", defArgs s_overlap, defBody s_overlap, defScope s_overlap, [], []⟩
def d_lean : He.DefD := ⟨("lean", none), "lean", "lean", defArgs s_lean, defBody s_lean, defScope s_lean, [], []⟩
def d_leans : He.DefD := ⟨("leans", none), "leans", "leans", defArgs s_leans, defBody s_leans, defScope s_leans, [], []⟩
def d_parting : He.DefD := ⟨("parting", none), "parting", "parting", defArgs s_parting, defBody s_parting, defScope s_parting, [], []⟩
def d__law_box : He.DefD := ⟨("_law_box", none), "_law_box", "_law_box", defArgs s__law_box, defBody s__law_box, defScope s__law_box, [], []⟩
def d__law_take : He.DefD := ⟨("_law_take", none), "_law_take", "_law_take", defArgs s__law_take, defBody s__law_take, defScope s__law_take, [], []⟩
def d__law_folded : He.DefD := ⟨("_law_folded", none), "_law_folded", "_law_folded", defArgs s__law_folded, defBody s__law_folded, defScope s__law_folded, [], []⟩
def d__law_row : He.DefD := ⟨("_law_row", none), "_law_row", "_law_row", defArgs s__law_row, defBody s__law_row, defScope s__law_row, [], []⟩
def d__law_long : He.DefD := ⟨("_law_long", none), "_law_long", "_law_long", defArgs s__law_long, defBody s__law_long, defScope s__law_long, [], []⟩
def d__law_same : He.DefD := ⟨("_law_same", none), "_law_same", "_law_same", defArgs s__law_same, defBody s__law_same, defScope s__law_same, [], []⟩
def d__law_met : He.DefD := ⟨("_law_met", none), "_law_met", "_law_met", defArgs s__law_met, defBody s__law_met, defScope s__law_met, [], []⟩
def d__law_refused : He.DefD := ⟨("_law_refused", none), "_law_refused", "_law_refused", defArgs s__law_refused, defBody s__law_refused, defScope s__law_refused, [], []⟩
def d__law_two_right : He.DefD := ⟨("_law_two_right", none), "_law_two_right", "_law_two_right", defArgs s__law_two_right, defBody s__law_two_right, defScope s__law_two_right, [], []⟩
def d__law_long_right : He.DefD := ⟨("_law_long_right", none), "_law_long_right", "_law_long_right", defArgs s__law_long_right, defBody s__law_long_right, defScope s__law_long_right, [], []⟩
def d__law_late_right : He.DefD := ⟨("_law_late_right", none), "_law_late_right", "_law_late_right", defArgs s__law_late_right, defBody s__law_late_right, defScope s__law_late_right, [], []⟩
def d_law : He.DefD := ⟨("law", none), "law", "law", defArgs s_law, defBody s_law, defScope s_law, [], []⟩
def hfn : List He.DefD := [d_refuse_unlike, d_ones, d_both, d_overlap, d_lean, d_leans, d_parting, d__law_box, d__law_take, d__law_folded, d__law_row, d__law_long, d__law_same, d__law_met, d__law_refused, d__law_two_right, d__law_long_right, d__law_late_right, d_law]
def hfa : List He.Fa := [.glo "refuse_unlike", .glo "ones", .glo "both", .glo "overlap", .glo "lean", .glo "leans", .glo "parting", .glo "_law_box", .glo "_law_take", .glo "_law_folded", .glo "_law_row", .glo "_law_long", .glo "_law_same", .glo "_law_met", .glo "_law_refused", .glo "_law_two_right", .glo "_law_long_right", .glo "_law_late_right", .glo "law", .free "ValueError", .free "abs", .free "all", .free "bool", .free "divmod", .free "enumerate", .free "int", .free "isinstance", .free "len", .free "list", .free "max", .free "min", .free "range", .free "set", .free "sorted", .free "str", .free "sum", .free "tuple", .free "zip", .glo "OnesError", .glo "Unlike", .glo "NoSuch", .glo "NoOne", .glo "NoRound", .glo "BadText", .glo "BadSheet", .exc "Unlike", .exm "Unlike" "OnesError" true]
def htf : List He.Defn := [("both", none)]
abbrev Hex (K : PySem.W.Frag) : Prop := (PySem.W.findIn K (.ref (He.ga K "Unlike")) "__getattribute__" = some (some (.builtin "BaseException.__getattribute__"))) ∧ (PySem.W.findIn K (.ref (He.ga K "Unlike")) "__getattr__" = some none) ∧ (PySem.W.subIn K (.ref (He.ga K "Unlike")) (.type "BaseException") = some true) ∧ (PySem.W.hasDictIn K (He.ga K "Unlike") = true) ∧ (PySem.W.findIn K (.ref (He.ga K "Unlike")) "__class__" = some (some (.builtin "object.__class__"))) ∧ (PySem.W.specialIn K (.builtin "object.__class__") "__get__" = some (some (.builtin "getset_descriptor.__get__"))) ∧ (PySem.W.takesIn K (.builtin "object.__class__") = some true) ∧ (PySem.W.mroIn K (He.ga K "Unlike") (.type "object") = some true) ∧ (PySem.W.kitOne K (.ref (He.ga K "Unlike")) (.ref (He.ga K "OnesError")) = some true) ∧ (PySem.W.kitOne K (.ref (He.ga K "Unlike")) (.ref (He.ga K "Unlike")) = some true) ∧ (PySem.W.kitOne K (.ref (He.ga K "Unlike")) (.ref (He.ga K "NoSuch")) = some false) ∧ (PySem.W.kitOne K (.ref (He.ga K "Unlike")) (.ref (He.ga K "NoOne")) = some false) ∧ (PySem.W.kitOne K (.ref (He.ga K "Unlike")) (.ref (He.ga K "NoRound")) = some false) ∧ (PySem.W.kitOne K (.ref (He.ga K "Unlike")) (.ref (He.ga K "BadText")) = some false) ∧ (PySem.W.kitOne K (.ref (He.ga K "Unlike")) (.ref (He.ga K "BadSheet")) = some false) ∧ (PySem.W.kitOne K (.ref (He.ga K "Unlike")) (.type "ValueError") = some true)
instance (K : PySem.W.Frag) : Decidable (Hex K) := inferInstance
def hex : PySem.W.Frag → Bool := fun K => decide (Hex K)
abbrev R : PySem.W.OpenRow := PySem.W.OpenLaw.row PySem.Challenge.rw_shareones_k06_leans_of_rows
abbrev hk : PySem.W.Hook := He.hookX 4 hfa hfn [] htf hex
def ob (s : PySem.W.SharedT) : He.AlX := He.obsX 4 hfa hfn [] htf hex (HandSHeadRun.getT s)
theorem ob_eq (s : PySem.W.SharedT) : ob s = hk.obs s.abs := He.obsX_eq (HandSHeadRun.getT_eq s)
def loose : List Str := ["refuse_unlike", "ones", "both", "overlap", "lean", "leans", "parting", "_law_box", "_law_take", "_law_folded", "_law_row", "_law_long", "_law_same", "_law_met", "_law_refused", "_law_two_right", "_law_long_right", "_law_late_right", "OnesError", "Unlike", "NoSuch", "NoOne", "NoRound", "BadText", "BadSheet"]
theorem run (w : World) : HandSHeadRun.RunEq R (PySem.W.view R.prog [29]) hk ob 6000 loose w := by
  intro os
  kernel_rfl
theorem codeAt {K : PySem.W.Frag} {p : He.Defn} : CodeAt K (He.fAd K p) (He.cT K p).1 := fun oc od fd osl lk b e => (He.codeOf_eq lk e).symm
theorem facts {l : PySem.W.OpenLaw} {w : World} {K : PySem.W.Frag} {h : Heap} {mg : Str → Option Value} {f : Addr} (X : K.In h) (G : h.Ns mainGlobals mg) (hfa_ : mg ("law" : Str) = some (.ref f)) (cc : He.SaysX hfa hfn [] htf hex w h K) :
    LamX.LawAtS l w K CX0 6 63 "_law_script" mg f h := by
  have c : He.SaysD hfa hfn K := congrArg (fun z : He.AlT => z.1) cc.t
  obtain ⟨fd_refuse_unlike, F_refuse_unlike⟩ := c.def_ 0 (d := d_refuse_unlike) rfl
  obtain ⟨fd_ones, F_ones⟩ := c.def_ 1 (d := d_ones) rfl
  obtain ⟨fd_both, F_both⟩ := c.def_ 2 (d := d_both) rfl
  obtain ⟨fd_overlap, F_overlap⟩ := c.def_ 3 (d := d_overlap) rfl
  obtain ⟨fd_lean, F_lean⟩ := c.def_ 4 (d := d_lean) rfl
  obtain ⟨fd_leans, F_leans⟩ := c.def_ 5 (d := d_leans) rfl
  obtain ⟨fd_parting, F_parting⟩ := c.def_ 6 (d := d_parting) rfl
  obtain ⟨fd__law_box, F__law_box⟩ := c.def_ 7 (d := d__law_box) rfl
  obtain ⟨fd__law_take, F__law_take⟩ := c.def_ 8 (d := d__law_take) rfl
  obtain ⟨fd__law_folded, F__law_folded⟩ := c.def_ 9 (d := d__law_folded) rfl
  obtain ⟨fd__law_row, F__law_row⟩ := c.def_ 10 (d := d__law_row) rfl
  obtain ⟨fd__law_long, F__law_long⟩ := c.def_ 11 (d := d__law_long) rfl
  obtain ⟨fd__law_same, F__law_same⟩ := c.def_ 12 (d := d__law_same) rfl
  obtain ⟨fd__law_met, F__law_met⟩ := c.def_ 13 (d := d__law_met) rfl
  obtain ⟨fd__law_refused, F__law_refused⟩ := c.def_ 14 (d := d__law_refused) rfl
  obtain ⟨fd__law_two_right, F__law_two_right⟩ := c.def_ 15 (d := d__law_two_right) rfl
  obtain ⟨fd__law_long_right, F__law_long_right⟩ := c.def_ 16 (d := d__law_long_right) rfl
  obtain ⟨fd__law_late_right, F__law_late_right⟩ := c.def_ 17 (d := d__law_late_right) rfl
  obtain ⟨fd_law, F_law⟩ := c.def_ 18 (d := d_law) rfl
  have e := hfa_.symm.trans (He.glo_ok X G (c.fact 18 (f := .glo "law") rfl))
  cases e
  have b := FunD.bindsA (ps := ["_law_script"]) F_law fun _ _ _ _ _ _ us hl => match us, hl with | [_], _ => rfl
  have hm : Hex K := of_decide_eq_true cc.more
  obtain ⟨h0, h1, h2, h3, h4, h5, h6, h7, h8, h9, h10, h11, h12, h13, h14, h15⟩ := hm
  let T : Defs K mg := ⟨_, fd_refuse_unlike, F_refuse_unlike, (He.glo_ok X G (c.fact 0 (f := .glo "refuse_unlike") rfl)), (FunD.bindsN F_refuse_unlike fun _ _ _ _ _ _ us hl => match us, hl with | [_], _ => rfl), _, fd_ones, F_ones, (He.glo_ok X G (c.fact 1 (f := .glo "ones") rfl)), (FunD.bindsN F_ones fun _ _ _ _ _ _ us hl => match us, hl with | [_], _ => rfl), _, fd_both, F_both, (He.glo_ok X G (c.fact 2 (f := .glo "both") rfl)), (FunD.bindsN F_both fun _ _ _ _ _ _ us hl => match us, hl with | [_, _], _ => rfl), _, fd_overlap, F_overlap, (He.glo_ok X G (c.fact 3 (f := .glo "overlap") rfl)), (FunD.bindsN F_overlap fun _ _ _ _ _ _ us hl => match us, hl with | [_, _], _ => rfl), _, fd_lean, F_lean, (He.glo_ok X G (c.fact 4 (f := .glo "lean") rfl)), (FunD.bindsN F_lean fun _ _ _ _ _ _ us hl => match us, hl with | [_, _], _ => rfl), _, fd_leans, F_leans, (He.glo_ok X G (c.fact 5 (f := .glo "leans") rfl)), (FunD.bindsN F_leans fun _ _ _ _ _ _ us hl => match us, hl with | [_, _], _ => rfl), _, fd_parting, F_parting, (He.glo_ok X G (c.fact 6 (f := .glo "parting") rfl)), (FunD.bindsN F_parting fun _ _ _ _ _ _ us hl => match us, hl with | [_, _], _ => rfl), _, fd__law_box, F__law_box, (He.glo_ok X G (c.fact 7 (f := .glo "_law_box") rfl)), (FunD.bindsN F__law_box fun _ _ _ _ _ _ us hl => match us, hl with | [_, _], _ => rfl), _, fd__law_take, F__law_take, (He.glo_ok X G (c.fact 8 (f := .glo "_law_take") rfl)), (FunD.bindsN F__law_take fun _ _ _ _ _ _ us hl => match us, hl with | [_, _], _ => rfl), _, fd__law_folded, F__law_folded, (He.glo_ok X G (c.fact 9 (f := .glo "_law_folded") rfl)), (FunD.bindsN F__law_folded fun _ _ _ _ _ _ us hl => match us, hl with | [_, _], _ => rfl), _, fd__law_row, F__law_row, (He.glo_ok X G (c.fact 10 (f := .glo "_law_row") rfl)), (FunD.bindsN F__law_row fun _ _ _ _ _ _ us hl => match us, hl with | [_, _], _ => rfl), _, fd__law_long, F__law_long, (He.glo_ok X G (c.fact 11 (f := .glo "_law_long") rfl)), (FunD.bindsN F__law_long fun _ _ _ _ _ _ us hl => match us, hl with | [_], _ => rfl), _, fd__law_same, F__law_same, (He.glo_ok X G (c.fact 12 (f := .glo "_law_same") rfl)), (FunD.bindsN F__law_same fun _ _ _ _ _ _ us hl => match us, hl with | [_, _], _ => rfl), _, fd__law_met, F__law_met, (He.glo_ok X G (c.fact 13 (f := .glo "_law_met") rfl)), (FunD.bindsN F__law_met fun _ _ _ _ _ _ us hl => match us, hl with | [_, _, _], _ => rfl), _, fd__law_refused, F__law_refused, (He.glo_ok X G (c.fact 14 (f := .glo "_law_refused") rfl)), (FunD.bindsN F__law_refused fun _ _ _ _ _ _ us hl => match us, hl with | [_, _, _], _ => rfl), _, fd__law_two_right, F__law_two_right, (He.glo_ok X G (c.fact 15 (f := .glo "_law_two_right") rfl)), (FunD.bindsN F__law_two_right fun _ _ _ _ _ _ us hl => match us, hl with | [_, _], _ => rfl), _, fd__law_long_right, F__law_long_right, (He.glo_ok X G (c.fact 16 (f := .glo "_law_long_right") rfl)), (FunD.bindsN F__law_long_right fun _ _ _ _ _ _ us hl => match us, hl with | [_], _ => rfl), _, fd__law_late_right, F__law_late_right, (He.glo_ok X G (c.fact 17 (f := .glo "_law_late_right") rfl)), (FunD.bindsN F__law_late_right fun _ _ _ _ _ _ us hl => match us, hl with | [_], _ => rfl), _, fd_law, F_law, (He.glo_ok X G (c.fact 18 (f := .glo "law") rfl)), (FunD.bindsN F_law fun _ _ _ _ _ _ us hl => match us, hl with | [_], _ => rfl), (He.cT K ("both", none)).1, (He.cT K ("both", none)).2, codeAt, _, (He.glo_ok X G (c.fact 38 (f := .glo "OnesError") rfl)), _, (He.glo_ok X G (c.fact 39 (f := .glo "Unlike") rfl)), _, (He.glo_ok X G (c.fact 40 (f := .glo "NoSuch") rfl)), _, (He.glo_ok X G (c.fact 41 (f := .glo "NoOne") rfl)), _, (He.glo_ok X G (c.fact 42 (f := .glo "NoRound") rfl)), _, (He.glo_ok X G (c.fact 43 (f := .glo "BadText") rfl)), _, (He.glo_ok X G (c.fact 44 (f := .glo "BadSheet") rfl)), (He.exc_ok (c.fact 45 (f := .exc "Unlike") rfl)).1, (He.exc_ok (c.fact 45 (f := .exc "Unlike") rfl)).2.1, (He.exc_ok (c.fact 45 (f := .exc "Unlike") rfl)).2.2.1, (He.exc_ok (c.fact 45 (f := .exc "Unlike") rfl)).2.2.2, ⟨h0, h1, h2, h3, h4, h5, h6, h7⟩, (He.exm_ok (c.fact 46 (f := .exm "Unlike" "OnesError" true) rfl)), h8, h9, h10, h11, h12, h13, h14, h15, (He.free_ok X G (c.fact 19 (f := .free "ValueError") rfl)), (He.free_ok X G (c.fact 20 (f := .free "abs") rfl)), (He.free_ok X G (c.fact 21 (f := .free "all") rfl)), (He.free_ok X G (c.fact 22 (f := .free "bool") rfl)), (He.free_ok X G (c.fact 23 (f := .free "divmod") rfl)), (He.free_ok X G (c.fact 24 (f := .free "enumerate") rfl)), (He.free_ok X G (c.fact 25 (f := .free "int") rfl)), (He.free_ok X G (c.fact 26 (f := .free "isinstance") rfl)), (He.free_ok X G (c.fact 27 (f := .free "len") rfl)), (He.free_ok X G (c.fact 28 (f := .free "list") rfl)), (He.free_ok X G (c.fact 29 (f := .free "max") rfl)), (He.free_ok X G (c.fact 30 (f := .free "min") rfl)), (He.free_ok X G (c.fact 31 (f := .free "range") rfl)), (He.free_ok X G (c.fact 32 (f := .free "set") rfl)), (He.free_ok X G (c.fact 33 (f := .free "sorted") rfl)), (He.free_ok X G (c.fact 34 (f := .free "str") rfl)), (He.free_ok X G (c.fact 35 (f := .free "sum") rfl)), (He.free_ok X G (c.fact 36 (f := .free "tuple") rfl)), (He.free_ok X G (c.fact 37 (f := .free "zip") rfl))⟩
  refine ⟨fd_law, htf.map (He.cT K), sp_law T, fun p hp => ?_, fun p hp => ?_, fun p hp => ?_, fun s v => b s [v] rfl, fun H a ns hl _ hH hS => ⟨a, ns, rfl, hS, hl, ?_, fun _ => rfl⟩, fun base _ _ TB => ok_law T ?_⟩
  · obtain ⟨q, hq, rfl⟩ := List.mem_map.mp hp
    exact cc.empty q hq
  · obtain ⟨q, hq, rfl⟩ := List.mem_map.mp hp
    exact cc.out q hq
  · obtain ⟨q, hq, rfl⟩ := List.mem_map.mp hp
    exact PySem.W.codeHd_of_K X (cc.hd q hq)
  · exact ⟨⟨#[], hH _ (List.mem_map.mpr ⟨_, List.mem_cons_self, rfl⟩), trip0⟩, trivial⟩
  · exact ⟨⟨(TB _ (List.mem_map.mpr ⟨_, List.mem_cons_self, rfl⟩)).code, (TB _ (List.mem_map.mpr ⟨_, List.mem_cons_self, rfl⟩)).bm, (TB _ (List.mem_map.mpr ⟨_, List.mem_cons_self, rfl⟩)).gP⟩⟩
end Fq
open PySem PySem.W PySem.Calls PyProof.Rows
set_option maxHeartbeats 0 in
theorem PySem.Challenge.cw_shareones_k06_leans_of_rows_holds : PySem.Challenge.rw_shareones_k06_leans_of_rows.Holds := by
  w_on; o_law
  refine HandSHeadRun.head_any (r := OpenLaw.row PySem.Challenge.rw_shareones_k06_leans_of_rows) (q := view (OpenLaw.row PySem.Challenge.rw_shareones_k06_leans_of_rows).prog [29]) (H := Fq.hk) (ob := Fq.ob) (M := 6000) (loose := Fq.loose) (d := HandSHeadRun.topDef (OpenLaw.row PySem.Challenge.rw_shareones_k06_leans_of_rows).prog 29) (kwd := []) Fq.ob_eq
    (by kernel_rfl) (fun s => by kernel_rfl) Fq.run (by kernel_rfl) (by kernel_rfl) (by kernel_rfl) (by rfl) (by first | assumption | decide +kernel) (by decide +kernel) ⟨rfl, rfl, rfl, rfl, rfl, by decide +kernel⟩ ?hw ?hc
  case hw => w_witness2
  case hc =>
    refine LamX.walk_ofTsE (l := PySem.Challenge.rw_shareones_k06_leans_of_rows) (n := 63) (k := 6) (x := "_law_script") (CX := fun _ => L2.CX0) rfl (by decide) (by kernel_rfl) ⟨rfl, by decide, by decide⟩ ?F (fun _ _ _ _ _ z => z)
    intro w mg fa h Y G hmg0
    obtain ⟨K, KX, c⟩ := Y
    have hmg : mg ("law" : PySem.Str) = some (.ref fa) := by
      have e : (HandSHeadRun.topDef (OpenLaw.row PySem.Challenge.rw_shareones_k06_leans_of_rows).prog 29).name = ("law" : PySem.Str) := by kernel_rfl
      rw [← e]
      exact hmg0
    exact ⟨K, KX, Fq.facts KX G hmg c⟩
