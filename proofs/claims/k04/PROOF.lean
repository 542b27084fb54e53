import PyProof.Rows.All
import Wide.All
import OpenK.AllK
import Wide.FinOn
import KE.KStateDown
import Lean
import HandS.ForMost
import HandS.Wide
import HandS.WideBits
import HandS.IsInst
import HandS.Walk
import HandS.Evl
import HandS.Style
import HandS.NoneIn
import HandS.Defaults
import HandS.Head0
import HandS.Head1
import HandS.Head2
import HandS.HeadEnd
import HandS.HeadHook1
import HandS.HeadHook2
import HandS.AnyAll
import HandS.Conv
import HandS.Dict
import HandS.DictComp
import HandS.EndTab
import HandS.Exc
import HandS.ExcIs
import HandS.ExcOwn
import HandS.Flow
import HandS.HeadHook3
import HandS.HeadHook4
import HandS.HeadWalk
import HandS.More
import HandS.Set
import HandS.SetBool
import HandS.SetFor
import HandS.Small
import HandS.SortInts
import HandS.SortKw
import HandS.Strs
import HandS.Style
import HandS.Text
import HandS.TryOnly
import HandS.TupAny
import HandS.TupMul
import HandS.WordsExc
import HandS.Zip
import KE.DataMinMax
import KE.GoesEnum
import KE.GoesMore
import KE.GoesSet
import KE.GoesZip
import KE.KDictWalk
import KE.KNest
import PyProof.GenCompT
import PyProof.ReprLen
import PyProof.ReprRoads
import PyProof.Rows.MatchSeqLen
import PyProof.RulesMatch
import PyProof.RulesMatchSeq
import PyProof.TupleOfGen
import PySem.Challenge.RW_shareones_k04_deeds_of_rows
set_option Elab.async false
set_option pp.maxSteps 250
set_option linter.all false
set_option maxRecDepth 100000
set_option maxHeartbeats 4000000
namespace Fq
open PySem PySem.Spec PyProof.Rows L2
section
variable {P : Program} {w : World} {K : PySem.W.Frag} {mg : Str → Option Value} {base : Heap}
def topS (i : Nat) : Stmt := PySem.Challenge.pw_shareones_k04_deeds_of_rows.main.body.getD i (.Pass ⟨0, 0, 0, 0⟩)
abbrev FnP (K : PySem.W.Frag) (x : Str) (st : Stmt) (f : Addr) (fd : FuncData) : Prop := FunD K x x (defArgs st) (defBody st) (defScope st) [] [] f fd
abbrev s_refuse_unlike : Stmt := topS 9
abbrev N_refuse_unlike : List Str := ["rows", "row"]
theorem sc_refuse_unlike : FnScope N_refuse_unlike ["rows"] (defScope s_refuse_unlike) := ⟨rfl, rfl, rfl, by decide +kernel, rfl, by decide +kernel, by decide +kernel⟩
abbrev s_turned : Stmt := topS 10
abbrev N_turned : List Str := ["row", "bit"]
theorem sc_turned : FnScope N_turned ["row"] (defScope s_turned) := ⟨rfl, rfl, rfl, by decide +kernel, rfl, by decide +kernel, by decide +kernel⟩
abbrev s_both : Stmt := topS 11
abbrev N_both : List Str := ["one", "other", "a", "b"]
theorem sc_both : FnScope N_both ["one", "other"] (defScope s_both) := ⟨rfl, rfl, rfl, by decide +kernel, rfl, by decide +kernel, by decide +kernel⟩
abbrev s_either : Stmt := topS 12
abbrev N_either : List Str := ["one", "other", "a", "b"]
theorem sc_either : FnScope N_either ["one", "other"] (defScope s_either) := ⟨rfl, rfl, rfl, by decide +kernel, rfl, by decide +kernel, by decide +kernel⟩
abbrev s_oneof : Stmt := topS 13
abbrev N_oneof : List Str := ["one", "other", "a", "b"]
theorem sc_oneof : FnScope N_oneof ["one", "other"] (defScope s_oneof) := ⟨rfl, rfl, rfl, by decide +kernel, rfl, by decide +kernel, by decide +kernel⟩
abbrev s_pick : Stmt := topS 14
abbrev N_pick : List Str := ["by", "one", "other", "bit", "a", "b"]
theorem sc_pick : FnScope N_pick ["by", "one", "other"] (defScope s_pick) := ⟨rfl, rfl, rfl, by decide +kernel, rfl, by decide +kernel, by decide +kernel⟩
abbrev s__law_box : Stmt := topS 16
abbrev N__law_box : List Str := ["_law_script", "_law_k", "_law_cell"]
theorem sc__law_box : FnScope N__law_box ["_law_script", "_law_k"] (defScope s__law_box) := ⟨rfl, rfl, rfl, by decide +kernel, rfl, by decide +kernel, by decide +kernel⟩
abbrev s__law_take : Stmt := topS 17
abbrev N__law_take : List Str := ["_law_box_here", "_law_many", "_law_found", "_law_once"]
theorem sc__law_take : FnScope N__law_take ["_law_box_here", "_law_many"] (defScope s__law_take) := ⟨rfl, rfl, rfl, by decide +kernel, rfl, by decide +kernel, by decide +kernel⟩
abbrev s__law_folded : Stmt := topS 18
abbrev N__law_folded : List Str := ["_law_script", "_law_many", "_law_cells", "_law_k", "_law_cell"]
theorem sc__law_folded : FnScope N__law_folded ["_law_script", "_law_many"] (defScope s__law_folded) := ⟨rfl, rfl, rfl, by decide +kernel, rfl, by decide +kernel, by decide +kernel⟩
abbrev s__law_row : Stmt := topS 19
abbrev N__law_row : List Str := ["_law_box_here", "_law_long_here", "_law_way", "_law_at", "_law_bit", "_law_every", "_law_first", "_law_place"]
theorem sc__law_row : FnScope N__law_row ["_law_box_here", "_law_long_here"] (defScope s__law_row) := ⟨rfl, rfl, rfl, by decide +kernel, rfl, by decide +kernel, by decide +kernel⟩
abbrev s__law_long : Stmt := topS 20
abbrev N__law_long : List Str := ["_law_box_here"]
theorem sc__law_long : FnScope N__law_long ["_law_box_here"] (defScope s__law_long) := ⟨rfl, rfl, rfl, by decide +kernel, rfl, by decide +kernel, by decide +kernel⟩
abbrev s__law_same : Stmt := topS 21
abbrev N__law_same : List Str := ["_law_found", "_law_due_here", "_law_one", "_law_other"]
theorem sc__law_same : FnScope N__law_same ["_law_found", "_law_due_here"] (defScope s__law_same) := ⟨rfl, rfl, rfl, by decide +kernel, rfl, by decide +kernel, by decide +kernel⟩
abbrev s__law_done : Stmt := topS 22
abbrev N__law_done : List Str := ["_law_word", "_law_rows", "_law_found", "_law_caught", "error", "_law_others"]
theorem sc__law_done : FnScope N__law_done ["_law_word", "_law_rows"] (defScope s__law_done) := ⟨rfl, rfl, rfl, by decide +kernel, rfl, by decide +kernel, by decide +kernel⟩
abbrev s__law_due : Stmt := topS 23
abbrev N__law_due : List Str := ["_law_word", "_law_rows", "_law_some", "_law_table", "_law_found", "_law_place", "_law_bits", "_law_row_here"]
theorem sc__law_due : FnScope N__law_due ["_law_word", "_law_rows"] (defScope s__law_due) := ⟨rfl, rfl, rfl, by decide +kernel, rfl, by decide +kernel, by decide +kernel⟩
abbrev s_law : Stmt := topS 24
abbrev N_law : List Str := ["_law_script", "_law_cells", "_law_k", "_law_box_here", "_law_great", "_law_long_here", "_law_rows", "_law_a", "_law_b", "_law_three", "_law_word", "_law_found", "_law_turn", "_law_bit"]
theorem sc_law : FnScope N_law ["_law_script"] (defScope s_law) := ⟨rfl, rfl, rfl, by decide +kernel, rfl, by decide +kernel, by decide +kernel⟩
/-- the code object of the def at f is the one at c -/
def CodeAt (K : PySem.W.Frag) (f c : Addr) : Prop := ∀ (oc : Value) (od : Option Addr) (fd : FuncData) (osl : Array (Option Value)), K.lookup f = some ⟨oc, od, .func fd, osl⟩ → ∀ b, fd.code = .ref b → b = c
theorem okC {P : Program} {w : World} {K : PySem.W.Frag} {mg : Str → Option Value} {base : Heap} {x : Str} {st : Stmt} {f c : Addr} {fd : FuncData} {N ps : List Str} {k : Nat} {sp : Sp} (F : FnP K x st f fd) (hc : CodeAt K f c) (S : FnScope N ps (defScope st)) (len : ∀ vs H Q E, sp vs H Q E → vs.length = ps.length)
    (hb : ∀ (A : Around) (outer : List Env) (s : Shared) (H : Hp) (vs : List V) (Q : VK) (E : XK), Room k (A.deeper (envOfC x (defScope st) s.heap.objs.size f (.ref c))) → sp vs H Q E →
      ∃ t, PSs (cxOf CX0 P w K mg base N x (defScope st) f (.ref c) A outer s H E) (defBody st) t ∧ t { nx := fun _ H' => Q .non H', rt := Q } (L2.start N vs) H) : FnOk P w K mg base CX0 (k + 1) f fd ps sp := by
  obtain ⟨oc, od, dV, kV, doc, pm, an, cdv, ct, osl, rfl, lk, hcd, _, _⟩ := F.ex
  obtain ⟨b, rfl⟩ := He.codeIn_ref hcd
  have e := hc oc od _ osl lk b rfl
  subst e
  exact fn_of lk hcd S len hb
theorem okX {P : Program} {w : World} {K : PySem.W.Frag} {mg : Str → Option Value} {base : Heap} {x : Str} {st : Stmt} {f : Addr} {fd : FuncData} {N ps : List Str} {k : Nat} {sp : Sp} (F : FnP K x st f fd) (S : FnScope N ps (defScope st)) (len : ∀ vs H Q E, sp vs H Q E → vs.length = ps.length)
    (hb : ∀ (cdv : Value) (A : Around) (outer : List Env) (s : Shared) (H : Hp) (vs : List V) (Q : VK) (E : XK), Room k (A.deeper (envOfC x (defScope st) s.heap.objs.size f cdv)) → sp vs H Q E →
      ∃ t, PSs (cxOf (L2.CX P w) P w K mg base N x (defScope st) f cdv A outer s H E) (defBody st) t ∧ t { nx := fun _ H' => Q .non H', rt := Q } (L2.start N vs) H) : FnOk P w K mg base (L2.CX P w) (k + 1) f fd ps sp := by
  obtain ⟨oc, od, dV, kV, doc, pm, an, cdv, ct, osl, rfl, lk, hcd, _, _⟩ := F.ex
  exact fn_of lk hcd S len fun A outer s H vs Q E hr h => hb cdv A outer s H vs Q E hr h
theorem okXC {P : Program} {w : World} {K : PySem.W.Frag} {mg : Str → Option Value} {base : Heap} {x : Str} {st : Stmt} {f c : Addr} {fd : FuncData} {N ps : List Str} {k : Nat} {sp : Sp} (F : FnP K x st f fd) (hc : CodeAt K f c) (S : FnScope N ps (defScope st)) (len : ∀ vs H Q E, sp vs H Q E → vs.length = ps.length)
    (hb : ∀ (A : Around) (outer : List Env) (s : Shared) (H : Hp) (vs : List V) (Q : VK) (E : XK), Room k (A.deeper (envOfC x (defScope st) s.heap.objs.size f (.ref c))) → sp vs H Q E →
      ∃ t, PSs (cxOf (L2.CX P w) P w K mg base N x (defScope st) f (.ref c) A outer s H E) (defBody st) t ∧ t { nx := fun _ H' => Q .non H', rt := Q } (L2.start N vs) H) : FnOk P w K mg base (L2.CX P w) (k + 1) f fd ps sp := by
  obtain ⟨oc, od, dV, kV, doc, pm, an, cdv, ct, osl, rfl, lk, hcd, _, _⟩ := F.ex
  obtain ⟨b, rfl⟩ := He.codeIn_ref hcd
  have e := hc oc od _ osl lk b rfl
  subst e
  exact fn_of lk hcd S len hb
structure Defs (K : PySem.W.Frag) (mg : Str → Option Value) where
  f_refuse_unlike : Addr
  fd_refuse_unlike : FuncData
  F_refuse_unlike : FnP K "refuse_unlike" s_refuse_unlike f_refuse_unlike fd_refuse_unlike
  g_refuse_unlike : mg "refuse_unlike" = some (.ref f_refuse_unlike)
  b_refuse_unlike : Binds K fd_refuse_unlike ["rows"] []
  f_turned : Addr
  fd_turned : FuncData
  F_turned : FnP K "turned" s_turned f_turned fd_turned
  g_turned : mg "turned" = some (.ref f_turned)
  b_turned : Binds K fd_turned ["row"] []
  f_both : Addr
  fd_both : FuncData
  F_both : FnP K "both" s_both f_both fd_both
  g_both : mg "both" = some (.ref f_both)
  b_both : Binds K fd_both ["one", "other"] []
  f_either : Addr
  fd_either : FuncData
  F_either : FnP K "either" s_either f_either fd_either
  g_either : mg "either" = some (.ref f_either)
  b_either : Binds K fd_either ["one", "other"] []
  f_oneof : Addr
  fd_oneof : FuncData
  F_oneof : FnP K "oneof" s_oneof f_oneof fd_oneof
  g_oneof : mg "oneof" = some (.ref f_oneof)
  b_oneof : Binds K fd_oneof ["one", "other"] []
  f_pick : Addr
  fd_pick : FuncData
  F_pick : FnP K "pick" s_pick f_pick fd_pick
  g_pick : mg "pick" = some (.ref f_pick)
  b_pick : Binds K fd_pick ["by", "one", "other"] []
  f__law_box : Addr
  fd__law_box : FuncData
  F__law_box : FnP K "_law_box" s__law_box f__law_box fd__law_box
  g__law_box : mg "_law_box" = some (.ref f__law_box)
  b__law_box : Binds K fd__law_box ["_law_script", "_law_k"] []
  f__law_take : Addr
  fd__law_take : FuncData
  F__law_take : FnP K "_law_take" s__law_take f__law_take fd__law_take
  g__law_take : mg "_law_take" = some (.ref f__law_take)
  b__law_take : Binds K fd__law_take ["_law_box_here", "_law_many"] []
  f__law_folded : Addr
  fd__law_folded : FuncData
  F__law_folded : FnP K "_law_folded" s__law_folded f__law_folded fd__law_folded
  g__law_folded : mg "_law_folded" = some (.ref f__law_folded)
  b__law_folded : Binds K fd__law_folded ["_law_script", "_law_many"] []
  f__law_row : Addr
  fd__law_row : FuncData
  F__law_row : FnP K "_law_row" s__law_row f__law_row fd__law_row
  g__law_row : mg "_law_row" = some (.ref f__law_row)
  b__law_row : Binds K fd__law_row ["_law_box_here", "_law_long_here"] []
  f__law_long : Addr
  fd__law_long : FuncData
  F__law_long : FnP K "_law_long" s__law_long f__law_long fd__law_long
  g__law_long : mg "_law_long" = some (.ref f__law_long)
  b__law_long : Binds K fd__law_long ["_law_box_here"] []
  f__law_same : Addr
  fd__law_same : FuncData
  F__law_same : FnP K "_law_same" s__law_same f__law_same fd__law_same
  g__law_same : mg "_law_same" = some (.ref f__law_same)
  b__law_same : Binds K fd__law_same ["_law_found", "_law_due_here"] []
  f__law_done : Addr
  fd__law_done : FuncData
  F__law_done : FnP K "_law_done" s__law_done f__law_done fd__law_done
  g__law_done : mg "_law_done" = some (.ref f__law_done)
  b__law_done : Binds K fd__law_done ["_law_word", "_law_rows"] []
  f__law_due : Addr
  fd__law_due : FuncData
  F__law_due : FnP K "_law_due" s__law_due f__law_due fd__law_due
  g__law_due : mg "_law_due" = some (.ref f__law_due)
  b__law_due : Binds K fd__law_due ["_law_word", "_law_rows"] []
  f_law : Addr
  fd_law : FuncData
  F_law : FnP K "law" s_law f_law fd_law
  g_law : mg "law" = some (.ref f_law)
  b_law : Binds K fd_law ["_law_script"] []
  c_turned : Addr
  P_turned : Addr
  k_turned : CodeAt K f_turned c_turned
  c_both : Addr
  P_both : Addr
  k_both : CodeAt K f_both c_both
  c_either : Addr
  P_either : Addr
  k_either : CodeAt K f_either c_either
  c_oneof : Addr
  P_oneof : Addr
  k_oneof : CodeAt K f_oneof c_oneof
  c_pick : Addr
  P_pick : Addr
  k_pick : CodeAt K f_pick c_pick
  C_OnesError : Addr
  g_OnesError : mg "OnesError" = some (.ref C_OnesError)
  C_Unlike : Addr
  g_Unlike : mg "Unlike" = some (.ref C_Unlike)
  C_NoSuch : Addr
  g_NoSuch : mg "NoSuch" = some (.ref C_NoSuch)
  C_NoOne : Addr
  g_NoOne : mg "NoOne" = some (.ref C_NoOne)
  C_NoRound : Addr
  g_NoRound : mg "NoRound" = some (.ref C_NoRound)
  C_BadText : Addr
  g_BadText : mg "BadText" = some (.ref C_BadText)
  C_BadSheet : Addr
  g_BadSheet : mg "BadSheet" = some (.ref C_BadSheet)
  xi_Unlike : PySem.W.excIn K C_Unlike He.veBase "ValueError.__new__" = true
  xk_Unlike : PySem.W.keepIn K (.ref C_Unlike) = true
  xs_Unlike : PySem.W.subIn K (.ref C_Unlike) (.type "BaseException") = some true
  xt_Unlike : PySem.W.typeIn K (.ref C_Unlike) = some (.type "type")
  xc_Unlike : ExcC K C_Unlike
  xm_Unlike : PySem.W.exmOne K (.ref C_Unlike) (.ref C_OnesError) = some true
  xo_Unlike_OnesError : PySem.W.kitOne K (.ref C_Unlike) (.ref C_OnesError) = some true
  xo_Unlike_Unlike : PySem.W.kitOne K (.ref C_Unlike) (.ref C_Unlike) = some true
  xo_Unlike_NoSuch : PySem.W.kitOne K (.ref C_Unlike) (.ref C_NoSuch) = some false
  xo_Unlike_NoOne : PySem.W.kitOne K (.ref C_Unlike) (.ref C_NoOne) = some false
  xo_Unlike_NoRound : PySem.W.kitOne K (.ref C_Unlike) (.ref C_NoRound) = some false
  xo_Unlike_BadText : PySem.W.kitOne K (.ref C_Unlike) (.ref C_BadText) = some false
  xo_Unlike_BadSheet : PySem.W.kitOne K (.ref C_Unlike) (.ref C_BadSheet) = some false
  xv_Unlike : PySem.W.kitOne K (.ref C_Unlike) (.type "ValueError") = some true
  m_ValueError : mg "ValueError" = none
  m_abs : mg "abs" = none
  m_all : mg "all" = none
  m_bool : mg "bool" = none
  m_divmod : mg "divmod" = none
  m_enumerate : mg "enumerate" = none
  m_int : mg "int" = none
  m_isinstance : mg "isinstance" = none
  m_len : mg "len" = none
  m_list : mg "list" = none
  m_max : mg "max" = none
  m_min : mg "min" = none
  m_range : mg "range" = none
  m_set : mg "set" = none
  m_str : mg "str" = none
  m_tuple : mg "tuple" = none
  m_zip : mg "zip" = none
structure Tabs {K : PySem.W.Frag} {mg : Str → Option Value} (T : Defs K mg) (base : Heap) : Prop where
  t_turned : GxR.TabB base mg T.c_turned T.P_turned
  t_both : GxR.TabB base mg T.c_both T.P_both
  t_either : GxR.TabB base mg T.c_either T.P_either
  t_oneof : GxR.TabB base mg T.c_oneof T.P_oneof
  t_pick : GxR.TabB base mg T.c_pick T.P_pick
theorem bt_ValueError : bootBuiltins "ValueError" = some (.type "ValueError") := by decide +kernel
theorem bt_abs : bootBuiltins "abs" = some (.builtin "abs") := by decide +kernel
theorem bt_all : bootBuiltins "all" = some (.builtin "all") := by decide +kernel
theorem bt_bool : bootBuiltins "bool" = some (.type "bool") := by decide +kernel
theorem bt_divmod : bootBuiltins "divmod" = some (.builtin "divmod") := by decide +kernel
theorem bt_enumerate : bootBuiltins "enumerate" = some (.type "enumerate") := by decide +kernel
theorem bt_int : bootBuiltins "int" = some (.type "int") := by decide +kernel
theorem bt_isinstance : bootBuiltins "isinstance" = some (.builtin "isinstance") := by decide +kernel
theorem bt_len : bootBuiltins "len" = some (.builtin "len") := by decide +kernel
theorem bt_list : bootBuiltins "list" = some (.type "list") := by decide +kernel
theorem bt_max : bootBuiltins "max" = some (.builtin "max") := by decide +kernel
theorem bt_min : bootBuiltins "min" = some (.builtin "min") := by decide +kernel
theorem bt_range : bootBuiltins "range" = some (.type "range") := by decide +kernel
theorem bt_set : bootBuiltins "set" = some (.type "set") := by decide +kernel
theorem bt_str : bootBuiltins "str" = some (.type "str") := by decide +kernel
theorem bt_tuple : bootBuiltins "tuple" = some (.type "tuple") := by decide +kernel
theorem bt_zip : bootBuiltins "zip" = some (.type "zip") := by decide +kernel
def frT (t b : Int) : Int := (b.sign * t) / (Int.gcd t b : Int)
def frB (t b : Int) : Int := (b.natAbs : Int) / (Int.gcd t b : Int)
theorem fr_ex (t : Int) {b : Int} (hb : b ≠ 0) : ∃ (g : Nat) (x y : Int), 0 < g ∧ Int.gcd t b = g ∧ t = (g : Int) * x ∧ b = (g : Int) * y ∧ y ≠ 0 ∧ Int.gcd x y = 1 := by
  have hg : 0 < Int.gcd t b := Int.gcd_pos_of_ne_zero_right t hb
  obtain ⟨x, hx⟩ := Int.gcd_dvd_left t b
  obtain ⟨y, hy⟩ := Int.gcd_dvd_right t b
  refine ⟨Int.gcd t b, x, y, hg, rfl, hx, hy, fun e => hb (by rw [hy, e, Int.mul_zero]), ?_⟩
  generalize eg : Int.gcd t b = g at hg hx hy
  have e : g = g * Int.gcd x y := by
    rw [← eg]
    conv => lhs; rw [hx, hy, Int.gcd_mul_left]
    rw [Int.natAbs_natCast, eg]
  exact Nat.eq_of_mul_eq_mul_left hg (by rw [← e, Nat.mul_one])
theorem sgn {b : Int} {g : Nat} {y : Int} (hg : 0 < g) (hb : b = (g : Int) * y) : b.sign = y.sign := by
  rw [hb, Int.sign_mul, Int.sign_eq_one_of_pos (by omega), Int.one_mul]
theorem fr_vals {t b : Int} {g : Nat} {x y : Int} (hg : 0 < g) (eg : Int.gcd t b = g) (ht : t = (g : Int) * x) (hb : b = (g : Int) * y) : frT t b = y.sign * x ∧ frB t b = (y.natAbs : Int) := by
  have g0 : (g : Int) ≠ 0 := by omega
  constructor
  · unfold frT
    rw [eg, sgn hg hb, ht, show y.sign * ((g : Int) * x) = (g : Int) * (y.sign * x) by rw [Int.mul_left_comm]]
    exact Int.mul_ediv_cancel_left _ g0
  · unfold frB
    rw [eg, hb, Int.natAbs_mul, Int.natAbs_natCast, Int.natCast_mul]
    exact Int.mul_ediv_cancel_left _ g0
theorem sgn_abs {y : Int} (hy : y ≠ 0) : y.sign.natAbs = 1 := Int.natAbs_sign_of_ne_zero hy
theorem fr_pos (t : Int) {b : Int} (hb : b ≠ 0) : 0 < frB t b := by
  obtain ⟨g, x, y, hg, eg, ht, hy, hy0, h1⟩ := fr_ex t hb
  rw [(fr_vals hg eg ht hy).2]
  omega
theorem fr_gcd (t : Int) {b : Int} (hb : b ≠ 0) : Int.gcd (frT t b) (frB t b) = 1 := by
  obtain ⟨g, x, y, hg, eg, ht, hy, hy0, h1⟩ := fr_ex t hb
  rw [(fr_vals hg eg ht hy).1, (fr_vals hg eg ht hy).2]
  show Nat.gcd (y.sign * x).natAbs ((y.natAbs : Int)).natAbs = 1
  rw [Int.natAbs_mul, sgn_abs hy0, Nat.one_mul, Int.natAbs_natCast]
  exact h1
theorem fr_eq (t : Int) {b : Int} (hb : b ≠ 0) : frT t b * b = t * frB t b := by
  obtain ⟨g, x, y, hg, eg, ht, hy, hy0, h1⟩ := fr_ex t hb
  rw [(fr_vals hg eg ht hy).1, (fr_vals hg eg ht hy).2]
  rw [ht, hy]
  have e : y * y.sign = (y.natAbs : Int) := Int.mul_sign_self y
  rw [← e]
  simp only [Int.mul_comm, Int.mul_left_comm, Int.mul_assoc]
theorem fr_absT (t : Int) {b : Int} (hb : b ≠ 0) : (frT t b).natAbs ≤ t.natAbs := by
  obtain ⟨g, x, y, hg, eg, ht, hy, hy0, h1⟩ := fr_ex t hb
  rw [(fr_vals hg eg ht hy).1, ht, Int.natAbs_mul, sgn_abs hy0, Nat.one_mul, Int.natAbs_mul, Int.natAbs_natCast]
  exact Nat.le_mul_of_pos_left _ hg
theorem fr_absB (t : Int) {b : Int} (hb : b ≠ 0) : (frB t b).natAbs ≤ b.natAbs := by
  obtain ⟨g, x, y, hg, eg, ht, hy, hy0, h1⟩ := fr_ex t hb
  rw [(fr_vals hg eg ht hy).2, hy, Int.natAbs_mul, Int.natAbs_natCast, Int.natAbs_natCast]
  exact Nat.le_mul_of_pos_left _ hg
theorem fr_negT (t b : Int) : frT (-t) (-b) = frT t b := by
  unfold frT
  rw [Int.sign_neg, Int.neg_mul_neg, Int.gcd_neg, Int.neg_gcd]
theorem fr_negB (t b : Int) : frB (-t) (-b) = frB t b := by
  unfold frB
  rw [Int.natAbs_neg, Int.gcd_neg, Int.neg_gcd]
/-- what the program's two ways reckon -/
theorem fd_pos {g : Nat} {x : Int} (hg : 0 < g) : ((g : Int) * x).fdiv (g : Int) = x := by
  rw [Int.fdiv_eq_ediv_of_nonneg _ (by omega)]
  exact Int.mul_ediv_cancel_left _ (by omega)
theorem fd_neg {g : Nat} {x : Int} (hg : 0 < g) : ((g : Int) * x).fdiv (-(g : Int)) = -x := by
  rw [show (g : Int) * x = -(g : Int) * (-x) by rw [Int.neg_mul_neg]]
  exact Int.mul_fdiv_cancel_left _ (by omega)
theorem fr_lt (t : Int) {b : Int} (hb : b < 0) : t.fdiv (-(Int.gcd t b : Int)) = frT t b ∧ b.fdiv (-(Int.gcd t b : Int)) = frB t b := by
  obtain ⟨g, x, y, hg, eg, ht, hy, hy0, h1⟩ := fr_ex t (show b ≠ 0 by omega)
  rw [(fr_vals hg eg ht hy).1, (fr_vals hg eg ht hy).2, eg]
  have yn : y < 0 := by
    rw [hy] at hb
    exact Int.neg_of_mul_neg_right hb (by omega)
  constructor
  · conv => lhs; rw [ht]
    rw [fd_neg hg, Int.sign_eq_neg_one_of_neg yn]
    omega
  · conv => lhs; rw [hy]
    rw [fd_neg hg]
    omega
theorem fr_ge (t : Int) {b : Int} (hb : 0 < b) : t.fdiv (Int.gcd t b : Int) = frT t b ∧ b.fdiv (Int.gcd t b : Int) = frB t b := by
  obtain ⟨g, x, y, hg, eg, ht, hy, hy0, h1⟩ := fr_ex t (show b ≠ 0 by omega)
  rw [(fr_vals hg eg ht hy).1, (fr_vals hg eg ht hy).2, eg]
  have yn : 0 < y := by
    rw [hy] at hb
    exact Int.pos_of_mul_pos_right hb (by omega)
  constructor
  · conv => lhs; rw [ht]
    rw [fd_pos hg, Int.sign_eq_one_of_pos yn]
    omega
  · conv => lhs; rw [hy]
    rw [fd_pos hg]
    omega
/-! sizes -/
def S (n : Nat) (x : Int) : Prop := x.natAbs < 2 ^ n
theorem S.mono {n m : Nat} {x : Int} (h : S n x) (l : n ≤ m) : S m x := Nat.lt_of_lt_of_le h (Nat.pow_le_pow_right (by decide) l)
theorem S.mul {n m : Nat} {x y : Int} (h : S n x) (k : S m y) : S (n + m) (x * y) := by
  unfold S at *
  rw [Int.natAbs_mul, Nat.pow_add]
  exact Nat.mul_lt_mul'' h k
theorem S.add {n : Nat} {x y : Int} (h : S n x) (k : S n y) : S (n + 1) (x + y) := by
  unfold S at *
  rw [Nat.pow_succ]
  omega
theorem S.sub {n : Nat} {x y : Int} (h : S n x) (k : S n y) : S (n + 1) (x - y) := by
  unfold S at *
  rw [Nat.pow_succ]
  omega
theorem S.frT {n : Nat} {t b : Int} (h : S n t) (hb : b ≠ 0) : S n (frT t b) := Nat.lt_of_le_of_lt (fr_absT t hb) h
theorem S.frB {n : Nat} {t b : Int} (h : S n b) (hb : b ≠ 0) : S n (frB t b) := Nat.lt_of_le_of_lt (fr_absB t hb) h
theorem abs_eq (i : Int) : (if i < 0 then -i else i) = (i.natAbs : Int) := by
  split <;> omega
/-! the same rules with the written part by its name: for the inside of comprehensions -/
theorem pg_tupK {X : Cx} {K : PySem.W.Frag} {es : List Expr} {k n : Nat} {pos : Pos} {t : TGs} (h : X.K = K) (hc : X.calm = true) (hg : PGs X es t) (hn : (assignEach es X.env).length = n := by rfl) (hst : (assignEach es X.env).findIdx? (·.1) = none := by rfl) : PG X (.Tuple es k pos) (gTup K n t) := by
  subst h
  exact pg_tup hc hg hn hst
theorem isiK {X : Cx} {K : PySem.W.Frag} (h : X.K = K) : CallR X (.builtin "isinstance") (rIsi K) := by
  subst h
  exact call_isi
theorem ixlK {X : Cx} {K : PySem.W.Frag} (h : X.K = K) : IxR X (rIxL K) := by
  subst h
  exact ix_list
theorem ixtK {X : Cx} {K : PySem.W.Frag} (h : X.K = K) : IxR X (rIxT K) := by
  subst h
  exact ix_tup
theorem lenK {X : Cx} {K : PySem.W.Frag} (h : X.K = K) : CallR X (.builtin "len") (fun xs H Q => ∃ p ys, xs = [.ref p] ∧ (SqL K H p ys ∨ SqT K H p ys) ∧ Q (.int ys.length) H) := by
  subst h
  exact call_len_seq
theorem sumK {X : Cx} {K : PySem.W.Frag} (h : X.K = K) (hc : X.calm = true) : CallR X (.builtin "sum") (rSum K) := by
  subst h
  exact cr_sum hc
theorem yes_ite {σ : L2.St} {H : Hp} {A B : Hp → Prop} (h : A H) : tYes σ H (fun b H3 => if b = true then A H3 else B H3) := by
  show if true = true then A H else B H
  rw [if_pos rfl]
  exact h
/-! heaps -/
theorem same_upd {H : Hp} {p : Addr} {o : HO} (h : H p = none) : Same H (upd H p o) := fun b x e => by
  rw [upd_ne (ne_of_none e h)]
  exact e
def But (p : Addr) (H H' : Hp) : Prop := ∀ b o, b ≠ p → H b = some o → H' b = some o
theorem But.trans {p : Addr} {H H1 H2 : Hp} (a : But p H H1) (b : But p H1 H2) : But p H H2 := fun c o n e => b c o n (a c o n e)
theorem But.refl (p : Addr) (H : Hp) : But p H H := fun _ _ _ e => e
theorem But.put {p : Addr} {H H' : Hp} {o : HO} (a : But p H H') : But p H (L2.upd H' p o) := fun c x n e => by
  rw [upd_ne n]
  exact a c x n e
theorem same_but {p : Addr} {H H' : Hp} (a : Same H H') : But p H H' := fun c x _ e => a c x e
theorem But.new {p q : Addr} {H H' : Hp} {o : HO} (a : But p H H') (n : H' q = none) : But p H (upd H' q o) := fun c x hn e => by
  have e2 := a c x hn e
  rw [upd_ne (ne_of_none e2 n)]
  exact e2
/-- objects made since H may change: what H has stays -/
theorem same_newer {H H' : Hp} {q : Addr} {o : HO} (a : Same H H') (n : H q = none) : Same H (upd H' q o) := fun c x e => by
  rw [upd_ne (ne_of_none e n)]
  exact a c x e
theorem But.same {p : Addr} {H H1 H2 : Hp} (n : H p = none) (a : Same H H1) (b : But p H1 H2) : Same H H2 := fun c x e =>
  b c x (ne_of_none e n) (a c x e)
/-- the box: a rest, a begin, how often -/
def Bx (H : Hp) (p : Addr) (n : Nat) : Prop := ∃ a b c : Int, H p = some (.lst [.int a, .int b, .int c]) ∧ 0 ≤ a ∧ 0 ≤ b ∧ b < 2147483647 ∧ 0 ≤ c ∧ c ≤ n
theorem Bx.same {H H' : Hp} {p : Addr} {n : Nat} (h : Bx H p n) (s : Same H H') : Bx H' p n := by
  obtain ⟨a, b, c, hp, r⟩ := h
  exact ⟨a, b, c, s _ _ hp, r⟩
theorem Bx.mono {H : Hp} {p : Addr} {n m : Nat} (h : Bx H p n) (l : n ≤ m) : Bx H p m := by
  obtain ⟨a, b, c, hp, h1, h2, h3, h4, h5⟩ := h
  exact ⟨a, b, c, hp, h1, h2, h3, h4, by omega⟩
theorem Bx.new {H : Hp} {p q : Addr} {n : Nat} {o : HO} (h : Bx H p n) (nq : H q = none) : Bx (L2.upd H q o) p n := h.same (same_upd nq)
theorem Bx.ne_tup {H : Hp} {p q : Addr} {n : Nat} {xs : List V} (h : Bx H p n) (e : H q = some (.tup xs)) : q ≠ p := by
  obtain ⟨a, b, c, hp, _⟩ := h
  exact ne_of e hp (fun z => by cases z)
/-- an item of a menu of numbers -/
theorem at_menu {Pr : Int → Prop} {xs : List Int} {r : Int} (h0 : 0 ≤ r) (h1 : r < xs.length) (hx : ∀ x, x ∈ xs → Pr x) : ∃ v, atI (xs.map V.int) r = some (V.int v) ∧ Pr v := by
  obtain ⟨j, rfl⟩ := Int.eq_ofNat_of_zero_le h0
  have hj : j < xs.length := by omega
  refine ⟨xs[j], atI_nat (by rw [List.getElem?_map, List.getElem?_eq_getElem hj]; rfl), hx _ (List.getElem_mem hj)⟩
theorem SqL.mk {K : PySem.W.Frag} {H : Hp} {a : Addr} {xs : List V} (h : H a = some (.lst xs)) : SqL K H a xs := .inl (.inl h)
theorem SqT.mk {K : PySem.W.Frag} {H : Hp} {a : Addr} {xs : List V} (h : H a = some (.tup xs)) : SqT K H a xs := .inl (.inl h)
theorem same_tup {K : PySem.W.Frag} {H H' : Hp} {a : Addr} {xs : List V} (e : Same H H') (h : SqT K H a xs) : SqT K H' a xs := by
  rcases h with (h | ⟨o, h⟩) | h
  · exact .inl (.inl (e _ _ h))
  · exact .inl (.inr ⟨o, e _ _ h⟩)
  · exact .inr h
theorem ixn {n j : Nat} (hj : j < n) : ixN n (j : Int) = some j := by
  unfold ixN
  rw [if_pos (by omega), if_pos (by omega)]
  simp
theorem cdivP {a m : Int} (h0 : 0 < m) (h1 : m < 2 ^ 60) : CDivP a m := ⟨h0, PyProof.noPylong_of_log2 (wide_div (i := a) (b := 60) h0 (by omega) (by decide) (by decide)).2⟩
theorem i01 {c : Prop} [Decidable c] : -(2 ^ 64) < (if c then (1 : Int) else 0) ∧ (if c then (1 : Int) else 0) < 2 ^ 64 := by
  split <;> decide
theorem i01n {c : Prop} [Decidable c] : 0 ≤ (if c then (1 : Int) else 0) := by
  split <;> decide
theorem absn (i : Int) : 0 ≤ (if i < 0 then -i else i) := by
  split <;> omega
/-! the box of a cell -/
def sp__law_box (K : PySem.W.Frag) : Sp := fun vs H Q _ => ∃ (a : Addr) (ns : List Int) (k : Nat), vs = [.ref a, .int (k : Nat)] ∧ SqL K H a (ns.map V.int) ∧ k < 1000 ∧
  ∀ H' p, Same H H' → H p = none → Bx H' p 0 → Q (.ref p) H'
theorem ok__law_box (T : Defs K mg) (TT : Tabs T base) : FnOk P w K mg base CX0 1 T.f__law_box T.fd__law_box ["_law_script", "_law_k"] (sp__law_box K) := by
  refine T.F__law_box.ok sc__law_box (fun vs H Q E h => ?_) (fun cdv A outer s H vs Q E hr h => ?_)
  · obtain ⟨a, ns, k, rfl, hS, hk, q⟩ := h
    rfl
  · obtain ⟨a, ns, k, rfl, hS, hk, q⟩ := h
    refine ⟨_, PSs.nox (pss_cons (ps_set (i := 2) sc__law_box.nd rfl (.inl rfl) pe_int)
    (pss_cons (ps_if (pt_cmpR op_lt (pv 1) (pe_callB call_len_seq (by rfl) T.m_len bt_len (pa_cons (pv 0) pa_nil)) (nomark _)) (pss_one (ps_set (i := 2) sc__law_box.nd rfl (.inl rfl) (pe_ix ix_list (pv 0) (pv 1) (fun _ _ => rfl)))) pss_nil)
    (pss_one (ps_ret (pe_lst (pa_cons (pe_op op_mul (pe_callB call_abs (by rfl) T.m_abs bt_abs (pa_cons (pv 2) pa_nil)) (pe_callTy call_int1 (by rfl) T.m_int bt_int (pa_cons (pe_cmpR op_ge (pe_callB call_abs (by rfl) T.m_abs bt_abs (pa_cons (pv 2) pa_nil)) (pe_op op_pow pe_int pe_int) (nomark _)) pa_nil))) (pa_cons (pe_op op_mod (pe_op op_add (pv 2) (pe_op op_mul (pe_op op_mul pe_int (pv 1)) (pv 1))) pe_int) (pa_cons pe_int pa_nil)))))))), ?_⟩
    refine ⟨.int k, rfl, .ref a, rfl, a, _, rfl, .inl hS, _, _, rfl, rfl, _, rfl, ite2 (fun e => ?_) (fun e => ?_)⟩
    · have hl : (k : Int) < ((ns.map V.int).length : Nat) := of_decide_eq_true e
      rw [List.length_map] at hl
      have hj : k < ns.length := by omega
      refine ⟨.ref a, rfl, .int k, rfl, a, _, _, .int ns[k], rfl, rfl, hS, atI_nat (by rw [List.getElem?_map, List.getElem?_eq_getElem hj]; rfl), ?_⟩
      refine ⟨_, rfl, _, rfl, _, rfl, _, rfl, _, _, rfl, rfl, ⟨by decide, by decide, by decide⟩, _, _, rfl, rfl, .inr ⟨_, rfl, _, _, rfl, rfl, .inr i01, _, rfl, .int k, rfl, _, _, rfl, rfl, .inl ⟨by decide, by decide⟩, .int k, rfl, _, _, rfl, rfl, .inr ⟨by omega, by omega⟩, _, _, rfl, rfl, _, _, rfl, rfl, (show (0 : Int) < 2147483647 by decide), (show 3 ≤ sizeLine by decide), fun p np => ?_⟩⟩
      refine q _ p (same_upd np) np ⟨_, _, _, upd_same, ?_, Int.emod_nonneg _ (by decide), Int.emod_lt_of_pos _ (by decide), Int.le_refl 0, Int.le_refl 0⟩
      exact Int.mul_nonneg (absn _) i01n
    · refine ⟨_, rfl, _, rfl, _, rfl, _, rfl, _, _, rfl, rfl, ⟨by decide, by decide, by decide⟩, _, _, rfl, rfl, .inr ⟨_, rfl, _, _, rfl, rfl, .inr i01, _, rfl, .int k, rfl, _, _, rfl, rfl, .inl ⟨by decide, by decide⟩, .int k, rfl, _, _, rfl, rfl, .inr ⟨by omega, by omega⟩, _, _, rfl, rfl, _, _, rfl, rfl, (show (0 : Int) < 2147483647 by decide), (show 3 ≤ sizeLine by decide), fun p np => ?_⟩⟩
      refine q _ p (same_upd np) np ⟨_, _, _, upd_same, ?_, Int.emod_nonneg _ (by decide), Int.emod_lt_of_pos _ (by decide), Int.le_refl 0, Int.le_refl 0⟩
      exact Int.mul_nonneg (absn _) i01n
/-! one number taken -/
def sp__law_take (K : PySem.W.Frag) : Sp := fun vs H Q _ => ∃ (p : Addr) (m : Int) (n : Nat), vs = [.ref p, .int m] ∧ Bx H p n ∧ 0 < m ∧ m < 2 ^ 60 ∧ n < 1000000000000 ∧
  ∀ H' r, But p H H' → Bx H' p (n + 1) → 0 ≤ r → r < m → Q (.int r) H'
theorem ok__law_take (T : Defs K mg) (TT : Tabs T base) : FnOk P w K mg base CX0 1 T.f__law_take T.fd__law_take ["_law_box_here", "_law_many"] (sp__law_take K) := by
  refine T.F__law_take.ok sc__law_take (fun vs H Q E h => ?_) (fun cdv A outer s H vs Q E hr h => ?_)
  · obtain ⟨p, m, n, rfl, ⟨a, b, c, hp, ha, hb, hb2, hc, hc2⟩, h0, h1, hn, q⟩ := h
    rfl
  · obtain ⟨p, m, n, rfl, ⟨a, b, c, hp, ha, hb, hb2, hc, hc2⟩, h0, h1, hn, q⟩ := h
    refine ⟨_, PSs.nox (pss_cons (ps_if (pt_cmpR op_gt (pe_ix ix_list (pv 0) pe_int (fun _ _ => rfl)) pe_int (nomark _)) (pss_cons (ps_asg (pe_callB call_divmodW (by rfl) T.m_divmod bt_divmod (pa_cons (pe_ix ix_list (pv 0) pe_int (fun _ _ => rfl)) (pa_cons (pv 1) pa_nil))) (pg_tup rfl (pgs_cons (pg_sub (pv 0) pe_int set_list) (pgs_cons (pg_name (i := 2) sc__law_take.nd rfl (.inl rfl)) pgs_nil))))
    (pss_one (ps_ret (pv 2)))) pss_nil)
    (pss_cons (ps_asg (pe_op op_add (pe_ix ix_list (pv 0) pe_int (fun _ _ => rfl)) pe_int) (pg_sub (pv 0) pe_int set_list))
    (pss_cons (ps_set (i := 3) sc__law_take.nd rfl (.inl rfl) (pe_op op_mod (pe_op op_pow (pe_op op_add (pe_ix ix_list (pv 0) pe_int (fun _ _ => rfl)) (pe_op op_mul pe_int (pe_ix ix_list (pv 0) pe_int (fun _ _ => rfl)))) pe_int) pe_int))
    (pss_one (ps_ret (pe_op op_mod (pe_op op_fdiv (pe_op op_mod (pe_op op_add (pe_op op_mul (pv 3) pe_int) (pe_op op_mul (pe_op op_mul (pe_ix ix_list (pv 0) pe_int (fun _ _ => rfl)) (pe_ix ix_list (pv 0) pe_int (fun _ _ => rfl))) pe_int)) pe_int) pe_int) (pv 1))))))), ?_⟩
    have SQ : SqL K H p [.int a, .int b, .int c] := SqL.mk hp
    refine ⟨.ref p, rfl, p, _, 0, _, rfl, rfl, SQ, atI_nat (j := 0) rfl, _, _, rfl, rfl, _, rfl, ite2 (fun e => ?_) (fun e => ?_)⟩
    · refine ⟨.ref p, rfl, p, _, 0, _, rfl, rfl, SQ, atI_nat (j := 0) rfl, .int m, rfl, a, m, rfl, cdivP h0 h1, fun t nt => ?_⟩
      have hp1 : (upd H t (.tup [.int (a / m), .int (a % m)])) p = some (.lst [.int a, .int b, .int c]) := by
        rw [upd_ne (ne_of_none hp nt)]
        exact hp
      refine ⟨t, _, rfl, SqT.mk upd_same, rfl, _, _, rfl, .ref p, rfl, p, _, 0, 0, rfl, rfl, hp1, rfl, _, _, rfl, rfl, _, rfl, ?_⟩
      refine q _ _ ((But.refl p H).new nt).put ⟨_, _, _, upd_same, Int.ediv_nonneg ha (by omega), hb, hb2, hc, by omega⟩ (Int.emod_nonneg _ (by omega)) (Int.emod_lt_of_pos _ h0)
    · refine ⟨.ref p, rfl, p, _, 2, _, rfl, rfl, SQ, atI_nat (j := 2) rfl, _, _, rfl, rfl, .ref p, rfl, p, _, 2, 2, rfl, rfl, hp, rfl, ?_⟩
      have SQ1 : SqL K (upd H p (.lst [.int a, .int b, .int (c + 1)])) p [.int a, .int b, .int (c + 1)] := SqL.mk upd_same
      refine ⟨.ref p, rfl, p, _, 1, _, rfl, rfl, SQ1, atI_nat (j := 1) rfl, .ref p, rfl, p, _, 2, _, rfl, rfl, SQ1, atI_nat (j := 2) rfl, _, _, rfl, rfl, .inl ⟨by decide, by decide⟩, _, _, rfl, rfl, _, _, rfl, rfl, ⟨by decide, by decide, by omega⟩, _, _, rfl, rfl, (show (0 : Int) < 2147483647 by decide), ?_⟩
      refine ⟨_, rfl, _, _, rfl, rfl, .inr ⟨by decide, by decide⟩, .ref p, rfl, p, _, 2, _, rfl, rfl, SQ1, atI_nat (j := 2) rfl, .ref p, rfl, p, _, 2, _, rfl, rfl, SQ1, atI_nat (j := 2) rfl, _, _, rfl, rfl, .inl ⟨by omega, by omega⟩, _, _, rfl, rfl, .inr ⟨by decide, by decide⟩, _, _, rfl, rfl, _, _, rfl, rfl, (show (0 : Int) < 2147483629 by decide), _, _, rfl, rfl, ⟨by decide, by decide⟩, .int m, rfl, _, _, rfl, rfl, h0, ?_⟩
      refine q _ _ (But.refl p H).put ⟨_, _, _, upd_same, ha, hb, hb2, by omega, by omega⟩ (Int.emod_nonneg _ (by omega)) (Int.emod_lt_of_pos _ h0)
/-! the folded cells -/
theorem cut_take (ns : List Int) (m : Nat) : cutV (ns.map V.int) none (some (m : Int)) = (ns.take m).map V.int := by
  unfold cutV
  rw [HT.sIx_none, HT.sIx_nat, List.drop_zero, List.length_map, Nat.sub_zero, ← List.map_take]
  congr 1
  by_cases h : m ≤ ns.length
  · rw [Nat.min_eq_left h]
  · rw [Nat.min_eq_right (by omega), List.take_length, List.take_of_length_le (by omega)]
theorem cut_rest (ns : List Int) (m k : Nat) : ∃ ms : List Int, cutV (ns.map V.int) (some (m : Int)) (some (k : Int)) = ms.map V.int ∧ (0 < ms.length → m < ns.length) ∧ ms.length ≤ ns.length := by
  unfold cutV
  rw [HT.sIx_nat, HT.sIx_nat, List.length_map]
  refine ⟨(ns.drop (min m ns.length)).take (min k ns.length - min m ns.length), ?_, fun h => ?_, ?_⟩
  · rw [List.map_take, List.map_drop]
  · rw [List.length_take, List.length_drop] at h
    omega
  · rw [List.length_take, List.length_drop]
    omega
def sp__law_folded (K : PySem.W.Frag) : Sp := fun vs H Q _ => ∃ (a : Addr) (ns : List Int) (m : Nat), vs = [.ref a, .int (m : Nat)] ∧ SqL K H a (ns.map V.int) ∧ ns.length ≤ 63 ∧ 0 < m ∧ m < 64 ∧
  ∀ H' p (cs : List Int), Same H H' → H p = none → H' p = some (.lst (cs.map V.int)) → cs.length ≤ m → Q (.ref p) H'
theorem ok__law_folded (T : Defs K mg) (TT : Tabs T base) : FnOk P w K mg base CX0 1 T.f__law_folded T.fd__law_folded ["_law_script", "_law_many"] (sp__law_folded K) := by
  refine T.F__law_folded.ok sc__law_folded (fun vs H Q E h => ?_) (fun cdv A outer s H vs Q E hr h => ?_)
  · obtain ⟨a, ns, m, rfl, hS, hlen, hm, hm2, q⟩ := h
    rfl
  · obtain ⟨a, ns, m, rfl, hS, hlen, hm, hm2, q⟩ := h
    refine ⟨_, PSs.nox (pss_cons (ps_set (i := 2) sc__law_folded.nd rfl (.inl rfl) (pe_callTy call_list_of (by rfl) T.m_list bt_list (pa_cons (pe_slice sl_list (pv 0) po_none (po_some (pv 1))) pa_nil)))
    (pss_cons ((ps_for PassesOwn.never rfl (pi_enum (by rfl) T.m_enumerate (pa_cons (pe_slice sl_list (pv 0) (po_some (pv 1)) (po_some pe_int)) pa_nil)) (pg_tup rfl (pgs_cons (pg_name (i := 3) sc__law_folded.nd rfl (.inl rfl)) (pgs_cons (pg_name (i := 4) sc__law_folded.nd rfl (.inl rfl)) pgs_nil))) (pss_one (ps_asg (pe_op op_add (pe_ix ix_list (pv 2) (pe_op op_mod (pv 3) (pv 1)) (fun _ _ => rfl)) (pe_op op_mul (pv 4) (pe_op op_add (pv 3) pe_int))) (pg_sub (pv 2) (pe_op op_mod (pv 3) (pv 1)) set_list)))))
    (pss_one (ps_ret (pv 2))))), ?_⟩
    refine ⟨.ref a, rfl, .int m, rfl, m, rfl, a, _, rfl, hS, fun c nc => ?_⟩
    rw [cut_take]
    have s1 : Same H (upd H c (.lst ((ns.take m).map V.int))) := same_upd nc
    refine ⟨c, _, rfl, .inl (SqL.mk upd_same), fun l nl => ?_⟩
    have s2 := s1.trans (same_upd nl (o := .lst ((ns.take m).map V.int)))
    refine ⟨.ref a, rfl, .int m, rfl, m, rfl, 63, rfl, a, _, rfl, s2.seq hS, fun d nd => ?_⟩
    obtain ⟨ms, em, hms, hms2⟩ := cut_rest ns m 63
    rw [show (63 : Int) = ((63 : Nat) : Int) from rfl, em]
    have nl0 : H l = none := s1.free nl
    have nd0 : H d = none := s2.free nd
    have ndl : l ≠ d := fun e => by
      rw [← e, upd_same] at nd
      cases nd
    refine ⟨d, _, rfl, SqL.mk upd_same, for_it (walk_enum (xs := ms.map V.int)) (fun i σ H3 => ∃ y3 y4, ∃ cs : List Int, σ = [some (.ref a), some (.int m), some (.ref l), y3, y4] ∧ Same H H3 ∧ H3 l = some (.lst (cs.map V.int)) ∧ cs.length = (ns.take m).length ∧ H3 d = some (.lst (ms.map V.int))) ⟨none, none, ns.take m, rfl, s2.trans (same_upd nd), ?_, rfl, upd_same⟩ ?_ ?_ ?_⟩
    · rw [upd_ne ndl, upd_same]
    · rintro i σ H3 hi ⟨y3, y4, cs, rfl, s3, hl, hc, hd⟩
      exact SqL.mk hd
    · rintro i x σ H3 H4 hi ⟨y3, y4, cs, rfl, s3, hl, hc, hd⟩ ⟨t, x1, x2, rfl, nt, rfl, e1, e2⟩
      rw [List.length_map] at hi
      have lm : m < ns.length := hms (by omega)
      have lc : cs.length = m := by
        rw [hc, List.length_take]
        omega
      have ex1 : x1 = .int (i : Nat) := (Option.some.inj e1).symm
      have ex2 : x2 = .int ms[i] := by
        have e2 : (ms.map V.int)[i]? = some x2 := e2
        rw [List.getElem?_map, List.getElem?_eq_getElem hi] at e2
        exact (Option.some.inj e2).symm
      subst ex1 ex2
      have hl1 : (upd H3 t (.tup [.int (i : Nat), .int ms[i]])) l = some (.lst (cs.map V.int)) := by
        rw [upd_ne (ne_of_none hl nt)]
        exact hl
      have him : i % m < cs.length := by
        rw [lc]
        exact Nat.mod_lt _ hm
      have eim : ((i : Int) % (m : Int)) = ((i % m : Nat) : Int) := by omega
      refine ⟨t, _, rfl, SqT.mk upd_same, rfl, _, _, rfl, _, _, rfl, rfl, ?_⟩
      refine ⟨.ref l, rfl, .int (i : Nat), rfl, .int m, rfl, _, _, rfl, rfl, (show (0 : Int) < (m : Int) by omega), l, _, _, .int cs[i % m], rfl, rfl, SqL.mk hl1, ?_, .int ms[i], rfl, .int (i : Nat), rfl, _, _, rfl, rfl, _, _, rfl, rfl, .inr ⟨by omega, by omega⟩, _, _, rfl, rfl, .ref l, rfl, .int (i : Nat), rfl, .int m, rfl, _, _, rfl, rfl, (show (0 : Int) < (m : Int) by omega), l, _, _, i % m, rfl, rfl, hl1, ?_, ?_⟩
      · rw [eim]
        exact atI_nat (by rw [List.getElem?_map, List.getElem?_eq_getElem him]; rfl)
      · rw [eim]
        exact ixn (by rw [List.length_map]; exact him)
      · refine ⟨_, _, cs.set (i % m) (cs[i % m] + ms[i] * ((i : Int) + 2)), rfl, same_newer (s3.trans (same_upd nt)) nl0, ?_, by rw [List.length_set, hc], ?_⟩
        · rw [upd_same, List.map_set]
        · rw [upd_ne ndl.symm, upd_ne (ne_of_none hd nt)]
          exact hd
    · rintro σ H3 ⟨y3, y4, cs, rfl, s3, hl, hc, hd⟩
      exact ⟨.ref l, rfl, q H3 l cs s3 nl0 hl (by rw [hc, List.length_take]; omega)⟩
/-! generator expressions: the walked thing, the element, the generator at hand -/
def SrcOk (X : Cx) (P : Addr) (s1 : Shared) (xv : Value) (n : Nat) (Pf : Nat → Value → Prop) : Prop :=
  ∃ (o : Obj) (aux : List Addr) (Z : Nat → Heap → Prop),
    (∀ Q : Value → Shared → Prop, Q (.ref s1.heap.objs.size) { s1 with heap := s1.heap.push o } → wpAny (model X.prog X.w) X.A (pyIter xv) Q X.xe s1) ∧
    (∀ b ∈ aux, b < s1.heap.objs.size ∧ b ≠ P) ∧
    (∀ B : Around, B.handled = none → Walks X.prog X.w B s1.heap.objs.size (s1.heap.objs.size :: aux) [s1.heap.objs.size] n Pf Z) ∧ Z 0 (s1.heap.push o)
def EltOk (X : Cx) (P : Addr) (scope : Scope) (x : Str) (elt : Expr) (s1 : Shared) (Pf F : Nat → Value → Prop) : Prop :=
  ∀ (cenv : Env) (B : Around) (E2 : Value → Shared → Prop) (i : Nat) (v : Value) (s2 : Shared) (m2 : Str → Option Value), cenv.scope = scope → cenv.cells = cloFrom X.env.cells scope.names [] → cenv.globals = X.env.globals → cenv.builtins = builtinsNs →
    B.handled = none → Pf i v → s2.heap.Ns cenv.locals m2 → m2 x = some v → (∀ b o, b ≠ P → s1.heap.get? b = some o → s2.heap.get? b = some o) →
    wpAny (model X.prog X.w) B (eval elt cenv) (fun y s3 => F i y ∧ Keeps s2 s3) E2 s2
def AtHand (X : Cx) (pins : List (Addr × Obj)) (σ : L2.St) (H1 : Hp) (P : Addr) (n : Nat) (F : Nat → Value → Prop) (g : Addr) (s5 : Shared) : Prop :=
  ∃ (fp wr : List Addr) (G : Array GenState → Array GenState → Prop) (F' : Nat → Value → Prop) (Z : Nat → Shared → Prop),
    WalksS X.prog X.w X.A.in4 g fp wr G n F' Z ∧ (∀ j v, F' j v → F j v) ∧ Z 0 s5 ∧ (∀ b ∈ fp, b < s5.heap.objs.size) ∧ g ∈ fp ∧ (∀ i s9, Z i s9 → s9.TypeIs (.ref g) "generator") ∧
    ∀ s', Moved wr G s5 s' → ∃ H2, GxR.Tabbed P H1 H2 ∧ Inv X pins σ H2 s'
theorem gen_one {X : Cx} {pins : List (Addr × Obj)} {σ : L2.St} {s : Shared} {c P : Addr} {elt iter : Expr} {x : Str} {px gpos : Pos} {scope : Scope} {k : Nat} {W : Value → Shared → Prop}
    (hr : Room k X.A) (TB : GxR.TabB X.base X.mg c P) (hcode : X.env.code = .ref c) (S : GxR.GenS X.env scope x) (hs : ∀ v, genFold iter X.env v = pure v)
    (h : wpAny (model X.prog X.w) X.A (eval iter X.env) (fun xv s1 => ∃ (H1 : Hp) (ps : Array Value) (n : Nat) (Pf F : Nat → Value → Prop), Inv X pins σ H1 s1 ∧ H1 P = some (.tbl ps) ∧ TriplesOk ps.toList ∧ SrcOk X P s1 xv n Pf ∧
      EltOk X P scope x elt s1 Pf F ∧ ∀ g s5, AtHand X pins σ H1 P n F g s5 → W (.ref g) s5) X.xe s) :
    wpAny (model X.prog X.w) X.A (eval (.GeneratorExp elt [⟨.Name x px, iter, [], 0⟩] scope gpos) X.env) W X.xe s := by
  have deep := hr.dp
  refine wpAny_GeneratorExp_walksQ hr.hd S.co (closure_ok S.free) S.cell S.dot S.loc S.kind (by omega) (wpAny_mono h (fun xv s1 z => ?_) fun _ _ e => e) hs
  obtain ⟨H1, ps, n, Pf, F, J1, hP, trip, ⟨o, aux, Z, go, hau, wk, z0⟩, hel, fin⟩ := z
  refine go _ ?_
  have hPs : s1.heap.get? P = some { cls := .none, data := .fields ps } := J1.hok P _ hP
  have ltP : P < s1.heap.objs.size := Heap.lt_size hPs
  have hP2 : (s1.heap.push o).get? P = some { cls := .none, data := .fields ps } := Heap.get?_push_of_some _ hPs
  have cd : PySem.W.CodeHd (s1.heap.push o) c P := TB.code.keeps fun b u e => Heap.get?_push_of_some _ (J1.bk b u e)
  have lim : (s1.heap.push o).NoLimit := J1.nolimit.push o
  have szp : (s1.heap.push o).objs.size = s1.heap.objs.size + 1 := Heap.size_push ..
  have go2 : ∀ (code : Value) (h3 : Heap) (tk : Nat) (more : Array Value), Heap.ExtBut P (s1.heap.push o) h3 → (s1.heap.push o).objs.size ≤ h3.objs.size → h3.get? P = some { cls := .none, data := .fields (ps ++ more) } → TriplesOk (ps ++ more).toList →
      wpAny (model X.prog X.w) X.A (builtinsFor X.env.globals X.env.builtins) (fun bi s4 =>
        ∃ I0 fp wr n0 Pf0 Z0 pz F0, Value.ref s1.heap.objs.size = .ref I0 ∧ (∀ B : Around, B.handled = none → Walks X.prog X.w B I0 fp wr n0 Pf0 Z0) ∧ Z0 0 s4.heap ∧ (∀ b ∈ fp, b < s4.heap.objs.size) ∧ s4.heap.NoLimit ∧ cStatics ∉ wr ∧
          (∀ hq : Heap, (∀ b o, s4.heap.get? b = some o → hq.get? b = some o) →
            QuietGen X.prog X.w (genEnv scope (cloFrom X.env.cells scope.names []) s4.heap.objs.size code bi X.env) x [] elt (List.range s4.heap.objs.size) wr Pf0 pz F0 hq) ∧
          (∀ g h5 tk5 gs, gs.bare = true → s4.heap.objs.size < g → h5.objs.size = g + 1 → (∀ b o, s4.heap.get? b = some o → h5.get? b = some o) →
            WalksS X.prog X.w X.A.in4 g (g :: s4.heap.objs.size :: List.range s4.heap.objs.size) (s4.heap.objs.size :: wr) (GenOnlyQ s4.gens.size) (passing pz n0 0).length
              (fun j y => ∃ i, (passing pz n0 0)[j]? = some i ∧ F0 i y) (GenAt X.prog X.w X.A.in4 g s4.gens.size s4.heap.objs.size (List.range s4.heap.objs.size) wr pz n0 F0) →
            GenAt X.prog X.w X.A.in4 g s4.gens.size s4.heap.objs.size (List.range s4.heap.objs.size) wr pz n0 F0 0 { s4 with gens := s4.gens.push gs, toks := tk5, heap := h5 } →
            W (.ref g) { s4 with gens := s4.gens.push gs, toks := tk5, heap := h5 })) X.xe { s1 with heap := h3, toks := tk } := by
    intro code h3 tk more hx hsz hP3 trip3
    obtain ⟨bm, ob, e1, e2, e3, e4, e5, e6, e7, e8⟩ := TB.bm
    have keep3 : ∀ b u, b ≠ P → s1.heap.get? b = some u → h3.get? b = some u := fun b u hb e => hx b u hb (Heap.get?_push_of_some _ e)
    have stP : cStatics ≠ P := fun z => by
      obtain ⟨_, ⟨o1, es, ep, ho, hd, _⟩, _⟩ := J1.nolimit
      rw [z, hPs] at ho
      cases ho
      cases hd
    have stL : cStatics < s1.heap.objs.size := by
      obtain ⟨_, hns, _⟩ := J1.nolimit
      exact hns.lt
    have newP : s1.heap.objs.size ≠ P := Nat.ne_of_gt ltP
    refine wpAny_builtinsFor (m := X.mg) (by rw [J1.ok.glob]; exact ((J1.mod.glob.keeps J1.bk).push o).extBut hx TB.gP) e1 e2 (keep3 _ _ e4 (J1.bk _ _ e5)) e6 e7 e8 ?_
    refine ⟨s1.heap.objs.size, s1.heap.objs.size :: aux, [s1.heap.objs.size], n, Pf, Z, fun _ => true, F, rfl, wk, ?_, ?_, lim.extBut hx stP, ?_, ?_, ?_⟩
    · refine (wk X.A hr.hd).frame _ _ _ z0 fun b hb u e => hx b u (fun z => ?_) e
      rcases List.mem_cons.mp hb with z2 | z2
      · exact newP (z2.symm.trans z)
      · exact (hau b z2).2 z
    · intro b hb
      show b < h3.objs.size
      have up : s1.heap.objs.size < h3.objs.size := by omega
      rcases List.mem_cons.mp hb with z2 | z2
      · rw [z2]
        exact up
      · exact Nat.lt_trans (hau b z2).1 up
    · intro z
      rcases List.mem_cons.mp z with z2 | z2
      · exact Nat.ne_of_lt stL z2
      · cases z2
    · intro hq keepq
      refine ⟨fun B E2 i v s2 m2 hB hv hn hm hk => ?_, fun B E2 i v s2 m2 hB hv _ hn hm hk => ?_⟩
      · simp only [List.forIn_nil]
        exact wpAny_pure ⟨rfl, GxR.keeps_refl _⟩
      · refine hel _ B E2 i v s2 m2 rfl rfl rfl rfl hB hv hn hm fun b u hb e => ?_
        have lb := Heap.lt_size e
        have up : s1.heap.objs.size < h3.objs.size := by omega
        refine hk b (List.mem_range.mpr (Nat.lt_trans lb up)) (fun z => ?_) u (keepq b u (keep3 b u hb e))
        rcases List.mem_cons.mp z with z2 | z2
        · exact Nat.ne_of_lt lb z2
        · cases z2
    · intro g h5 tk5 gs hgb hag hsz5 hk5 W5 gat
      simp only [GxR.passing_true, List.length_range] at W5
      refine fin g _ ⟨_, _, _, _, _, W5, fun j v hv => ?_, gat, fun b hb => ?_, List.mem_cons_self, fun i s9 h9 => h9.1.typeIs, fun s' hm => ?_⟩
      · obtain ⟨i, hij, e⟩ := hv
        obtain ⟨_, ej⟩ := List.getElem?_eq_some_iff.mp hij
        rw [List.getElem_range] at ej
        subst ej
        exact e
      · show b < h5.objs.size
        have h8 : h3.objs.size < g := hag
        have h9 : h5.objs.size = g + 1 := hsz5
        have u1 : g < h5.objs.size := by
          rw [h9]
          exact Nat.lt_succ_self g
        have u2 : h3.objs.size < h5.objs.size := Nat.lt_trans h8 u1
        rcases List.mem_cons.mp hb with z | z
        · rw [z]
          exact u1
        · rcases List.mem_cons.mp z with z | z
          · rw [z]
            exact u2
          · exact Nat.lt_trans (show b < h3.objs.size from List.mem_range.mp z) u2
      · have old : ∀ b u, s1.heap.get? b = some u → b ∉ h3.objs.size :: [s1.heap.objs.size] := fun b u e hb => by
          have lb := Heap.lt_size e
          have up : s1.heap.objs.size < h3.objs.size := by omega
          rcases List.mem_cons.mp hb with z | z
          · exact Nat.ne_of_lt (Nat.lt_trans lb up) z
          · rcases List.mem_cons.mp z with z | z
            · exact Nat.ne_of_lt lb z
            · cases z
        have R := GxR.inv_tab (more := more) (h' := s'.heap) (g' := s'.gens) (d' := s'.drawn) (t' := s'.toks) J1 hP (fun b u hb e => hm.heap b u (old b u e) (hk5 b u (keep3 b u hb e)))
          (hm.heap P _ (old P _ hPs) (hk5 P _ hP3)) (AllBare.movedS (J1.bare.push hgb) hm)
        rw [GxR.sh_eta s1 s' hm.os] at R
        exact ⟨_, ⟨⟨ps ++ more, upd_same, trip3⟩, fun b hb => upd_ne hb⟩, R⟩
  refine ⟨lim, ?_⟩
  cases hf : codeAmong gpos ps.toList with
  | none =>
    refine wpAny_genexprCodeX hcode (cd.code hP2 trip) (cd.tab hP2) hf fun c' h' tk hx hge hlt hco' _ htab' _ => ?_
    obtain ⟨o1, vs, f1, tf, fl, tg, inF, tx, tt, op, _, _, _, _, _, _, _, _, _, htr, _⟩ := hco'
    exact go2 _ h' tk _ hx (Nat.le_trans hge (Nat.le_of_lt hlt)) htab'.2 htr
  | some cv =>
    refine wpAny_genexprCode_hit hcode (cd.code hP2 trip) hf ?_
    exact go2 cv (s1.heap.push o) s1.toks #[] (Heap.ExtBut.refl _ _) (Nat.le_refl _) (by rw [Array.append_empty]; exact hP2) (by rw [Array.append_empty]; exact trip)
/-! tuple(element for x in walked) -/
structure PSrc (X : Cx) (P : Addr) (iter : Expr) (ti : L2.St → Hp → (List V → Hp → Prop) → Prop) : Prop where
  run : ∀ (pins : List (Addr × Obj)) (s : Shared) (σ : L2.St) (H : Hp) (R : List V → Hp → Prop), Inv X pins σ H s → ti σ H (fun xs H1 => GxR.TabG H1 P ∧ R xs H1) →
    wpAny (model X.prog X.w) X.A (eval iter X.env) (fun xv s1 => ∃ (H1 : Hp) (xs : List V), Inv X pins σ H1 s1 ∧ GxR.TabG H1 P ∧ R xs H1 ∧ SrcOk X P s1 xv xs.length (fun i u => ∃ y, xs[i]? = some y ∧ RelV y u)) X.xe s
/-- where the element is reckoned: the generator's own frame -/
structure InGen (X : Cx) (P : Addr) (scope : Scope) (s1 : Shared) (cenv : Env) (B : Around) (s2 : Shared) (m2 : Str → Option Value) : Prop where
  sc : cenv.scope = scope
  cells : cenv.cells = cloFrom X.env.cells scope.names []
  glob : cenv.globals = X.env.globals
  blt : cenv.builtins = builtinsNs
  hd : B.handled = none
  ns : s2.heap.Ns cenv.locals m2
  keep : ∀ b o, b ≠ P → s1.heap.get? b = some o → s2.heap.get? b = some o
structure PElt (X : Cx) (P : Addr) (scope : Scope) (x : Str) (elt : Expr) (te : L2.St → Hp → V → V → Prop) : Prop where
  run : ∀ (pins : List (Addr × Obj)) (s1 : Shared) (σ : L2.St) (H : Hp), Inv X pins σ H s1 → GxR.TabG H P → ∀ (cenv : Env) (B : Around) (E2 : Value → Shared → Prop) (s2 : Shared) (m2 : Str → Option Value) (v y : V) (u : Value),
    InGen X P scope s1 cenv B s2 m2 → RelV v u → te σ H v y → m2 x = some u → wpAny (model X.prog X.w) B (eval elt cenv) (fun z s3 => RelV y z ∧ Keeps s2 s3) E2 s2
def tTupG (P : Addr) (ti : L2.St → Hp → (List V → Hp → Prop) → Prop) (te : L2.St → Hp → V → V → Prop) : TE := fun σ H Q => ti σ H fun xs H1 => GxR.TabG H1 P ∧ xs.length ≤ sizeLine ∧ ∃ ys : List V, ys.length = xs.length ∧
  (∀ (i : Nat) (x : V), xs[i]? = some x → ∃ y, ys[i]? = some y ∧ te σ H1 x y) ∧ ∀ H2 p, GxR.Tabbed P H1 H2 → H2 p = none → Q (.ref p) (upd H2 p (.tup ys))
theorem vals_of : ∀ (ys : List V) (us : List Value), us.length = ys.length → (∀ (j : Nat) (u : Value), us[j]? = some u → ∃ y, ys[j]? = some y ∧ RelV y u) → Vals ys us
  | [], [], _, _ => .nil
  | y :: ys, u :: us, hl, h => by
    obtain ⟨y1, e1, r1⟩ := h 0 u rfl
    cases e1
    exact .cons r1 (vals_of ys us (by simpa using hl) fun j v hj => h (j + 1) v hj)
theorem pe_tupG {X : Cx} {c P : Addr} {elt iter : Expr} {x : Str} {px p pos gpos : Pos} {scope : Scope} {ti : L2.St → Hp → (List V → Hp → Prop) → Prop} {te : L2.St → Hp → V → V → Prop} {k : Nat}
    (hr : Room k X.A) (hg : Gl X "tuple") (hm : X.mg "tuple" = none) (hb : bootBuiltins "tuple" = some (.type "tuple")) (TB : GxR.TabB X.base X.mg c P) (hcode : X.env.code = .ref c) (S : GxR.GenS X.env scope x)
    (hi : PSrc X P iter ti) (hel : PElt X P scope x elt te) (hs : ∀ v, genFold iter X.env v = pure v)
    (he : starEach [.GeneratorExp elt [⟨.Name x px, iter, [], 0⟩] scope gpos] X.env = (false, eval (.GeneratorExp elt [⟨.Name x px, iter, [], 0⟩] scope gpos) X.env) :: starEach [] X.env := by rfl) :
    PE X (.Call (.Name "tuple" p) [.GeneratorExp elt [⟨.Name x px, iter, [], 0⟩] scope gpos] [] pos) (tTupG P ti te) := by
  refine ⟨fun pins s σ H Q I h => ?_⟩
  refine wpAny_Call_Name_kw (ld_blt I hg hm hb ?_)
  refine PyProof.Rows.callWith_type1 ?_ he (by rfl)
  rw [he]
  show wpAny _ _ (spliced ((false, eval (.GeneratorExp elt [⟨.Name x px, iter, [], 0⟩] scope gpos) X.env) :: backTo pos (starEach [] X.env))) _ _ s
  have h2 : ti σ H fun xs H1 => GxR.TabG H1 P ∧ (xs.length ≤ sizeLine ∧ ∃ ys : List V, ys.length = xs.length ∧ (∀ (i : Nat) (x : V), xs[i]? = some x → ∃ y, ys[i]? = some y ∧ te σ H1 x y) ∧ ∀ H2 p, GxR.Tabbed P H1 H2 → H2 p = none → Q (.ref p) (upd H2 p (.tup ys))) := h
  refine Calls.spliced_cons (gen_one (pins := pins) (σ := σ) hr TB hcode S hs (wpAny_mono (hi.run pins s σ H _ I h2) (fun xv s1 z => ?_) fun _ _ e => e))
  obtain ⟨H1, xs, J, ⟨ps, hP, trip⟩, ⟨lx, ys, ly, hys, q⟩, src⟩ := z
  refine ⟨H1, ps, xs.length, _, fun i u => ∃ y, ys[i]? = some y ∧ RelV y u, J, hP, trip, src, ?_, fun g s5 at5 => ?_⟩
  · intro cenv B E2 i v s2 m2 h1 h3 h4 h5 h6 hv h7 h8 h9
    obtain ⟨w1, ew, rw1⟩ := hv
    obtain ⟨y, ey, ty⟩ := hys i w1 ew
    exact wpAny_mono (hel.run pins s1 σ H1 J ⟨ps, hP, trip⟩ cenv B E2 s2 m2 w1 y v ⟨h1, h3, h4, h5, h6, h7, h9⟩ rw1 ty h8) (fun z s3 r => ⟨⟨y, ey, r.1⟩, r.2⟩) fun _ _ e => e
  · refine Calls.spliced_nil ?_
    obtain ⟨fp, wr, G, F', Z, W5, im, z0, hfp, hgf, hT, hinv⟩ := at5
    refine PySem.call_tuple_gen (n := xs.length) W5.in4_3 hT z0 hfp hgf (fun s' acc mv it => ?_) lx
    obtain ⟨H2, tb, J2⟩ := hinv s' mv
    have vs : Vals ys acc.toList := vals_of ys acc.toList (by rw [Array.length_toList, it.1, ly]) fun j u hj => im j u (it.2 j u (by simpa using hj))
    refine ⟨.ref s'.heap.objs.size, _, J2.laid (t' := s'.toks) (o := .tup ys) (fun b ob e => Heap.get?_push_of_some _ e) (Nat.le_refl _) ⟨by omega, acc.toList, vs, ?_⟩, rfl, q H2 _ tb (J2.hok.fresh (Nat.le_refl _))⟩
    have ea : acc.toList.toArray = acc := by simp
    rw [ea]
    exact IsTup.new _ _
/-- range(e) -/
theorem src_range {X : Cx} {P : Addr} {a : Expr} {ta : TA} {p pos : Pos} (hg : Gl X "range") (hm : X.mg "range" = none) (ha : PA X [a] ta) (hs : starEach [a] X.env = [(false, eval a X.env)] := by rfl) :
    PSrc X P (.Call (.Name "range" p) [a] [] pos) (fun σ H R => ta σ H fun vs H1 => ∃ n : Nat, vs = [.int (n : Nat)] ∧ n ≤ sizeLine ∧ R ((List.range n).map fun i => V.int (i : Nat)) H1) := by
  refine ⟨fun pins s σ H R I h => ?_⟩
  refine Call_ (ld_blt I hg hm boot_range (PyProof.Rows.callWith_type1 (thn (ha.run pos pins s σ H _ I h) fun us s1 ⟨vs, H1, J, r1, q1⟩ => ?_) hs rfl))
  obtain ⟨n, rfl, hn, tg, q⟩ := q1
  cases r1 with
  | cons r rr =>
    cases rr
    obtain ⟨t, rfl⟩ := r
    have hsl : sizeLine = 16777216 := by decide
    refine call_range_1 ⟨H1, _, J.kept fun b o e => Heap.get?_push_of_some _ e, tg, q, ?_⟩
    refine ⟨_, [], fun i h => IsRangeIter h (s1.heap.push { cls := .type "range", data := .fields #[.int 0 s1.toks, .int (n : Nat) t, .int 1 (s1.toks + 1)] }).objs.size ((0 : Int) + (i : Nat) * 1) ((n : Int) - (i : Nat)) 1, fun Q hQ => wpAny_pyIter_range (IsRange.new ..) (small_one (by omega) (by omega) (by omega) (by omega)) hQ, fun b hb => (by cases hb), fun B hB => ?_, ?_⟩
    · rw [List.length_map, List.length_range]
      have W0 := Walks.range (prog := X.prog) (w := X.w) (A := B) hB (s1.heap.push { cls := .type "range", data := .fields #[.int 0 s1.toks, .int (n : Nat) t, .int 1 (s1.toks + 1)] }).objs.size 0 1 n
      exact W0.mono_item fun i v hi hv => by
        obtain ⟨t2, rfl⟩ := hv
        refine ⟨.int (i : Nat), ?_, t2, by rw [Int.zero_add, Int.mul_one]⟩
        rw [List.getElem?_map, List.getElem?_range hi]
        rfl
    · show IsRangeIter _ _ ((0 : Int) + ((0 : Nat) : Int) * 1) ((n : Int) - ((0 : Nat) : Int)) 1
      have e2 : (n : Int) - ((0 : Nat) : Int) = Builtin.Range.rangeSize 0 (n : Int) 1 := by
        rw [rangeSize_one]
        split <;> omega
      rw [e2]
      exact Heap.get?_push_size _ rfl
theorem gs_free {cells : List (Str × Addr)} {names : List (Str × NameKind)} (h : (names.all fun y => y.2 != .free || (cells.lookup y.1).isSome) = true) : ∀ y ∈ names, y.2 = .free → ∃ c, cells.lookup y.1 = some c := fun y hy e => by
  have q := List.all_eq_true.mp h y hy
  rw [e] at q
  exact Option.isSome_iff_exists.mp (by simpa using q)
/-! elements -/
section
variable {X : Cx} {pins : List (Addr × Obj)} {σ : L2.St} {H : Hp} {s1 s2 : Shared} {P c : Addr} {scope : Scope} {cenv : Env} {B : Around} {m2 : Str → Option Value} {E2 : Value → Shared → Prop}
theorem ig_local {x : Str} {u : Value} {p : Pos} {W : Value → Shared → Prop} (g : InGen X P scope s1 cenv B s2 m2) (hk : scope.kind = .function) (hl : scope.names.lookup x = some .local) (hm : m2 x = some u) {s3 : Shared} (k3 : Keeps s2 s3) (h : W u s3)
    (hd : (x == ("__debug__" : Str)) = false := by decide) : wpAny (model X.prog X.w) B (eval (.Name x p) cenv) W E2 s3 := by
  obtain ⟨h3, tk, rfl, kp⟩ := k3
  exact wpAny_Name (wpAny_loadName_local (by rw [g.sc]; exact hk) (show cenv.scope.names.lookup x = some .local by rw [g.sc]; exact hl) (g.ns.keeps kp) hm h) hd
theorem ig_free {x : Str} {i : Nat} {v : V} {p : Pos} {W : Value → Shared → Prop} (I : Inv X pins σ H s1) (tg : GxR.TabG H P) (g : InGen X P scope s1 cenv B s2 m2) (hk : scope.kind = .function) (hl : scope.names.lookup x = some .free)
    (hN : X.N[i]? = some x) (hσ : σ[i]? = some (some v)) (hX : X.env.scope.names.lookup x = some .cell) (hcl : ∀ cells : List (Str × Addr), (cloFrom cells scope.names []).lookup x = some ((cells.lookup x).getD 0)) {s3 : Shared} (k3 : Keeps s2 s3)
    (h : ∀ u, RelV v u → W u s3) (hn : (x == ("__classdict__" : Str)) = false := by decide) (hd : (x == ("__debug__" : Str)) = false := by decide) : wpAny (model X.prog X.w) B (eval (.Name x p) cenv) W E2 s3 := by
  obtain ⟨h3, tk, rfl, kp⟩ := k3
  obtain ⟨m, _, hloc⟩ := I.loc
  obtain ⟨u, ru, lk⟩ := hloc i x v hN hσ (.inr (.inl hX))
  rcases lk with ⟨h1, _⟩ | ⟨_, cc, h2, ic⟩
  · have h1 : X.env.scope.names.lookup x = some .local := h1
    rw [hX] at h1
    cases h1
  · obtain ⟨ps, hP, _⟩ := tg
    have ncP : cc ≠ P := fun z => by
      have q := I.freeC x cc h2
      rw [z, hP] at q
      cases q
    obtain ⟨o, ho, hd2⟩ := ic
    have lk2 : cenv.cells.lookup x = some cc := by
      rw [g.cells, hcl, h2]
      rfl
    exact wpAny_Name (wpAny_loadName_free (by rw [g.sc]; exact hk) (show cenv.scope.names.lookup x = some .free by rw [g.sc]; exact hl) lk2 ⟨o, kp _ _ (g.keep _ _ ncP ho), hd2⟩ (h u ru) hn) hd
theorem ig_blt {x : Str} {u : Value} {p : Pos} {W : Value → Shared → Prop} (I : Inv X pins σ H s1) (tg : GxR.TabG H P) (TB : GxR.TabB X.base X.mg c P) (g : InGen X P scope s1 cenv B s2 m2) (hk : scope.kind = .function) (hl : scope.names.lookup x = some .globalImplicit)
    (hm : X.mg x = none) (hv : bootBuiltins x = some u) {s3 : Shared} (k3 : Keeps s2 s3) (h : W u s3) (hn : x ≠ "__name__" := by decide) (hd : (x == ("__debug__" : Str)) = false := by decide) : wpAny (model X.prog X.w) B (eval (.Name x p) cenv) W E2 s3 := by
  obtain ⟨h3, tk, rfl, kp⟩ := k3
  obtain ⟨mb, h1, h2⟩ := I.mod.blt
  obtain ⟨ps, hP, _⟩ := tg
  have hPs : s1.heap.get? P = some { cls := .none, data := .fields ps } := I.hok P _ hP
  have n1 : s1.heap.Ns mainGlobals X.mg := I.mod.glob.keeps I.bk
  have n2 : s1.heap.Ns builtinsNs mb := h1.keeps I.bk
  have up : ∀ {a : Addr} {m : Str → Option Value}, s1.heap.Ns a m → h3.Ns a m := fun {a m} ⟨o, es, ep, ho, hd1, r⟩ => by
    have na : a ≠ P := fun z => by
      rw [z, hPs] at ho
      cases ho
      cases hd1
    exact ⟨o, es, ep, kp _ _ (g.keep _ _ na ho), hd1, r⟩
  exact Calls.Name_function_global (by rw [g.sc]; exact hk) (show cenv.scope.names.lookup x = some .globalImplicit by rw [g.sc]; exact hl) (Calls.loadGlobal_builtin (by rw [g.glob, I.ok.glob]; exact up n1) hm (by rw [g.blt]; exact up n2) ((h2 x hn).trans hv) h) hd
theorem kp_tok {s3 : Shared} (k : Keeps s2 s3) (n : Nat) : Keeps s2 { s3 with toks := n } := by
  obtain ⟨h', tk, rfl, kp⟩ := k
  exact ⟨h', n, rfl, kp⟩
/-- a tracked tuple, read in the generator's frame -/
theorem ig_tup {a : Addr} {xs : List V} (I : Inv X pins σ H s1) (tg : GxR.TabG H P) (g : InGen X P scope s1 cenv B s2 m2) (ha : H a = some (.tup xs)) {s3 : Shared} (k3 : Keeps s2 s3) : ∃ its : List Value, Vals xs its ∧ IsTup s3.heap a its.toArray ∧ xs.length ≤ sizeLine := by
  obtain ⟨h3, tk, rfl, kp⟩ := k3
  obtain ⟨ps, hP, _⟩ := tg
  obtain ⟨hz, its, r, ⟨o, ho, rest⟩⟩ := I.hok a _ ha
  have naP : a ≠ P := ne_of ha hP (fun z => by cases z)
  exact ⟨its, r, ⟨o, kp _ _ (g.keep _ _ naP ho), rest⟩, hz⟩
end
/-- row[(at - by) % len(row)] -/
theorem elt_late {X : Cx} {P c : Addr} {scope : Scope} {i j : Nat} {xr xa xb : Str} {p1 p2 p3 p4 p5 p6 p7 p8 p9 : Pos} (TB : GxR.TabB X.base X.mg c P) (hk : scope.kind = .function) (l1 : scope.names.lookup xa = some .local) (l2 : scope.names.lookup xr = some .free) (l3 : scope.names.lookup xb = some .free)
    (l4 : scope.names.lookup ("len" : Str) = some .globalImplicit) (hm : X.mg "len" = none) (hNi : X.N[i]? = some xr) (hNj : X.N[j]? = some xb) (hXi : X.env.scope.names.lookup xr = some .cell) (hXj : X.env.scope.names.lookup xb = some .cell)
    (c1 : ∀ cells : List (Str × Addr), (cloFrom cells scope.names []).lookup xr = some ((cells.lookup xr).getD 0)) (c2 : ∀ cells : List (Str × Addr), (cloFrom cells scope.names []).lookup xb = some ((cells.lookup xb).getD 0))
    (n1 : (xr == ("__classdict__" : Str)) = false := by decide) (n2 : (xr == ("__debug__" : Str)) = false := by decide) (n3 : (xb == ("__classdict__" : Str)) = false := by decide) (n4 : (xb == ("__debug__" : Str)) = false := by decide) (n5 : (xa == ("__debug__" : Str)) = false := by decide) :
    PElt X P scope xa (.Subscript (.Name xr p1) (.BinOp (.BinOp (.Name xa p2) .Sub (.Name xb p3) p4) .Mod (.Call (.Name "len" p5) [.Name xr p6] [] p7) p8) p9)
      (fun σ H v y => ∃ (a : Addr) (xs : List V) (by_ : Int) (t : Nat), σ[i]? = some (some (.ref a)) ∧ H a = some (.tup xs) ∧ σ[j]? = some (some (.int by_)) ∧ v = .int (t : Nat) ∧ 0 < xs.length ∧ xs[(((t : Int) - by_) % (xs.length : Int)).toNat]? = some y) := by
  refine ⟨fun pins s1 σ H I tg cenv B E2 s2 m2 v y u g rv te hm2 => ?_⟩
  obtain ⟨a, xs, by_, t, h1, h2, h3, rfl, h4, h5⟩ := te
  obtain ⟨tk, rfl⟩ := (show ∃ tk, u = Value.int (t : Nat) tk from rv)
  refine Subscript_ (ig_free I tg g hk l2 hNi h1 hXi c1 (GxR.keeps_refl s2) (fun u1 r1 => ?_) n1 n2)
  obtain rfl : u1 = Value.ref a := r1
  refine wpAny_BinOp (wpAny_BinOp (ig_local g hk l1 hm2 (GxR.keeps_refl s2) ?_ n5))
  refine ig_free I tg g hk l3 hNj h3 hXj c2 (GxR.keeps_refl s2) (fun u2 r2 => ?_) n3 n4
  obtain ⟨tb, rfl⟩ := (show ∃ tb, u2 = Value.int by_ tb from r2)
  refine sub_int ?_
  refine wpAny_Call_Name_kw (ig_blt I tg TB g hk l4 hm PySem.boot_len (GxR.keeps_tok s2 _) ?_)
  refine PyProof.Rows.callWith_builtin1 ?_ rfl rfl
  refine Calls.spliced_cons (ig_free I tg g hk l2 hNi h1 hXi c1 (GxR.keeps_tok s2 _) (fun u3 r3 => ?_) n1 n2)
  obtain rfl : u3 = Value.ref a := r3
  refine Calls.spliced_nil ?_
  obtain ⟨its, rvs, it, hz⟩ := ig_tup I tg g h2 (GxR.keeps_tok s2 (s2.toks + 1))
  have hlen := rvs.length
  have hsl : sizeLine = 16777216 := by decide
  have hj : (((t : Int) - by_) % (xs.length : Int)).toNat < xs.length := (List.getElem?_eq_some_iff.mp h5).1
  refine len_tuple it (by simp only [List.size_toArray] <;> omega) ?_
  refine mod_int' (by rw [List.size_toArray, ← hlen]; omega) ?_
  rw [List.size_toArray, ← hlen, Int.fmod_eq_emod_of_nonneg _ (by omega)]
  have m0 := Int.emod_nonneg ((t : Int) - by_) (show (xs.length : Int) ≠ 0 by omega)
  obtain ⟨w1, ew, rw1⟩ := rvs.get h5
  have fin := GxR.keeps_tok s2 (s2.toks + 1 + 1 + 1 + 1)
  refine subscriptTail_builtinR (x := w1) it.typeIs slot_tuple_getitem.lookup (getItem_tuple (j := (((t : Int) - by_) % (xs.length : Int)).toNat) it (by omega) (by omega) ?_ (by simpa using ew) ⟨rfl, rw1, fin⟩)
  rw [List.size_toArray, ← hlen]


  exact seqIndex_of m0 (Int.emod_lt_of_pos _ (by omega))
/-! generator expressions over pairs -/
def EltOk2 (X : Cx) (P : Addr) (scope : Scope) (xa xb : Str) (elt : Expr) (s0 : Shared) (Pt : Nat → Array Value → Prop) (F : Nat → Value → Prop) : Prop :=
  ∀ (cenv : Env) (B : Around) (E2 : Value → Shared → Prop) (i : Nat) (va vb : Value) (s2 : Shared) (m2 : Str → Option Value), InGen X P scope s0 cenv B s2 m2 → Pt i #[va, vb] → m2 xa = some va → m2 xb = some vb →
    wpAny (model X.prog X.w) B (eval elt cenv) (fun y s3 => F i y ∧ Keeps s2 s3) E2 s2
structure Src2 (X : Cx) (P : Addr) (s0 s1 : Shared) (xv : Value) (n : Nat) (Pt : Nat → Array Value → Prop) : Prop where
  only : ∃ h1 t1, s1 = { s0 with heap := h1, toks := t1 }
  old : ∀ b o, s0.heap.get? b = some o → s1.heap.get? b = some o
  wk : ∃ (J : Addr) (fp wr : List Addr) (Z : Nat → Heap → Prop) (Mid : Nat → Addr → Heap → Prop), xv = .ref J ∧ (∀ Q : Value → Shared → Prop, Q (.ref J) s1 → wpAny (model X.prog X.w) X.A (pyIter xv) Q X.xe s1) ∧
    (∀ B : Around, B.handled = none → WalksU X.prog X.w B J fp wr n Pt Z Mid) ∧ Z 0 s1.heap ∧ (∀ b ∈ fp, b < s1.heap.objs.size ∧ b ≠ P) ∧ (∀ b ∈ wr, s0.heap.objs.size ≤ b)
  two : ∀ i vals, Pt i vals → ∃ va vb, vals = #[va, vb]
structure GenS2 (env : Env) (scope : Scope) (xa xb : Str) : Prop where
  a : GxR.GenS env scope xa
  lb : scope.names.lookup xb = some .local
  ne : xa ≠ xb
theorem gen_two {X : Cx} {pins : List (Addr × Obj)} {σ : L2.St} {s : Shared} {c P : Addr} {elt iter : Expr} {xa xb : Str} {pa pb pt gpos : Pos} {kt : Nat} {scope : Scope} {k : Nat} {W : Value → Shared → Prop}
    (hr : Room k X.A) (TB : GxR.TabB X.base X.mg c P) (hcode : X.env.code = .ref c) (S : GenS2 X.env scope xa xb) (hs : ∀ v, genFold iter X.env v = pure v)
    (h : wpAny (model X.prog X.w) X.A (eval iter X.env) (fun xv s1 => ∃ (s0 : Shared) (H1 : Hp) (ps : Array Value) (n : Nat) (Pt : Nat → Array Value → Prop) (F : Nat → Value → Prop), Inv X pins σ H1 s0 ∧ H1 P = some (.tbl ps) ∧ TriplesOk ps.toList ∧ Src2 X P s0 s1 xv n Pt ∧
      EltOk2 X P scope xa xb elt s0 Pt F ∧ ∀ g s5, AtHand X pins σ H1 P n F g s5 → W (.ref g) s5) X.xe s) :
    wpAny (model X.prog X.w) X.A (eval (.GeneratorExp elt [⟨.Tuple [.Name xa pa, .Name xb pb] kt pt, iter, [], 0⟩] scope gpos) X.env) W X.xe s := by
  have deep := hr.dp
  refine wpAny_GeneratorExp_walksQT hr.hd S.a.co (closure_ok S.a.free) S.a.cell S.a.dot S.a.loc S.lb S.ne S.a.kind (by omega) (wpAny_mono h (fun xv s1 z => ?_) fun _ _ e => e) hs
  obtain ⟨s0, H1, ps, n, Pt, F, J0, hP, trip, ⟨⟨h1, t1, rfl⟩, old1, ⟨J, fp, wr, Z, Mid, rfl, go, wk, z0, hfp, hwr⟩, two⟩, hel, fin⟩ := z
  refine go _ ?_
  have hPs : s0.heap.get? P = some { cls := .none, data := .fields ps } := J0.hok P _ hP
  have ltP : P < s0.heap.objs.size := Heap.lt_size hPs
  have hP2 : h1.get? P = some { cls := .none, data := .fields ps } := old1 _ _ hPs
  have cd : PySem.W.CodeHd h1 c P := TB.code.keeps fun b u e => old1 _ _ (J0.bk b u e)
  have lim : h1.NoLimit := J0.nolimit.keeps old1
  have go2 : ∀ (code : Value) (h3 : Heap) (tk : Nat) (more : Array Value), Heap.ExtBut P h1 h3 → h1.objs.size ≤ h3.objs.size → h3.get? P = some { cls := .none, data := .fields (ps ++ more) } → TriplesOk (ps ++ more).toList →
      wpAny (model X.prog X.w) X.A (builtinsFor X.env.globals X.env.builtins) (fun bi s4 =>
        ∃ I0 fp0 wr0 n0 Pt0 Z0 Mid0 pz F0, Value.ref J = .ref I0 ∧ (∀ B : Around, B.handled = none → WalksU X.prog X.w B I0 fp0 wr0 n0 Pt0 Z0 Mid0) ∧ (∀ i vals, Pt0 i vals → ∃ va vb, vals = #[va, vb]) ∧ Z0 0 s4.heap ∧ (∀ b ∈ fp0, b < s4.heap.objs.size) ∧ s4.heap.NoLimit ∧ cStatics ∉ wr0 ∧
          (∀ hq : Heap, (∀ b o, s4.heap.get? b = some o → hq.get? b = some o) →
            QuietGenT X.prog X.w (genEnv scope (cloFrom X.env.cells scope.names []) s4.heap.objs.size code bi X.env) xa xb [] elt (List.range s4.heap.objs.size) wr0 Pt0 pz F0 hq) ∧
          (∀ g h5 tk5 gs, gs.bare = true → s4.heap.objs.size < g → h5.objs.size = g + 1 → (∀ b o, s4.heap.get? b = some o → h5.get? b = some o) →
            WalksS X.prog X.w X.A.in4 g (g :: s4.heap.objs.size :: List.range s4.heap.objs.size) (s4.heap.objs.size :: wr0) (GenOnlyQ s4.gens.size) (passing pz n0 0).length
              (fun j y => ∃ i, (passing pz n0 0)[j]? = some i ∧ F0 i y) (GenAt X.prog X.w X.A.in4 g s4.gens.size s4.heap.objs.size (List.range s4.heap.objs.size) wr0 pz n0 F0) →
            GenAt X.prog X.w X.A.in4 g s4.gens.size s4.heap.objs.size (List.range s4.heap.objs.size) wr0 pz n0 F0 0 { s4 with gens := s4.gens.push gs, toks := tk5, heap := h5 } →
            W (.ref g) { s4 with gens := s4.gens.push gs, toks := tk5, heap := h5 })) X.xe { s0 with heap := h3, toks := tk } := by
    intro code h3 tk more hx hsz hP3 trip3
    obtain ⟨bm, ob, e1, e2, e3, e4, e5, e6, e7, e8⟩ := TB.bm
    have keep3 : ∀ b u, b ≠ P → s0.heap.get? b = some u → h3.get? b = some u := fun b u hb e => hx b u hb (old1 b u e)
    have stP : cStatics ≠ P := fun z => by
      obtain ⟨_, ⟨o1, es, ep, ho, hd, _⟩, _⟩ := J0.nolimit
      rw [z, hPs] at ho
      cases ho
      cases hd
    have stL : cStatics < s0.heap.objs.size := by
      obtain ⟨_, hns, _⟩ := J0.nolimit
      exact hns.lt
    refine wpAny_builtinsFor (m := X.mg) (by rw [J0.ok.glob]; exact ((J0.mod.glob.keeps J0.bk).keeps old1).extBut hx TB.gP) e1 e2 (keep3 _ _ e4 (J0.bk _ _ e5)) e6 e7 e8 ?_
    refine ⟨J, fp, wr, n, Pt, Z, Mid, fun _ => true, F, rfl, wk, two, ?_, ?_, lim.extBut hx stP, ?_, ?_, ?_⟩
    · exact (wk X.A hr.hd).frame _ _ _ z0 fun b hb u e => hx b u (hfp b hb).2 e
    · intro b hb
      exact Nat.lt_of_lt_of_le (show b < h1.objs.size from (hfp b hb).1) hsz
    · intro z
      exact Nat.lt_irrefl _ (Nat.lt_of_lt_of_le stL (hwr _ z))
    · intro hq keepq
      refine ⟨fun B E2 i va vb s2 m2 hB hv hn hma hmb hk => ?_, fun B E2 i va vb s2 m2 hB hv _ hn hma hmb hk => ?_⟩
      · simp only [List.forIn_nil]
        exact wpAny_pure ⟨rfl, GxR.keeps_refl _⟩
      · refine hel _ B E2 i va vb s2 m2 ⟨rfl, rfl, rfl, rfl, hB, hn, fun b u hb e => ?_⟩ hv hma hmb
        have lb := Heap.lt_size e
        refine hk b (List.mem_range.mpr (Nat.lt_of_lt_of_le (Heap.lt_size (old1 b u e)) hsz)) (fun z => ?_) u (keepq b u (keep3 b u hb e))
        exact Nat.lt_irrefl _ (Nat.lt_of_lt_of_le lb (hwr b z))
    · intro g h5 tk5 gs hgb hag hsz5 hk5 W5 gat
      simp only [GxR.passing_true, List.length_range] at W5
      refine fin g _ ⟨_, _, _, _, _, W5, fun j v hv => ?_, gat, fun b hb => ?_, List.mem_cons_self, fun i s9 h9 => h9.1.typeIs, fun s' hm => ?_⟩
      · obtain ⟨i, hij, e⟩ := hv
        obtain ⟨_, ej⟩ := List.getElem?_eq_some_iff.mp hij
        rw [List.getElem_range] at ej
        subst ej
        exact e
      · show b < h5.objs.size
        have v8 : h3.objs.size < g := hag
        have v9 : h5.objs.size = g + 1 := hsz5
        have u1 : g < h5.objs.size := by
          rw [v9]
          exact Nat.lt_succ_self g
        have u2 : h3.objs.size < h5.objs.size := Nat.lt_trans v8 u1
        rcases List.mem_cons.mp hb with z | z
        · rw [z]
          exact u1
        · rcases List.mem_cons.mp z with z | z
          · rw [z]
            exact u2
          · exact Nat.lt_trans (show b < h3.objs.size from List.mem_range.mp z) u2
      · have old : ∀ b u, s0.heap.get? b = some u → b ∉ h3.objs.size :: wr := fun b u e hb => by
          have lb := Heap.lt_size e
          rcases List.mem_cons.mp hb with z | z
          · exact Nat.ne_of_lt (Nat.lt_of_lt_of_le (Heap.lt_size (old1 b u e)) hsz) z
          · exact Nat.lt_irrefl _ (Nat.lt_of_lt_of_le lb (hwr b z))
        have R := GxR.inv_tab (more := more) (h' := s'.heap) (g' := s'.gens) (d' := s'.drawn) (t' := s'.toks) J0 hP (fun b u hb e => hm.heap b u (old b u e) (hk5 b u (keep3 b u hb e)))
          (hm.heap P _ (old P _ hPs) (hk5 P _ hP3)) (AllBare.movedS (J0.bare.push hgb) hm)
        rw [GxR.sh_eta s0 s' hm.os] at R
        exact ⟨_, ⟨⟨ps ++ more, upd_same, trip3⟩, fun b hb => upd_ne hb⟩, R⟩
  refine ⟨lim, ?_⟩
  cases hf : codeAmong gpos ps.toList with
  | none =>
    refine wpAny_genexprCodeX hcode (cd.code hP2 trip) (cd.tab hP2) hf fun c' h' tk hx hge hlt hco' _ htab' _ => ?_
    obtain ⟨o1, vs, f1, tf, fl, tg, inF, tx, tt, op, _, _, _, _, _, _, _, _, _, htr, _⟩ := hco'
    exact go2 _ h' tk _ hx (Nat.le_trans hge (Nat.le_of_lt hlt)) htab'.2 htr
  | some cv =>
    refine wpAny_genexprCode_hit hcode (cd.code hP2 trip) hf ?_
    exact go2 cv h1 t1 #[] (Heap.ExtBut.refl _ _) (Nat.le_refl _) (by rw [Array.append_empty]; exact hP2) (by rw [Array.append_empty]; exact trip)
structure PElt2 (X : Cx) (P : Addr) (scope : Scope) (xa xb : Str) (elt : Expr) (te : V → V → V → Prop) : Prop where
  run : ∀ (pins : List (Addr × Obj)) (s0 : Shared) (σ : L2.St) (H : Hp), Inv X pins σ H s0 → GxR.TabG H P → ∀ (cenv : Env) (B : Around) (E2 : Value → Shared → Prop) (s2 : Shared) (m2 : Str → Option Value) (v1 v2 y : V) (u1 u2 : Value),
    InGen X P scope s0 cenv B s2 m2 → RelV v1 u1 → RelV v2 u2 → te v1 v2 y → m2 xa = some u1 → m2 xb = some u2 → wpAny (model X.prog X.w) B (eval elt cenv) (fun z s3 => RelV y z ∧ Keeps s2 s3) E2 s2
def tTupZ (P : Addr) (ta : TA) (te : V → V → V → Prop) : TE := fun σ H Q => ta σ H fun vs H1 => ∃ (a b : Addr) (xs ys : List V), vs = [.ref a, .ref b] ∧ H1 a = some (.tup xs) ∧ H1 b = some (.tup ys) ∧ xs.length = ys.length ∧ GxR.TabG H1 P ∧
  ∃ zs : List V, zs.length = xs.length ∧ (∀ (i : Nat) (x y : V), xs[i]? = some x → ys[i]? = some y → ∃ z, zs[i]? = some z ∧ te x y z) ∧ ∀ H2 p, GxR.Tabbed P H1 H2 → H2 p = none → Q (.ref p) (upd H2 p (.tup zs))
/-- tuple(element for xa, xb in zip(e, e2)), two tuples of one length -/
theorem pe_tupZ {X : Cx} {c P : Addr} {elt e e2 : Expr} {xa xb : Str} {pa pb pt p p2 pos gpos zpos : Pos} {kt : Nat} {scope : Scope} {ta : TA} {te : V → V → V → Prop} {k : Nat}
    (hr : Room k X.A) (hg : Gl X "tuple") (hm : X.mg "tuple" = none) (hb : bootBuiltins "tuple" = some (.type "tuple")) (hgz : Gl X "zip") (hmz : X.mg "zip" = none) (TB : GxR.TabB X.base X.mg c P) (hcode : X.env.code = .ref c) (S : GenS2 X.env scope xa xb)
    (ha : PA X [e, e2] ta) (hel : PElt2 X P scope xa xb elt te) (hs : ∀ v, genFold (.Call (.Name "zip" p2) [e, e2] [] zpos) X.env v = pure v)
    (he : starEach [.GeneratorExp elt [⟨.Tuple [.Name xa pa, .Name xb pb] kt pt, .Call (.Name "zip" p2) [e, e2] [] zpos, [], 0⟩] scope gpos] X.env = (false, eval (.GeneratorExp elt [⟨.Tuple [.Name xa pa, .Name xb pb] kt pt, .Call (.Name "zip" p2) [e, e2] [] zpos, [], 0⟩] scope gpos) X.env) :: starEach [] X.env := by rfl)
    (hz1 : starEach [e, e2] X.env = (false, eval e X.env) :: starEach [e2] X.env := by rfl) (hz2 : (backTo zpos (starEach [e2] X.env)).any (·.1) = false := by rfl) :
    PE X (.Call (.Name "tuple" p) [.GeneratorExp elt [⟨.Tuple [.Name xa pa, .Name xb pb] kt pt, .Call (.Name "zip" p2) [e, e2] [] zpos, [], 0⟩] scope gpos] [] pos) (tTupZ P ta te) := by
  refine ⟨fun pins s σ H Q I h => ?_⟩
  refine wpAny_Call_Name_kw (ld_blt I hg hm hb ?_)
  refine PyProof.Rows.callWith_type1 ?_ he (by rfl)
  rw [he]
  show wpAny _ _ (spliced ((false, eval (.GeneratorExp elt [⟨.Tuple [.Name xa pa, .Name xb pb] kt pt, .Call (.Name "zip" p2) [e, e2] [] zpos, [], 0⟩] scope gpos) X.env) :: backTo pos (starEach [] X.env))) _ _ s
  refine Calls.spliced_cons (gen_two (pins := pins) (σ := σ) hr TB hcode S hs ?_)
  refine Call_ (ld_blt I hgz hmz PyProof.Rows.boot_zip (PyProof.Rows.callWith_type1 (thn (ha.run zpos pins s σ H _ I h) fun us s0 ⟨vs, H1, J, r1, q1⟩ => ?_) hz1 hz2))
  obtain ⟨a, b, xs, ys, rfl, hxa, hyb, hxy, tg, zs, lz, hzs, q⟩ := q1
  cases r1 with
  | cons r rr =>
    cases rr with
    | cons r' rr =>
      cases rr
      cases r
      cases r'
      obtain ⟨ix, rx, px, hz⟩ := J.tuple (show SqT X.K H1 a xs from .inl (.inl hxa))
      obtain ⟨iy, ry, py, _⟩ := J.tuple (show SqT X.K H1 b ys from .inl (.inl hyb))
      obtain ⟨ps, hP, trip⟩ := tg
      have naP : a ≠ P := ne_of hxa hP (fun z => by cases z)
      have nbP : b ≠ P := ne_of hyb hP (fun z => by cases z)
      have lta : a < s0.heap.objs.size := by
        obtain ⟨o, ho, _⟩ := px
        exact Heap.lt_size ho
      have ltb : b < s0.heap.objs.size := by
        obtain ⟨o, ho, _⟩ := py
        exact Heap.lt_size ho
      have ltP : P < s0.heap.objs.size := Heap.lt_size (J.hok P _ hP)
      have hnx := rx.length
      have hny := ry.length
      refine RZ.call_zipT (show s0.heap.IsTuple a ix.toArray from px) (show s0.heap.IsTuple b iy.toArray from py) fun h1 isz hTI hTO i1 i2 sz5 keep => ?_
      refine ⟨s0, H1, ps, xs.length, fun i vals => ∃ x1 x2, ix.toArray[i]? = some x1 ∧ iy.toArray[i]? = some x2 ∧ vals = #[x1, x2], fun i u => ∃ z, zs[i]? = some z ∧ RelV z u, J, hP, trip, ⟨⟨h1, s0.toks, rfl⟩, keep, ?_, ?_⟩, ?_, fun g s5 at5 => ?_⟩
      · have en : min ix.toArray.size iy.toArray.size = xs.length := by
          rw [List.size_toArray, List.size_toArray]
          omega
        have WW := fun (B : Around) (hB : B.handled = none) => (WalksT.zipD2 (prog := X.prog) (w := X.w) (A := B) (zip_sep2 (N := s0.heap.objs.size) (fp1 := [a]) (fp2 := [b]) (fun c hc => by rw [List.mem_singleton.mp hc]; exact lta) (fun c hc => by rw [List.mem_singleton.mp hc]; exact ltb))
          (Draws.tuple (A := B.in1) hB s0.heap.objs.size a (Nat.ne_of_lt lta) ix.toArray) (Draws.tuple (A := B.in1) hB (s0.heap.objs.size + 1) b (Nat.ne_of_lt (Nat.lt_succ_of_lt ltb)) iy.toArray)).toU
        simp only [en] at WW
        refine ⟨s0.heap.objs.size + 4, _, _, _, _, rfl, fun Q hQ => wpAny_pyIter_zip isz hQ, WW, ⟨isz, hTI, ⟨_, _, hTO⟩, ⟨i1, (show s0.heap.IsTuple a ix.toArray from px).at fun o e => keep _ o e⟩, ⟨i2, (show s0.heap.IsTuple b iy.toArray from py).at fun o e => keep _ o e⟩⟩, fun d hd => ?_, fun d hd => ?_⟩
        · show d < h1.objs.size ∧ d ≠ P
          rw [sz5]
          have up : ∀ j : Nat, j < 5 → (s0.heap.objs.size + j : Nat) < s0.heap.objs.size + 5 ∧ (s0.heap.objs.size + j : Nat) ≠ P := fun j hj => ⟨by omega, Nat.ne_of_gt (Nat.lt_of_lt_of_le ltP (Nat.le_add_right _ _))⟩
          have hd' : d = s0.heap.objs.size + 4 ∨ d = s0.heap.objs.size + 2 ∨ d = s0.heap.objs.size + 3 ∨ d = s0.heap.objs.size ∨ d = a ∨ d = s0.heap.objs.size + 1 ∨ d = b := by simpa using hd
          rcases hd' with z | z | z | z | z | z | z
          · rw [z]; exact up 4 (by decide)
          · rw [z]; exact up 2 (by decide)
          · rw [z]; exact up 3 (by decide)
          · rw [z]; exact up 0 (by decide)
          · rw [z]; exact ⟨Nat.lt_of_lt_of_le lta (Nat.le_add_right _ _), naP⟩
          · rw [z]; exact up 1 (by decide)
          · rw [z]; exact ⟨Nat.lt_of_lt_of_le ltb (Nat.le_add_right _ _), nbP⟩
        · have hd' : d = s0.heap.objs.size + 4 ∨ d = s0.heap.objs.size + 3 ∨ d = s0.heap.objs.size ∨ d = s0.heap.objs.size + 1 := by simpa using hd
          rcases hd' with z | z | z | z
          · rw [z]; exact Nat.le_add_right _ _
          · rw [z]; exact Nat.le_add_right _ _
          · rw [z]; exact Nat.le_refl _
          · rw [z]; exact Nat.le_add_right _ _
      · rintro i vals ⟨x1, x2, _, _, rfl⟩
        exact ⟨x1, x2, rfl⟩
      · intro cenv B E2 i va vb s2 m2 ig hv hma hmb
        obtain ⟨x1, x2, e1, e2', ev⟩ := hv
        have ev1 : va = x1 ∧ vb = x2 := by simpa using ev
        obtain ⟨rfl, rfl⟩ := ev1
        have hi : i < xs.length := by
          have := (Array.getElem?_eq_some_iff.mp e1).1
          rw [List.size_toArray] at this
          omega
        have gx : xs[i]? = some xs[i] := List.getElem?_eq_getElem hi
        have gy : ys[i]? = some (ys[i]'(by omega)) := List.getElem?_eq_getElem (by omega)
        obtain ⟨w1, ew1, rw1⟩ := rx.get gx
        obtain ⟨w2, ew2, rw2⟩ := ry.get gy
        have f1 : va = w1 := by
          have z : ix[i]? = some va := by simpa using e1
          rw [z] at ew1
          exact Option.some.inj ew1
        have f2 : vb = w2 := by
          have z : iy[i]? = some vb := by simpa using e2'
          rw [z] at ew2
          exact Option.some.inj ew2
        subst f1 f2
        obtain ⟨z, ez, tz⟩ := hzs i _ _ gx gy
        exact wpAny_mono (hel.run pins s0 σ H1 J ⟨ps, hP, trip⟩ cenv B E2 s2 m2 _ _ z va vb ig rw1 rw2 tz hma hmb) (fun y s3 rr => ⟨⟨z, ez, rr.1⟩, rr.2⟩) fun _ _ e => e
      · refine Calls.spliced_nil ?_
        obtain ⟨fp, wr, G, F', Z, W5, im, z0, hfp, hgf, hT, hinv⟩ := at5
        refine PySem.call_tuple_gen (n := xs.length) W5.in4_3 hT z0 hfp hgf (fun s' acc mv it => ?_) hz
        obtain ⟨H2, tb, J2⟩ := hinv s' mv
        have vs : Vals zs acc.toList := vals_of zs acc.toList (by rw [Array.length_toList, it.1, lz]) fun j u hj => im j u (it.2 j u (by simpa using hj))
        refine ⟨.ref s'.heap.objs.size, _, J2.laid (t' := s'.toks) (o := .tup zs) (fun b ob e => Heap.get?_push_of_some _ e) (Nat.le_refl _) ⟨by omega, acc.toList, vs, ?_⟩, rfl, q H2 _ tb (J2.hok.fresh (Nat.le_refl _))⟩
        have ea : acc.toList.toArray = acc := by simp
        rw [ea]
        exact IsTup.new _ _
/-! len({len(row) for row in rows}) -/
def cnt (ls : List Int) : Nat := (ls.foldl (fun (st : List Int × Nat) k => (st.1 ++ [k], if k ∈ st.1 then st.2 else st.2 + 1)) ([], 0)).2
theorem cnt_fst (ls : List Int) : ∀ (a : List Int) (n : Nat), (ls.foldl (fun (st : List Int × Nat) k => (st.1 ++ [k], if k ∈ st.1 then st.2 else st.2 + 1)) (a, n)).1 = a ++ ls := by
  induction ls with
  | nil => intro a n; rw [List.append_nil]; rfl
  | cons x r ih =>
    intro a n
    rw [List.foldl_cons, ih, List.append_assoc]
    rfl
theorem cnt_snoc (ls : List Int) (k : Int) : cnt (ls ++ [k]) = if k ∈ ls then cnt ls else cnt ls + 1 := by
  unfold cnt
  rw [List.foldl_append]
  show (if k ∈ (ls.foldl _ ([], 0)).1 then _ else _) = _
  rw [cnt_fst]
  rfl
theorem cnt_le (ls : List Int) : cnt ls ≤ ls.length := by
  rw [← List.reverse_reverse ls]
  induction ls.reverse with
  | nil => exact Nat.le_refl 0
  | cons x r ih =>
    rw [List.reverse_cons, cnt_snoc, List.length_append]
    split
    · exact Nat.le_trans ih (Nat.le_add_right _ _)
    · exact Nat.succ_le_succ ih
theorem lenB : bootBuiltins "len" = some (.builtin "len") := PySem.boot_len
theorem pe_lenSC {X : Cx} {i : Nat} {x r : Str} {scope : Scope} {p1 p2 p3 p4 p5 p6 p7 p8 : Pos} (hgl : Gl X "len") (hm : X.mg "len" = none) (hc : X.calm = true) (hN : X.N[i]? = some r) (hv : Vis X.env.scope r) (hk : scope.kind = .function)
    (hcell : ∀ y ∈ scope.names, y.2 ≠ .cell) (hnm : ∀ y ∈ scope.names, y.2 = .local → scope.names.lookup y.1 = some .local) (hfr : ∀ y ∈ scope.names, y.2 ≠ .free) (hx : scope.names.lookup x = some .local) (hl : (relabel scope X.env).names.lookup ("len" : Str) = some .globalImplicit)
    (hd : (x == ("__debug__" : Str)) = false := by decide) (hd2 : (r == ("__debug__" : Str)) = false := by decide) (hd3 : (r == ("__classdict__" : Str)) = false := by decide)
    (he : starEach [.SetComp (.Call (.Name "len" p2) [.Name x p3] [] p4) [⟨.Name x p5, .Name r p6, [], 0⟩] scope p7] X.env = (false, eval (.SetComp (.Call (.Name "len" p2) [.Name x p3] [] p4) [⟨.Name x p5, .Name r p6, [], 0⟩] scope p7) X.env) :: starEach [] X.env := by rfl) :
    PE X (.Call (.Name "len" p1) [.SetComp (.Call (.Name "len" p2) [.Name x p3] [] p4) [⟨.Name x p5, .Name r p6, [], 0⟩] scope p7] [] p8)
      (fun σ H Q => ∃ (l : Addr) (as : List (Addr × List V)), σ[i]? = some (some (.ref l)) ∧ H l = some (.lst (as.map fun q => V.ref q.1)) ∧ as.length ≤ 8 ∧ (∀ q ∈ as, H q.1 = some (.tup q.2)) ∧ Q (.int ((cnt (as.map fun q => ((q.2.length : Nat) : Int)) : Nat))) H) := by
  refine ⟨fun pins s σ H Q I h => ?_⟩
  obtain ⟨l, as, hσ, hH, hln, hts, q⟩ := h
  have hh := I.ok.hd hc
  have hsl : sizeLine = 16777216 := by decide
  have hsb : 100 < scanBound := by decide
  refine wpAny_Call_Name_kw (ld_blt I hgl hm lenB ?_)
  refine PyProof.Rows.callWith_builtin1 ?_ he (by rfl)
  rw [he]
  show wpAny _ _ (spliced ((false, eval (.SetComp (.Call (.Name "len" p2) [.Name x p3] [] p4) [⟨.Name x p5, .Name r p6, [], 0⟩] scope p7) X.env) :: backTo p8 (starEach [] X.env))) _ _ s
  refine Calls.spliced_cons (SetComp_goes (closure_ok fun y hy e => absurd e (hfr y hy)) hcell hk hnm ?_ (by intro _; rfl))
  refine thn ((pe_var (pos := p6) hN hv hd2 hd3).run pins s σ H (fun v H1 => v = .ref l ∧ H1 = H) I ⟨_, hσ, rfl, rfl⟩) fun xv s1 ⟨v, H1, I1, r1, e1, e2⟩ => ?_
  subst e1 e2
  obtain rfl : xv = Value.ref l := r1
  obtain ⟨its, rv, pl, _⟩ := I1.list (show SqL X.K H1 l _ from .inl (.inl hH))
  have hIL := pl.isList
  have hlt : l < s1.heap.objs.size := by
    obtain ⟨o, ho, _⟩ := hIL
    exact Heap.lt_size ho
  refine wpAny_pyIter_list hIL ?_
  generalize hs2 : ({ s1 with heap := s1.heap.push { cls := .type "list_iterator", data := .fields #[.ref l, .int 0 0] } } : Shared) = s2
  have k12 : ∀ b o, s1.heap.get? b = some o → s2.heap.get? b = some o := fun b o e => by
    rw [← hs2]
    exact Heap.get?_push_of_some _ e
  have hit : s2.heap.IsListIter s1.heap.objs.size l 0 := by
    rw [← hs2]
    exact ⟨_, Heap.get?_push_size _ rfl, rfl, rfl⟩
  have z2 : s2.heap.objs.size = s1.heap.objs.size + 1 := by
    rw [← hs2]
    exact Heap.size_push ..
  have os2 : s2.os = s1.os ∧ s2.gens = s1.gens ∧ s2.drawn = s1.drawn := by
    rw [← hs2]
    exact ⟨rfl, rfl, rfl⟩
  have len : its.length = as.length := by rw [← rv.length, List.length_map]
  refine ⟨s1.heap.objs.size, _, _, _, _, _, rfl, Goes.list hh s1.heap.objs.size l (Nat.ne_of_lt hlt) its.toArray, ⟨hit, hIL.at fun o e => k12 _ o e⟩, fun D C s3 hB hD => ?_⟩
  obtain ⟨⟨h3, tk3, rfl⟩, old, nD, nC, hDC, hns⟩ := hB
  let ls : List Int := as.map fun q => ((q.2.length : Nat) : Int)
  have hls : ls.length = as.length := List.length_map ..
  have ltD : s1.heap.objs.size < D := by
    have h9 : s2.heap.objs.size ≤ D := nD
    exact Nat.lt_of_lt_of_le (by rw [z2]; exact Nat.lt_succ_self _) h9
  have ltC : s1.heap.objs.size < C := by
    have h9 : s2.heap.objs.size ≤ C := nC
    exact Nat.lt_of_lt_of_le (by rw [z2]; exact Nat.lt_succ_self _) h9
  refine ⟨fun i s' => ∃ h' tk m, s' = { s2 with heap := h', toks := tk } ∧ h'.Ns C m ∧ SetR X.w h' D (fun k => decide (k ∈ ls.take i)) (cnt (ls.take i)) ∧ ∀ b o, s1.heap.get? b = some o → h'.get? b = some o, ⟨h3, tk3, _, rfl, hns, ?_, fun b o e => old b o (k12 b o e)⟩, ?_, ?_, ?_⟩
  · refine ⟨_, #[], 0, _, hD, ⟨rfl, rfl, rfl⟩, rfl, (fun e he => by simp at he), (by simp), (fun k => by simp), (by decide), (by rfl), rfl, List.Pairwise.nil, ?_⟩
    show _ ∨ (!X.w.params.followText "set-order") = true
    cases X.w.params.followText "set-order" with
    | false => exact .inr rfl
    | true => exact .inl rfl
  · rintro i s' h' tk ⟨h4, tk4, m, rfl, n4, R4, k4⟩ hk' _
    have off : ∀ b : Addr, b ≠ s1.heap.objs.size → b ∉ [s1.heap.objs.size] := fun b hb hm => hb (List.mem_singleton.mp hm)
    exact ⟨h', tk, m, rfl, n4.at' fun o e => hk' _ o (off _ (Nat.ne_of_gt ltC)) e, R4.at fun o e => hk' _ o (off _ (Nat.ne_of_gt ltD)) e, fun b o e => hk' b o (off _ (Nat.ne_of_lt (Heap.lt_size e))) (k4 b o e)⟩
  · rintro i v s' hi hv st ⟨h4, tk4, m, rfl, n4, R4, k4⟩
    have hv2 : its[i]? = some v := by simpa using hv
    have hi2 : i < as.length := by
      have := (List.getElem?_eq_some_iff.mp hv2).1
      omega
    have ga : (as.map fun q => V.ref q.1)[i]? = some (V.ref as[i].1) := by
      rw [List.getElem?_map, List.getElem?_eq_getElem hi2]
      rfl
    obtain ⟨u, hu, ru⟩ := rv.get ga
    rw [hv2] at hu
    cases hu
    obtain rfl : v = Value.ref as[i].1 := ru
    have hti := hts as[i] (List.getElem_mem hi2)
    obtain ⟨its2, rv2, it2, hz2⟩ := I1.tuple (show SqT X.K H1 as[i].1 _ from .inl (.inl hti))
    have hkx : (compEnvC scope (cloFrom X.env.cells scope.names []) C X.env).kindOf x = some .local := lookup_relabel_local hx
    have hp : ((compEnvC scope (cloFrom X.env.cells scope.names []) C X.env).scope.kind == .class || ((compEnvC scope (cloFrom X.env.cells scope.names []) C X.env).scope.kind == .module && (compEnvC scope (cloFrom X.env.cells scope.names []) C X.env).locals != (compEnvC scope (cloFrom X.env.cells scope.names []) C X.env).globals)) = false := by
      show (scope.kind == .class || (scope.kind == .module && _)) = false
      rw [hk]
      rfl
    refine wpAny_assign_Name (wpAny_storeName_local hkx n4 (fun h5 n5 s5 => ?_) hp)
    have k5 : ∀ b o, b ≠ C → h4.get? b = some o → h5.get? b = some o := fun b o hb e => (s5.2 b hb).trans e
    have k15 : ∀ b o, s1.heap.get? b = some o → h5.get? b = some o := fun b o e => k5 b o (Nat.ne_of_lt (Nat.lt_trans (Heap.lt_size e) ltC)) (k4 b o e)
    refine wpAny_tests_nil ?_
    rw [if_pos rfl]
    obtain ⟨mb, b1, b2⟩ := I1.mod.blt
    have up : ∀ {a : Addr} {m : Str → Option Value}, X.base.Ns a m → h5.Ns a m := fun n => (n.keeps I1.bk).keeps k15
    refine wpAny_Call_Name_kw (Calls.Name_function_global hk hl (Calls.loadGlobal_builtin (show h5.Ns X.env.globals X.mg by rw [I1.ok.glob]; exact up I1.mod.glob) hm (show h5.Ns X.env.builtins mb by rw [I1.ok.blt]; exact up b1) ((b2 "len" (by decide)).trans lenB) ?_))
    refine PyProof.Rows.callWith_builtin1 ?_ rfl rfl
    refine Calls.spliced_cons (wpAny_Name (wpAny_loadName_local hk hkx n5 (by rw [if_pos rfl]) ?_) hd)
    refine Calls.spliced_nil ?_
    obtain ⟨ot, hot, rest⟩ := it2
    refine len_tuple (items := its2.toArray) ⟨ot, k15 _ _ hot, rest⟩ (by simp only [List.size_toArray]; have := rv2.length; omega) ?_
    have R5 : SetR X.w h5 D (fun k => decide (k ∈ ls.take i)) (cnt (ls.take i)) := R4.at fun o e => k5 _ o hDC e
    have gl : ls[i]? = some ((its2.toArray.size : Nat) : Int) := by
      show (as.map _)[i]? = _
      rw [List.getElem?_map, List.getElem?_eq_getElem hi2, List.size_toArray, ← rv2.length]
      rfl
    refine setR_add R5 ?_ fun h6 sb6 new => ?_
    · have := cnt_le (ls.take i)
      rw [List.length_take] at this
      omega
    · have tk1 : ls.take (i + 1) = ls.take i ++ [((its2.toArray.size : Nat) : Int)] := by
        rw [List.take_add_one, gl]
        rfl
      have k6 : ∀ b o, b ≠ D → h5.get? b = some o → h6.get? b = some o := fun b o hb e => (sb6.2 b hb).trans e
      refine ⟨⟨h6, _, _, rfl, n5.at' fun o e => k6 _ o (Ne.symm hDC) e, ?_, fun b o e => k6 b o (Nat.ne_of_lt (Nat.lt_trans (Heap.lt_size e) ltD)) (k15 b o e)⟩, ?_⟩
      · rw [tk1, cnt_snoc]
        have e1 : (if decide (((its2.toArray.size : Nat) : Int) ∈ ls.take i) = true then cnt (ls.take i) else cnt (ls.take i) + 1) = (if ((its2.toArray.size : Nat) : Int) ∈ ls.take i then cnt (ls.take i) else cnt (ls.take i) + 1) := by
          by_cases z : ((its2.toArray.size : Nat) : Int) ∈ ls.take i
          · rw [if_pos z, if_pos (decide_eq_true z)]
          · rw [if_neg z, if_neg (fun y => z (of_decide_eq_true y))]
        rw [← e1]
        refine new.congr fun k => ?_
        rw [Bool.eq_iff_iff]
        simp
      · have a1 : s1.heap.objs.size ≠ C := Nat.ne_of_lt ltC
        have a2 : s1.heap.objs.size ≠ D := Nat.ne_of_lt ltD
        have a3 : l ≠ C := Nat.ne_of_lt (Nat.lt_trans hlt ltC)
        have a4 : l ≠ D := Nat.ne_of_lt (Nat.lt_trans hlt ltD)
        exact ⟨st.1.at fun o e => k6 _ o a2 (k5 _ o a1 e), st.2.at fun o e => k6 _ o a4 (k5 _ o a3 e)⟩
  · rintro s' ⟨h4, tk4, m, rfl, n4, R4, k4⟩
    refine ⟨m, n4, fun h5 sb => ?_⟩
    refine Calls.spliced_nil ?_
    have k5 : ∀ b o, b ≠ C → h4.get? b = some o → h5.get? b = some o := fun b o hb e => (sb.2 b hb).trans e
    obtain ⟨o, es, ep, t, ho, hx9, hd9, _, _, _, hb9, hf9, hn9, _⟩ := R4
    have el : ls.take its.toArray.size = ls := List.take_of_length_le (by rw [List.size_toArray, len, hls]; exact Nat.le_refl _)
    rw [el] at hn9
    have sm := cnt_le ls
    refine call_len_set (k5 _ _ hDC ho) hx9 hd9 hf9 (by omega) ?_
    subst hs2
    refine ⟨.int _, H1, I1.kept fun b u e => k5 b u (Nat.ne_of_lt (Nat.lt_trans (Heap.lt_size e) ltC)) (k4 b u e), ⟨tk4 + 1, by rw [hn9]⟩, q⟩
/-! sum(tuple) -/
theorem preSum_take (ns : List Int) : ∀ k, preSum (fun i => ns.getD i 0) k = (ns.take k).sum
  | 0 => rfl
  | k + 1 => by
    show preSum (fun i => ns.getD i 0) k + ns.getD k 0 = _
    rw [preSum_take ns k, List.take_add_one, List.getD_eq_getElem?_getD]
    cases ns[k]? with
    | none => simp
    | some x => simp
def rSumT (K : PySem.W.Frag) : List V → Hp → VK → Prop := fun vs H Q => ∃ (a : Addr) (ns : List Int), vs = [V.ref a] ∧ SqT K H a (ns.map V.int) ∧ Q (.int ns.sum) H
theorem cr_sumT {X : Cx} (hc : X.calm = true) : CallR X (.builtin "sum") (rSumT X.K) := by
  intro pins s σ H vs us Q I r h
  obtain ⟨a, ns, rfl, hs, q⟩ := h
  obtain ⟨its, rv, ht, _⟩ := I.tuple hs
  rw [Vals.ref1 r]
  have hh := I.ok.hd hc
  have lta : a < s.heap.objs.size := by
    obtain ⟨o, ho, _⟩ := ht
    exact Heap.lt_size ho
  have hl := rv.length
  rw [List.length_map] at hl
  refine call_sum_walkG (wpAny_pyIter_tuple (show s.heap.IsTuple a its.toArray from ht) ⟨s.heap.objs.size, _, _, _, _, _, fun i => ns.getD i 0, rfl, Walks.tuple (A := X.A.in1) hh s.heap.objs.size a (Nat.ne_of_lt lta) its.toArray, ⟨⟨_, Heap.get?_push_size _ rfl, rfl, rfl⟩, (show s.heap.IsTuple a its.toArray from ht).at fun o e => Heap.get?_push_of_some _ e⟩, fun b hb => ?_, fun i v hv => ?_, fun h' tk t' hk => ?_⟩)
  · show b < (s.heap.push _).objs.size
    rw [Heap.size_push]
    rcases List.mem_cons.mp hb with z | z
    · rw [z]
      exact Nat.lt_succ_self _
    · rw [List.mem_singleton.mp z]
      exact Nat.lt_succ_of_lt lta
  · have hv2 : its[i]? = some v := by simpa using hv
    have hi : i < ns.length := by
      have := (List.getElem?_eq_some_iff.mp hv2).1
      omega
    obtain ⟨u, hu, ru⟩ := rv.get (show (ns.map V.int)[i]? = some (V.int ns[i]) by rw [List.getElem?_map, List.getElem?_eq_getElem hi]; rfl)
    rw [hv2] at hu
    cases hu
    obtain ⟨t, rfl⟩ := (show ∃ t, v = Value.int ns[i] t from ru)
    exact ⟨t, by
      show Value.int ns[i] t = Value.int (ns.getD i 0) t
      rw [List.getD_eq_getElem?_getD, List.getElem?_eq_getElem hi]
      rfl⟩
  · rw [preSum_take, List.take_of_length_le (by rw [List.size_toArray]; omega)]
    refine ⟨.int _, H, I.kept fun b o e => hk b o (fun z => ?_) (Heap.get?_push_of_some _ e), ⟨_, rfl⟩, q⟩
    rw [List.mem_singleton] at z
    rw [z] at e
    exact Nat.lt_irrefl _ (Heap.lt_size e)
theorem sumTK {X : Cx} {K : PySem.W.Frag} (h : X.K = K) (hc : X.calm = true) : CallR X (.builtin "sum") (rSumT K) := by
  subst h
  exact cr_sumT hc
/-! len(set(xs)) of a list of numbers, not all of them others -/
def tLenSetN (K : PySem.W.Frag) (ta : TE) : TE := fun σ H Q => ta σ H fun x H1 => ∃ (l : Addr) (ns : List Int), x = .ref l ∧ SqL K H1 l (ns.map V.int) ∧ ns.length ≤ 4000 ∧ Q (.int ((PyProof.Rows.firstMet (fun i => ns.getD i 0) ns.length).length : Nat)) H1
theorem pe_lenSetN {X : Cx} {a : Expr} {ta : TE} {p p2 q pos : Pos} (hg : Gl X "len") (hm : X.mg "len" = none) (hg2 : Gl X "set") (hm2 : X.mg "set" = none) (ha : PE X a ta) (hc : X.calm = true := by rfl)
    (na : starEach [a] X.env = (false, eval a X.env) :: starEach [] X.env := by rfl) : PE X (.Call (.Name "len" p) [.Call (.Name "set" p2) [a] [] q] [] pos) (tLenSetN X.K ta) := by
  refine ⟨fun pins s σ H Q I h => ?_⟩
  refine Call_ (ld_blt I hg hm boot_len ?_)
  refine PyProof.Rows.callWith_builtin1 (PyProof.Rows.args_cons ?_ rfl) rfl rfl
  refine Call_ (ld_blt I hg2 hm2 boot_set ?_)
  refine PyProof.Rows.callWith_type1 (PyProof.Rows.args_cons (thn (ha.run pins s σ H _ I h) fun v s1 ⟨x, H1, I1, r1, q1⟩ => PyProof.Rows.args_nil ?_) na) na rfl
  obtain ⟨l, ns, rfl, hq, hl, q1⟩ := q1
  cases r1
  obtain ⟨its, r, pl, hz⟩ := I1.list hq
  have hlen : its.toArray.size = ns.length := by rw [List.size_toArray, ← r.length, List.length_map]
  refine call_set_list (I1.ok.hd hc) pl.isList (by simpa using intsAre_of r) (by rw [hlen]; unfold scanBound; omega) fun h' tk hS hk => ?_
  refine PyProof.Rows.args_nil ?_
  rw [hlen] at hS
  have hle := PyProof.Rows.firstMet_length_le (fun i => ns.getD i 0) ns.length
  obtain ⟨o, es, ep, t, ho, hex, hd, _, _, _, hf, hn⟩ := hS
  have I2 : Inv X pins σ H1 { s1 with heap := h', toks := tk } := I1.kept fun b o e => hk b o (Heap.lt_size e) e
  exact call_len_set ho hex hd hf (by rw [hn] <;> omega) ⟨.int _, H1, I2.tok _, ⟨_, by rw [hn]⟩, q1⟩
theorem nx_via {t u : TS} {D : Ends} {r : VK} {k c : L2.St → Hp → Prop} {σ : L2.St} {H : Hp} (R : L2.St → Hp → Prop) (h1 : ∀ N : L2.St → Hp → Prop, (∀ σ H, R σ H → N σ H) → t { D with nx := N } σ H) (h2 : ∀ σ H, R σ H → u D σ H) : Ends.nx { nx := tSeq t u D, rt := r, bk := k, ct := c } σ H := h1 _ h2
theorem seq_via {t u : TS} {D : Ends} {σ : L2.St} {H : Hp} (R : L2.St → Hp → Prop) (h1 : ∀ N : L2.St → Hp → Prop, (∀ σ H, R σ H → N σ H) → t { D with nx := N } σ H) (h2 : ∀ σ H, R σ H → u D σ H) : tSeq t u D σ H := h1 _ h2
/-! heaps with tables -/
theorem trip0 : TriplesOk (#[] : Array Value).toList := trivial
structure Sam (H H' : Hp) : Prop where
  obj : ∀ b o, (∀ ps, o ≠ .tbl ps) → H b = some o → H' b = some o
  tab : ∀ b ps, H b = some (.tbl ps) → ∃ ps', H' b = some (.tbl ps') ∧ (TriplesOk ps.toList → TriplesOk ps'.toList)
theorem Sam.of {H H' : Hp} (s : Same H H') : Sam H H' := ⟨fun b o _ e => s b o e, fun b ps e => ⟨ps, s b _ e, fun z => z⟩⟩
theorem Sam.refl (H : Hp) : Sam H H := .of (Same.refl H)
theorem Sam.trans {H H1 H2 : Hp} (a : Sam H H1) (b : Sam H1 H2) : Sam H H2 := ⟨fun c o n e => b.obj c o n (a.obj c o n e), fun c ps e => by
  obtain ⟨p1, e1, t1⟩ := a.tab c ps e
  obtain ⟨p2, e2, t2⟩ := b.tab c p1 e1
  exact ⟨p2, e2, fun z => t2 (t1 z)⟩⟩
theorem Sam.tabG {H H' : Hp} {P : Addr} (a : Sam H H') (t : GxR.TabG H P) : GxR.TabG H' P := by
  obtain ⟨ps, e, z⟩ := t
  obtain ⟨p1, e1, t1⟩ := a.tab P ps e
  exact ⟨p1, e1, t1 z⟩
theorem Sam.tup {H H' : Hp} {a : Addr} {xs : List V} (s : Sam H H') (h : H a = some (.tup xs)) : H' a = some (.tup xs) := s.obj _ _ (fun _ z => by cases z) h
theorem Sam.lst {H H' : Hp} {a : Addr} {xs : List V} (s : Sam H H') (h : H a = some (.lst xs)) : H' a = some (.lst xs) := s.obj _ _ (fun _ z => by cases z) h
theorem Sam.free {H H' : Hp} (s : Sam H H') {l : Addr} (h : H' l = none) : H l = none := by
  cases q : H l with
  | none => rfl
  | some o =>
    cases o with
    | tbl ps =>
      obtain ⟨p1, e1, _⟩ := s.tab l ps q
      rw [e1] at h
      cases h
    | _ =>
      rw [s.obj l _ (fun _ z => by cases z) q] at h
      cases h
theorem Sam.tabbed {P : Addr} {H H' : Hp} (g : GxR.TabG H P) (t : GxR.Tabbed P H H') : Sam H H' := by
  obtain ⟨⟨p1, e1, z1⟩, k⟩ := t
  obtain ⟨p0, e0, _⟩ := g
  refine ⟨fun b o n e => ?_, fun b ps e => ?_⟩
  · by_cases hb : b = P
    · rw [hb, e0] at e
      exact absurd (Option.some.inj e).symm (n p0)
    · rw [k b hb]
      exact e
  · by_cases hb : b = P
    · rw [hb]
      exact ⟨p1, e1, fun _ => z1⟩
    · exact ⟨ps, by rw [k b hb]; exact e, fun z => z⟩
theorem sam_newer {H H' : Hp} {q : Addr} {o : HO} (a : Sam H H') (n : H q = none) : Sam H (upd H' q o) := ⟨fun c x hx e => by
    rw [upd_ne (ne_of_none e n)]
    exact a.obj c x hx e, fun c ps e => by
    obtain ⟨p1, e1, t1⟩ := a.tab c ps e
    exact ⟨p1, by rw [upd_ne (ne_of_none e n)]; exact e1, t1⟩⟩
/-- all but the box stays, tables grow -/
structure Bus (p : Addr) (H H' : Hp) : Prop where
  obj : ∀ b o, b ≠ p → (∀ ps, o ≠ .tbl ps) → H b = some o → H' b = some o
  tab : ∀ b ps, b ≠ p → H b = some (.tbl ps) → ∃ ps', H' b = some (.tbl ps') ∧ (TriplesOk ps.toList → TriplesOk ps'.toList)
theorem Bus.of {p : Addr} {H H' : Hp} (s : But p H H') : Bus p H H' := ⟨fun b o n _ e => s b o n e, fun b ps n e => ⟨ps, s b _ n e, fun z => z⟩⟩
theorem Bus.sam {p : Addr} {H H' : Hp} (s : Sam H H') : Bus p H H' := ⟨fun b o _ n e => s.obj b o n e, fun b ps _ e => s.tab b ps e⟩
theorem Bus.refl (p : Addr) (H : Hp) : Bus p H H := .of (But.refl p H)
theorem Bus.trans {p : Addr} {H H1 H2 : Hp} (a : Bus p H H1) (b : Bus p H1 H2) : Bus p H H2 := ⟨fun c o h n e => b.obj c o h n (a.obj c o h n e), fun c ps h e => by
  obtain ⟨p1, e1, t1⟩ := a.tab c ps h e
  obtain ⟨p2, e2, t2⟩ := b.tab c p1 h e1
  exact ⟨p2, e2, fun z => t2 (t1 z)⟩⟩
theorem Bus.tup {p : Addr} {H H' : Hp} {n : Nat} {a : Addr} {xs : List V} (s : Bus p H H') (B : Bx H p n) (h : H a = some (.tup xs)) : H' a = some (.tup xs) := s.obj _ _ (B.ne_tup h) (fun _ z => by cases z) h
theorem Bus.lst {p : Addr} {H H' : Hp} {a : Addr} {xs : List V} (s : Bus p H H') (ne : a ≠ p) (h : H a = some (.lst xs)) : H' a = some (.lst xs) := s.obj _ _ ne (fun _ z => by cases z) h
theorem Bus.tabG {p : Addr} {H H' : Hp} {n : Nat} {P : Addr} (s : Bus p H H') (B : Bx H p n) (t : GxR.TabG H P) : GxR.TabG H' P := by
  obtain ⟨ps, e, z⟩ := t
  obtain ⟨a, b, c, hp, _⟩ := B
  obtain ⟨p1, e1, t1⟩ := s.tab P ps (ne_of e hp (fun z => by cases z)) e
  exact ⟨p1, e1, t1 z⟩
theorem Bus.new {p q : Addr} {H H' : Hp} {o : HO} (a : Bus p H H') (n : H' q = none) : Bus p H (upd H' q o) := a.trans (.of ((But.refl p H').new n))
/-- a thing made since H may change -/
theorem bus_newer {p q : Addr} {H H' : Hp} {o : HO} (a : Bus p H H') (n : H q = none) : Bus p H (upd H' q o) := ⟨fun c x h hx e => by
    rw [upd_ne (ne_of_none e n)]
    exact a.obj c x h hx e, fun c ps h e => by
    obtain ⟨p1, e1, t1⟩ := a.tab c ps h e
    exact ⟨p1, by rw [upd_ne (ne_of_none e n)]; exact e1, t1⟩⟩
theorem Bus.free {p : Addr} {H H' : Hp} {n : Nat} (s : Bus p H H') (B : Bx H p n) (B' : ∃ m, Bx H' p m) {l : Addr} (h : H' l = none) : H l = none := by
  cases q : H l with
  | none => rfl
  | some o =>
    have nl : l ≠ p := fun z => by
      obtain ⟨m, _, _, _, hp, _⟩ := B'
      rw [z, hp] at h
      cases h
    cases o with
    | tbl ps =>
      obtain ⟨p1, e1, _⟩ := s.tab l ps nl q
      rw [e1] at h
      cases h
    | _ =>
      rw [s.obj l _ nl (fun _ z => by cases z) q] at h
      cases h
theorem Bx.sam {H H' : Hp} {p : Addr} {n : Nat} (h : Bx H p n) (s : Sam H H') : Bx H' p n := by
  obtain ⟨a, b, c, hp, r⟩ := h
  exact ⟨a, b, c, s.lst hp, r⟩
theorem bus_same {p : Addr} {H H1 H2 : Hp} (n : H p = none) (a : Sam H H1) (b : Bus p H1 H2) : Sam H H2 := ⟨fun c x h e => b.obj c x (ne_of_none e n) h (a.obj c x h e), fun c ps e => by
  obtain ⟨p1, e1, t1⟩ := a.tab c ps e
  obtain ⟨p2, e2, t2⟩ := b.tab c p1 (ne_of_none e n) e1
  exact ⟨p2, e2, fun z => t2 (t1 z)⟩⟩
theorem ne_new {H : Hp} {p q : Addr} {n : Nat} (B : Bx H p n) (nq : H q = none) : q ≠ p := fun e => by
  obtain ⟨_, _, _, hp, _⟩ := B
  rw [e, hp] at nq
  cases nq
/-! a tuple so many times -/
theorem tuple_once (l : Addr) (items : Array Value) (n : Nat) (dd : Option Addr) (sl : Array (Option Value)) (u : Tok) :
    Meets (Builtin.«tuple.__mul__» ⟨[.ref l, .int 1 u], []⟩) (fun _ R s => s.heap.get? l = some { cls := .type "tuple", dict := dd, data := .seq items n, slots := sl } ∧ R (.ok (.ret (Value.ref l))) { s with toks := s.toks }) :=
  .of_wp fun prog w A R s h => by
    obtain ⟨hp, g, d, tk, os⟩ := s
    obtain ⟨hl, h⟩ := h
    have f1 := AutoSeq1.idx_int
    have c1 : (items.isEmpty || (1 : Int) == 1) = true := by simp
    wp_walk using wpAny_loadPart' hl
    repeat (first
      | (refine wpAny_ite_true (decide_eq_true c1) ?_; wp_walk using wpAny_loadPart' hl)
      | (refine wpAny_ite_false (decide_eq_false (by decide)) ?_; wp_walk using wpAny_loadPart' hl))
    exact ⟨_, rfl, h⟩
def rRepA (K : PySem.W.Frag) : R2 := fun x y H Q => ∃ (l : Addr) (k : Nat) (xs : List V), x = .ref l ∧ y = .int (k : Nat) ∧ SqT K H l xs ∧ xs ≠ [] ∧ 1 ≤ k ∧ xs.length * k ≤ 1000000 ∧ (k = 1 → Q (.ref l) H) ∧
  (2 ≤ k → ∀ p, H p = none → Q (.ref p) (upd H p (.tup (List.replicate k xs).flatten)))
theorem op_repA {X : Cx} : OpR X (binaryOp .Mult) (rRepA X.K) := by
  intro pins s σ H x y v u Q I rx ry h
  obtain ⟨l, k, xs, rfl, rfl, hT, hne, h1, hz, q1, q2⟩ := h
  cases rx
  obtain ⟨t, rfl⟩ := ry
  obtain ⟨its, r, ⟨⟨cls, dd, data, sl⟩, ho, hc, n, hd⟩, hs⟩ := I.tuple hT
  simp only at hc hd
  subst hc hd
  have lx : 0 < xs.length := List.length_pos_iff.mpr hne
  have le : its.length = xs.length := r.length.symm
  have ke : k * xs.length ≤ 1000000 := by
    rw [Nat.mul_comm]
    exact hz
  have kl : k ≤ 1000000 := Nat.le_trans (Nat.le_mul_of_pos_right k lx) ke
  have ne : its.toArray.isEmpty = false := by
    cases its with
    | nil =>
      rw [← le] at lx
      cases lx
    | cons a b => rfl
  by_cases k1 : k = 1
  · subst k1
    refine wpAny_binaryOp_repeat_ref (T := "tuple") (U := "int") (by decide) ⟨_, ho, rfl⟩ (fun s' => typeIs_int s' _ t) noFill_tuple_mul F.fills_int_mul F.slot_int_rmul repeat_tuple F.slot_int_index.lookup
      (call_meets F.slot_int_rmul (typeIs_int s _ t) F.entry_int_rmul (F.args_int_rmul_2 _ _) (int_rmul_tuple _ t l its.toArray n dd sl)
        ⟨ho, rfl, ⟨_, ho, rfl⟩, call_meets F.slot_tuple_mul ⟨_, ho, rfl⟩ F.entry_tuple_mul (F.args_tuple_mul_2 _ _) (tuple_once l its.toArray n dd sl t) ⟨ho, ?_⟩⟩)
    exact ⟨.ref l, H, I, rfl, q1 rfl⟩
  · have k2 : 2 ≤ k := by omega
    have sz : its.toArray.size = xs.length := by rw [List.size_toArray, le]
    have pr : ((its.toArray.size : Nat) : Int) * (k : Int) ≤ 1000000 := by
      rw [sz, ← Int.natCast_mul]
      omega
    have fl : (List.replicate k its).flatten.length ≤ sizeLine := by
      rw [PyProof.Rows.lm_len_rep_flat, le, sizeLine_eq]
      omega
    have d0 : (decide ((k : Int) < -(2 ^ 63)) || decide ((k : Int) ≥ 2 ^ 63)) = false := by
      rw [decide_eq_false (show ¬ (k : Int) < -(2 ^ 63) by omega), decide_eq_false (show ¬ (k : Int) ≥ 2 ^ 63 by omega)] <;> rfl
    have d1 : (its.toArray.isEmpty || (k : Int) == 1) = false := by
      rw [ne, Bool.false_or]
      exact beq_eq_false_iff_ne.mpr (by omega)
    have d2 : (decide ((k : Int) ≤ 0) || its.toArray.isEmpty) = false := by
      rw [ne, Bool.or_false]
      exact decide_eq_false (by omega)
    have d4 : Builtin.Tuple.tupleTooMany (((its.toArray.size : Nat) : Int) * (k : Int)) = false := by
      unfold Builtin.Tuple.tupleTooMany
      rw [sizeLine_eq]
      exact decide_eq_false (by omega)
    refine wpAny_binaryOp_repeat_ref (T := "tuple") (U := "int") (by decide) ⟨_, ho, rfl⟩ (fun s' => typeIs_int s' _ t) noFill_tuple_mul F.fills_int_mul F.slot_int_rmul repeat_tuple F.slot_int_index.lookup
      (call_meets F.slot_int_rmul (typeIs_int s _ t) F.entry_int_rmul (F.args_int_rmul_2 _ _) (int_rmul_tuple _ t l its.toArray n dd sl)
        ⟨ho, rfl, ⟨_, ho, rfl⟩, call_meets F.slot_tuple_mul ⟨_, ho, rfl⟩ F.entry_tuple_mul (F.args_tuple_mul_2 _ _) (tuple_mulW l its.toArray n dd sl (k : Int) t d0 d1 d2 (by omega) d4 (by rw [Int.toNat_natCast, size_rep, List.size_toArray]; exact fl)) ⟨ho, ?_⟩⟩)
    rw [Int.toNat_natCast, size_rep]
    refine ⟨.ref s.heap.objs.size, _, I.laid (t' := s.toks) (o := .tup (List.replicate k xs).flatten) (fun b ob q => Heap.get?_push_of_some _ q) (Nat.le_refl _) ⟨?_, _, r.rep k, IsTup.new _ _⟩, rfl, q2 k2 _ (I.hok.fresh (Nat.le_refl _))⟩
    rw [PyProof.Rows.lm_len_rep_flat, sizeLine_eq]
    omega
/-! the law's own rows -/
def Bits (rs : List Int) : Prop := ∀ x, x ∈ rs → x = 0 ∨ x = 1
theorem Bits.snoc {rs : List Int} {x : Int} (h : Bits rs) (hx : x = 0 ∨ x = 1) : Bits (rs ++ [x]) := fun y hy => by
  rcases List.mem_append.mp hy with hy | hy
  · exact h y hy
  · rw [List.mem_singleton] at hy
    rw [hy]
    exact hx
theorem but_newer {p q : Addr} {H H' : Hp} {o : HO} (a : But p H H') (n : H q = none) : But p H (upd H' q o) := fun c x hn e => by
  rw [upd_ne (ne_of_none e n)]
  exact a c x hn e
theorem Bx.other {H : Hp} {p q : Addr} {n : Nat} {o : HO} (h : Bx H p n) (nq : q ≠ p) : Bx (L2.upd H q o) p n := by
  obtain ⟨a, b, c, hp, r⟩ := h
  exact ⟨a, b, c, by rw [upd_ne (Ne.symm nq)]; exact hp, r⟩
def PV (p D : Addr) (HX : Hp) (k i : Nat) (H1 : Hp) : Prop := ∃ rs : List Int, rs.length = i ∧ Bits rs ∧ But p HX H1 ∧ Bx H1 p (k + i) ∧ H1 D = some (.lst (rs.map V.int))
theorem pv_start {p D : Addr} {HX : Hp} {k : Nat} (nD : HX D = none) (B : Bx HX p k) : PV p D HX k 0 (upd HX D (.lst [])) := ⟨[], rfl, fun _ h => (by cases h), (But.refl p HX).new nD, B.new nD, upd_same⟩
theorem pv_step {p D : Addr} {HX H1 H4 : Hp} {k i : Nat} {x : Int} (nD : HX D = none) (Dp : D ≠ p) (h : PV p D HX k i H1) (b : But p H1 H4) (B : Bx H4 p (k + (i + 1))) (hi : i < 100000) (hx : x = 0 ∨ x = 1) :
    ∃ acc, H4 D = some (.lst acc) ∧ acc.length < sizeLine ∧ PV p D HX k (i + 1) (upd H4 D (.lst (acc ++ [.int x]))) := by
  obtain ⟨rs, hl, hb, b1, _, hD⟩ := h
  have hsl : sizeLine = 16777216 := by decide
  refine ⟨_, b _ _ Dp hD, by rw [List.length_map]; omega, rs ++ [x], by rw [List.length_append, hl]; rfl, hb.snoc hx, but_newer (b1.trans b) nD, B.other Dp, ?_⟩
  rw [upd_same, List.map_append]
  rfl
theorem rep_one (m : Nat) (x : Int) : (List.replicate m [V.int x]).flatten = (List.replicate m x).map V.int := by
  rw [List.map_replicate]
  induction m with
  | zero => rfl
  | succ m ih => rw [List.replicate_succ, List.flatten_cons, ih, List.replicate_succ]; rfl
def sp__law_row (_ : PySem.W.Frag) : Sp := fun vs H Q _ => ∃ (p : Addr) (m n : Nat), vs = [.ref p, .int (m : Nat)] ∧ Bx H p n ∧ 1 ≤ m ∧ m ≤ 4096 ∧ n < 1000000000 ∧
  ∀ H' a (rs : List Int), But p H H' → Bx H' p (n + 5000) → H' a = some (.tup (rs.map V.int)) → rs.length = m → Bits rs → Q (.ref a) H'
theorem ok__law_row (T : Defs K mg) (TT : Tabs T base) : FnOk P w K mg base CX0 2 T.f__law_row T.fd__law_row ["_law_box_here", "_law_long_here"] (sp__law_row K) := by
  have G__law_take : FnOk P w K mg base CX0 1 T.f__law_take T.fd__law_take ["_law_box_here", "_law_many"] (sp__law_take K) := ok__law_take T TT
  refine T.F__law_row.ok sc__law_row (fun vs H Q E h => ?_) (fun cdv A outer s H vs Q E hr h => ?_)
  · obtain ⟨p, m, n, rfl, hB, hm, hm2, hn, q⟩ := h
    rfl
  · obtain ⟨p, m, n, rfl, hB, hm, hm2, hn, q⟩ := h
    refine ⟨_, PSs.nox (pss_cons (ps_set (i := 2) sc__law_row.nd rfl (.inl rfl) (pe_call G__law_take (hr.mono (by decide)) (by rfl) T.g__law_take T.F__law_take.kp T.b__law_take .nil pass0 (pa_cons (pv 0) (pa_cons pe_int pa_nil))))
    (pss_cons (ps_if (pt_cmpR op_eq (pv 2) pe_int (nomark _)) (pss_one (ps_ret (pe_op op_repA (pe_tup (pa_cons (pe_call G__law_take (hr.mono (by decide)) (by rfl) T.g__law_take T.F__law_take.kp T.b__law_take .nil pass0 (pa_cons (pv 0) (pa_cons pe_int pa_nil))) pa_nil)) (pv 1)))) pss_nil)
    (pss_cons (ps_if (pt_cmpR op_eq (pv 2) pe_int (nomark _)) (pss_cons (ps_asg (pe_tup (pa_cons (pe_call G__law_take (hr.mono (by decide)) (by rfl) T.g__law_take T.F__law_take.kp T.b__law_take .nil pass0 (pa_cons (pv 0) (pa_cons (pv 1) pa_nil))) (pa_cons (pe_call G__law_take (hr.mono (by decide)) (by rfl) T.g__law_take T.F__law_take.kp T.b__law_take .nil pass0 (pa_cons (pv 0) (pa_cons pe_int pa_nil))) pa_nil))) (pg_tup rfl (pgs_cons (pg_name (i := 3) sc__law_row.nd rfl (.inr rfl)) (pgs_cons (pg_name (i := 4) sc__law_row.nd rfl (.inr rfl)) pgs_nil))))
    (pss_one (ps_ret (pe_callTy call_tuple_of (by rfl) T.m_tuple bt_tuple (pa_cons (pe_lc (own := [("_law_place", 7)]) (g := gName 7) (tt := tYes) rfl sc__law_row.nd (pi_range1 (by rfl) T.m_range (pa_cons (pv 1) pa_nil)) (blkOk_by (N := N__law_row) (sc := defScope s__law_row) (by decide +kernel)) (fun _ _ _ _ _ => (pg_name (i := 7) sc__law_row.nd rfl (.inl rfl))) (fun _ _ _ _ _ => pts_nil) (fun _ _ _ _ _ => (pe_ifExp (pt_cmpR op_eq (pv 7) (pv 3) (nomark _)) (pv 4) (pe_op op_sub pe_int (pv 4))))) pa_nil))))) pss_nil)
    (pss_cons (ps_if (pt_cmpR op_eq (pv 2) pe_int (nomark _)) (pss_cons (ps_asg (pe_tup (pa_cons (pe_op op_add pe_int (pe_call G__law_take (hr.mono (by decide)) (by rfl) T.g__law_take T.F__law_take.kp T.b__law_take .nil pass0 (pa_cons (pv 0) (pa_cons pe_int pa_nil)))) (pa_cons (pe_call G__law_take (hr.mono (by decide)) (by rfl) T.g__law_take T.F__law_take.kp T.b__law_take .nil pass0 (pa_cons (pv 0) (pa_cons pe_int pa_nil))) pa_nil))) (pg_tup rfl (pgs_cons (pg_name (i := 5) sc__law_row.nd rfl (.inr rfl)) (pgs_cons (pg_name (i := 6) sc__law_row.nd rfl (.inr rfl)) pgs_nil))))
    (pss_one (ps_ret (pe_callTy call_tuple_of (by rfl) T.m_tuple bt_tuple (pa_cons (pe_lc (own := [("_law_place", 7)]) (g := gName 7) (tt := tYes) rfl sc__law_row.nd (pi_range1 (by rfl) T.m_range (pa_cons (pv 1) pa_nil)) (blkOk_by (N := N__law_row) (sc := defScope s__law_row) (by decide +kernel)) (fun _ _ _ _ _ => (pg_name (i := 7) sc__law_row.nd rfl (.inl rfl))) (fun _ _ _ _ _ => pts_nil) (fun _ _ _ _ _ => (pe_callTy call_int1 (by rfl) T.m_int bt_int (pa_cons (pe_cmpR op_eq (pe_op op_mod (pe_op op_add (pv 7) (pv 6)) (pv 5)) pe_int (nomark _)) pa_nil)))) pa_nil))))) pss_nil)
    (pss_one (ps_ret (pe_callTy call_tuple_of (by rfl) T.m_tuple bt_tuple (pa_cons (pe_lc (own := [("_law_place", 7)]) (g := gName 7) (tt := tYes) rfl sc__law_row.nd (pi_range1 (by rfl) T.m_range (pa_cons (pv 1) pa_nil)) (blkOk_by (N := N__law_row) (sc := defScope s__law_row) (by decide +kernel)) (fun _ _ _ _ _ => (pg_name (i := 7) sc__law_row.nd rfl (.inl rfl))) (fun _ _ _ _ _ => pts_nil) (fun _ _ _ _ _ => (pe_call G__law_take (hr.mono (by decide)) (by rfl) T.g__law_take T.F__law_take.kp T.b__law_take .nil pass0 (pa_cons (pv 0) (pa_cons pe_int pa_nil))))) pa_nil)))))))), ?_⟩
    refine ⟨.ref p, rfl, p, 5, n, rfl, hB, by decide, by decide, by omega, fun H1 r1 b1 B1 l1 u1 => ?_⟩
    refine ⟨.int r1, rfl, rfl, _, rfl, ite2 (fun _ => ?_) (fun _ => ?_)⟩
    · refine ⟨.ref p, rfl, p, 2, n + 1, rfl, B1, by decide, by decide, by omega, fun H2 r2 b2 B2 l2 u2 => ?_⟩
      have hbit : r2 = 0 ∨ r2 = 1 := by omega
      refine ⟨(show 1 ≤ sizeLine by decide), fun t nt => ?_⟩
      refine ⟨.int (m : Nat), rfl, t, m, _, rfl, rfl, SqT.mk upd_same, by simp, hm, (show 1 * m ≤ 1000000 by omega), fun z => ?_, fun z a na => ?_⟩
      · exact q _ t [r2] ((b1.trans b2).new nt) ((B2.new nt).mono (by omega)) upd_same z.symm (fun x hx => by
          rw [List.mem_singleton] at hx
          rw [hx]
          exact hbit)
      · refine q _ a (List.replicate m r2) (((b1.trans b2).new nt).new na) (((B2.new nt).new na).mono (by omega)) ?_ List.length_replicate (fun x hx => ?_)
        · rw [upd_same, rep_one]
        · rw [List.eq_of_mem_replicate hx]
          exact hbit
    refine ⟨.int r1, rfl, rfl, _, rfl, ite2 (fun _ => ?_) (fun _ => ?_)⟩
    · refine ⟨.ref p, rfl, .int (m : Nat), rfl, p, m, n + 1, rfl, B1, by omega, by omega, by omega, fun H2 r2 b2 B2 l2 u2 => ?_⟩
      refine ⟨.ref p, rfl, p, 2, n + 2, rfl, B2, by decide, by decide, by omega, fun H3 r3 b3 B3 l3 u3 => ?_⟩
      refine ⟨(show 2 ≤ sizeLine by decide), fun t nt => ?_⟩
      refine ⟨t, _, rfl, SqT.mk upd_same, rfl, _, _, rfl, _, _, rfl, rfl, ?_⟩
      have B4 := B3.new (o := .tup [.int r2, .int r3]) nt
      have b4 := ((b1.trans b2).trans b3).new (o := .tup [.int r2, .int r3]) nt
      generalize upd H3 t (.tup [.int r2, .int r3]) = H4 at *
      refine ⟨.int (m : Nat), rfl, m, rfl, by omega, by omega, fun D nD => ?_⟩
      refine lc_range (PV p D H4 (n + 3)) (pv_start nD B4) (fun i H5 hi h5 => ?_) (fun H5 h5 => ?_)
      · refine ⟨rfl, yes_ite ?_⟩
        have h5' := h5
        obtain ⟨_, _, _, _, B5, _⟩ := h5'
        have st : ∀ x : Int, (x = 0 ∨ x = 1) → _ := fun x hx => pv_step (H4 := H5) nD (ne_new B4 nD) h5 (But.refl p H5) (B5.mono (by omega)) (by omega) hx
        refine ⟨_, rfl, .int r2, rfl, rfl, _, rfl, ite2 (fun _ => ?_) (fun _ => ?_)⟩
        · exact ⟨.int r3, rfl, st r3 (by omega)⟩
        · exact ⟨.int r3, rfl, _, _, rfl, rfl, st (1 - r3) (by omega)⟩
      · obtain ⟨rs, hl, hb, b5, B5, hD⟩ := h5
        refine ⟨D, _, rfl, .inl ⟨SqL.mk hD, fun l nl => ?_⟩⟩
        exact q _ l rs ((b4.trans b5).new nl) ((B5.new nl).mono (by omega)) upd_same (by omega) hb
    refine ⟨.int r1, rfl, rfl, _, rfl, ite2 (fun _ => ?_) (fun _ => ?_)⟩
    · refine ⟨.ref p, rfl, p, 5, n + 1, rfl, B1, by omega, by omega, by omega, fun H2 r2 b2 B2 l2 u2 => ⟨_, _, rfl, rfl, ?_⟩⟩
      refine ⟨.ref p, rfl, p, 2, n + 2, rfl, B2, by decide, by decide, by omega, fun H3 r3 b3 B3 l3 u3 => ?_⟩
      refine ⟨(show 2 ≤ sizeLine by decide), fun t nt => ?_⟩
      refine ⟨t, _, rfl, SqT.mk upd_same, rfl, _, _, rfl, _, _, rfl, rfl, ?_⟩
      have B4 := B3.new (o := .tup [.int (2 + r2), .int r3]) nt
      have b4 := ((b1.trans b2).trans b3).new (o := .tup [.int (2 + r2), .int r3]) nt
      generalize upd H3 t (.tup [.int (2 + r2), .int r3]) = H4 at *
      refine ⟨.int (m : Nat), rfl, m, rfl, by omega, by omega, fun D nD => ?_⟩
      refine lc_range (PV p D H4 (n + 3)) (pv_start nD B4) (fun i H5 hi h5 => ?_) (fun H5 h5 => ?_)
      · refine ⟨rfl, yes_ite ?_⟩
        have h5' := h5
        obtain ⟨_, _, _, _, B5, _⟩ := h5'
        have st : ∀ x : Int, (x = 0 ∨ x = 1) → _ := fun x hx => pv_step (H4 := H5) nD (ne_new B4 nD) h5 (But.refl p H5) (B5.mono (by omega)) (by omega) hx
        refine ⟨_, rfl, .int r3, rfl, _, _, rfl, rfl, .int (2 + r2), rfl, _, _, rfl, rfl, (show (0 : Int) < 2 + r2 by omega), rfl, .inr ⟨_, rfl, st _ ?_⟩⟩
        split
        · exact .inr rfl
        · exact .inl rfl
      · obtain ⟨rs, hl, hb, b5, B5, hD⟩ := h5
        refine ⟨D, _, rfl, .inl ⟨SqL.mk hD, fun l nl => ?_⟩⟩
        exact q _ l rs ((b4.trans b5).new nl) ((B5.new nl).mono (by omega)) upd_same (by omega) hb
    · refine ⟨.int (m : Nat), rfl, m, rfl, by omega, by omega, fun D nD => ?_⟩
      refine lc_range (PV p D H1 (n + 1)) (pv_start nD B1) (fun i H5 hi h5 => ?_) (fun H5 h5 => ?_)
      · refine ⟨rfl, yes_ite ?_⟩
        have h5' := h5
        obtain ⟨_, _, _, _, B5, _⟩ := h5'
        refine ⟨.ref p, rfl, p, 2, n + 1 + i, rfl, B5, by decide, by decide, by omega, fun H6 r6 b6 B6 l6 u6 => ?_⟩
        exact pv_step nD (ne_new B1 nD) h5 b6 B6 (by omega) (by omega)
      · obtain ⟨rs, hl, hb, b5, B5, hD⟩ := h5
        refine ⟨D, _, rfl, .inl ⟨SqL.mk hD, fun l nl => ?_⟩⟩
        exact q _ l rs ((b1.trans b5).new nl) ((B5.new nl).mono (by omega)) upd_same (by omega) hb
def sp__law_long (_ : PySem.W.Frag) : Sp := fun vs H Q _ => ∃ (p : Addr) (n : Nat), vs = [.ref p] ∧ Bx H p n ∧ n < 1000000000 ∧
  ∀ H' (m : Nat), But p H H' → Bx H' p (n + 4) → 1 ≤ m → m ≤ 400 → Q (.int (m : Nat)) H'
theorem nat_of {x : Int} (h : 0 ≤ x) : ∃ m : Nat, x = (m : Nat) := Int.eq_ofNat_of_zero_le h
theorem ok__law_long (T : Defs K mg) (TT : Tabs T base) : FnOk P w K mg base CX0 2 T.f__law_long T.fd__law_long ["_law_box_here"] (sp__law_long K) := by
  have G__law_take : FnOk P w K mg base CX0 1 T.f__law_take T.fd__law_take ["_law_box_here", "_law_many"] (sp__law_take K) := ok__law_take T TT
  refine T.F__law_long.ok sc__law_long (fun vs H Q E h => ?_) (fun cdv A outer s H vs Q E hr h => ?_)
  · obtain ⟨p, n, rfl, hB, hn, q⟩ := h
    rfl
  · obtain ⟨p, n, rfl, hB, hn, q⟩ := h
    refine ⟨_, PSs.nox (pss_cons (ps_if (pt_cmpR op_eq (pe_call G__law_take (hr.mono (by decide)) (by rfl) T.g__law_take T.F__law_take.kp T.b__law_take .nil pass0 (pa_cons (pv 0) (pa_cons pe_int pa_nil))) pe_int (nomark _)) (pss_one (ps_ret (pe_op op_add pe_int (pe_call G__law_take (hr.mono (by decide)) (by rfl) T.g__law_take T.F__law_take.kp T.b__law_take .nil pass0 (pa_cons (pv 0) (pa_cons pe_int pa_nil)))))) pss_nil)
    (pss_one (ps_ret (pe_ix ix_list (pe_lst (pa_cons pe_int (pa_cons pe_int (pa_cons (pe_op op_add pe_int (pe_call G__law_take (hr.mono (by decide)) (by rfl) T.g__law_take T.F__law_take.kp T.b__law_take .nil pass0 (pa_cons (pv 0) (pa_cons pe_int pa_nil)))) (pa_cons (pe_op op_add pe_int (pe_call G__law_take (hr.mono (by decide)) (by rfl) T.g__law_take T.F__law_take.kp T.b__law_take .nil pass0 (pa_cons (pv 0) (pa_cons pe_int pa_nil)))) pa_nil))))) (pe_call G__law_take (hr.mono (by decide)) (by rfl) T.g__law_take T.F__law_take.kp T.b__law_take .nil pass0 (pa_cons (pv 0) (pa_cons pe_int pa_nil))) (fun _ _ => rfl))))), ?_⟩
    refine ⟨.ref p, rfl, p, 8, n, rfl, hB, by decide, by decide, by omega, fun H1 r1 b1 B1 l1 u1 => ?_⟩
    refine ⟨rfl, _, rfl, ite2 (fun _ => ?_) (fun _ => ?_)⟩
    · refine ⟨.ref p, rfl, p, 400, n + 1, rfl, B1, by decide, by decide, by omega, fun H2 r2 b2 B2 l2 u2 => ⟨_, _, rfl, rfl, ?_⟩⟩
      obtain ⟨m, em⟩ := nat_of (show 0 ≤ 1 + r2 by omega)
      show Q (.int (1 + r2)) H2
      rw [em]
      exact q H2 m (b1.trans b2) (B2.mono (by omega)) (by omega) (by omega)
    · refine ⟨.ref p, rfl, p, 12, n + 1, rfl, B1, by decide, by decide, by omega, fun H2 r2 b2 B2 l2 u2 => ⟨_, _, rfl, rfl, ?_⟩⟩
      refine ⟨.ref p, rfl, p, 40, n + 2, rfl, B2, by decide, by decide, by omega, fun H3 r3 b3 B3 l3 u3 => ⟨_, _, rfl, rfl, ?_⟩⟩
      refine ⟨(show 4 ≤ sizeLine by decide), fun l nl => ?_⟩
      refine ⟨.ref p, rfl, p, 4, n + 3, rfl, B3.new nl, by decide, by decide, by omega, fun H4 r4 b4 B4 l4 u4 => ?_⟩
      obtain ⟨v, ev, hv⟩ := at_menu (Pr := fun v => 1 ≤ v ∧ v ≤ 40) (xs := [1, 2, 1 + r2, 1 + r3]) l4 u4 (fun x hx => by
        rcases List.mem_cons.mp hx with rfl | hx
        · omega
        rcases List.mem_cons.mp hx with rfl | hx
        · omega
        rcases List.mem_cons.mp hx with rfl | hx
        · omega
        rcases List.mem_cons.mp hx with rfl | hx
        · omega
        · cases hx)
      obtain ⟨m, rfl⟩ := nat_of (show 0 ≤ v by omega)
      exact ⟨l, _, _, _, rfl, rfl, SqL.mk (b4 _ _ (ne_new B3 nl) upd_same), ev, q _ m ((((b1.trans b2).trans b3).new nl).trans b4) B4 (by omega) (by omega)⟩
/-! a tuple no times, too -/
theorem tuple_nought (l : Addr) (items : Array Value) (n : Nat) (dd : Option Addr) (sl : Array (Option Value)) (u : Tok) (hi : items.isEmpty = false) :
    Meets (Builtin.«tuple.__mul__» ⟨[.ref l, .int 0 u], []⟩) (fun _ R s => s.heap.get? l = some { cls := .type "tuple", dict := dd, data := .seq items n, slots := sl } ∧ R (.ok (.ret (Value.ref s.heap.objs.size))) { s with heap := s.heap.push { cls := Value.type "tuple", data := Data.seq #[] }, toks := s.toks }) :=
  .of_wp fun prog w A R s h => by
    obtain ⟨hp, g, d, tk, os⟩ := s
    obtain ⟨hl, h⟩ := h
    have f1 := AutoSeq1.idx_int
    have c1 : (items.isEmpty || (0 : Int) == 1) = false := by rw [hi]; rfl
    have c2 : (decide ((0 : Int) ≤ 0) || items.isEmpty) = true := by simp
    wp_walk using wpAny_loadPart' hl
    repeat (first
      | (refine wpAny_ite_false (decide_eq_false (by rw [c1]; exact Bool.false_ne_true)) ?_; wp_walk using wpAny_loadPart' hl)
      | (refine wpAny_ite_true (decide_eq_true c2) ?_; wp_walk using wpAny_loadPart' hl)
      | (refine wpAny_ite_false (decide_eq_false (by decide)) ?_; wp_walk using wpAny_loadPart' hl))
    exact ⟨_, rfl, h⟩
def rRepB (K : PySem.W.Frag) : R2 := fun x y H Q => ∃ (l : Addr) (k : Nat) (xs : List V), x = .ref l ∧ y = .int (k : Nat) ∧ SqT K H l xs ∧ xs ≠ [] ∧ xs.length * k ≤ 1000000 ∧ (k = 1 → Q (.ref l) H) ∧
  (k ≠ 1 → ∀ p, H p = none → Q (.ref p) (upd H p (.tup (List.replicate k xs).flatten)))
theorem op_repB {X : Cx} : OpR X (binaryOp .Mult) (rRepB X.K) := by
  intro pins s σ H x y v u Q I rx ry h
  obtain ⟨l, k, xs, rfl, rfl, hT, hne, hz, q1, q2⟩ := h
  by_cases k0 : k = 0
  · subst k0
    cases rx
    obtain ⟨t, rfl⟩ := ry
    obtain ⟨its, r, ⟨⟨cls, dd, data, sl⟩, ho, hc, n, hd⟩, hs⟩ := I.tuple hT
    simp only at hc hd
    subst hc hd
    have le : its.length = xs.length := r.length.symm
    have ne : its.toArray.isEmpty = false := by
      cases its with
      | nil => exact absurd (List.eq_nil_of_length_eq_zero le.symm) hne
      | cons a b => rfl
    refine wpAny_binaryOp_repeat_ref (T := "tuple") (U := "int") (by decide) ⟨_, ho, rfl⟩ (fun s' => typeIs_int s' _ t) noFill_tuple_mul F.fills_int_mul F.slot_int_rmul repeat_tuple F.slot_int_index.lookup
      (call_meets F.slot_int_rmul (typeIs_int s _ t) F.entry_int_rmul (F.args_int_rmul_2 _ _) (int_rmul_tuple _ t l its.toArray n dd sl)
        ⟨ho, rfl, ⟨_, ho, rfl⟩, call_meets F.slot_tuple_mul ⟨_, ho, rfl⟩ F.entry_tuple_mul (F.args_tuple_mul_2 _ _) (tuple_nought l its.toArray n dd sl t ne) ⟨ho, ?_⟩⟩)
    exact ⟨.ref s.heap.objs.size, _, I.laid (t' := s.toks) (o := .tup []) (fun b ob q => Heap.get?_push_of_some _ q) (Nat.le_refl _) ⟨Nat.zero_le _, [], .nil, IsTup.new _ _⟩, rfl, q2 (by decide) _ (I.hok.fresh (Nat.le_refl _))⟩
  · exact op_repA pins s σ H _ _ v u Q I rx ry ⟨l, k, xs, rfl, rfl, hT, hne, by omega, hz, q1, fun z => q2 (by omega)⟩
/-- (x,) so many times -/
theorem rep_go {K : PySem.W.Frag} {H : Hp} {t : Addr} {x v : Int} {k : Nat} {Q : VK} (hv : v = (k : Nat)) (ht : H t = some (.tup [.int x])) (hk : k ≤ 100000) (q : ∀ H' p, Same H H' → H' p = some (.tup ((List.replicate k x).map V.int)) → Q (.ref p) H') : rRepB K (.ref t) (.int v) H Q := by
  subst hv
  refine ⟨t, k, _, rfl, rfl, SqT.mk ht, by simp, (show 1 * k ≤ 1000000 by omega), fun z => ?_, fun z p np => ?_⟩
  · subst z
    exact q H t (Same.refl H) ht
  · exact q _ p (same_upd np) (by rw [upd_same, rep_one])
theorem cat_go {K : PySem.W.Frag} {H : Hp} {a b : Addr} {rs ss : List Int} {Q : VK} (ha : H a = some (.tup (rs.map V.int))) (hb : H b = some (.tup (ss.map V.int))) (hl : rs.length + ss.length ≤ 100000)
    (q : ∀ H' p, Same H H' → H' p = some (.tup ((rs ++ ss).map V.int)) → Q (.ref p) H') : rCatA K (.ref a) (.ref b) H Q := by
  have hsl : sizeLine = 16777216 := by decide
  refine ⟨a, b, _, _, rfl, rfl, SqT.mk ha, SqT.mk hb, by rw [List.length_map, List.length_map]; omega, fun z => ?_, fun _ z => ?_, fun _ _ p np => ?_⟩
  · rw [List.map_eq_nil_iff.mp z] at q
    exact q H b (Same.refl H) hb
  · rw [List.map_eq_nil_iff.mp z] at q
    exact q H a (Same.refl H) (by rw [List.append_nil]; exact ha)
  · exact q _ p (same_upd np) (by rw [upd_same, List.map_append])
theorem catK {X : Cx} {K : PySem.W.Frag} (h : X.K = K) : OpR X (binaryOp .Add) (rCatA K) := by
  subst h
  exact op_catA
theorem zipAK {X : Cx} {K : PySem.W.Frag} {e e2 : Expr} {ta : TA} {p pos tpos : Pos} {elts : List Expr} {kk : Nat} (h : X.K = K) (hg : Gl X "zip") (hm : X.mg "zip" = none) (ha : PA X [e, e2] ta)
    (hs : starEach [e, e2] X.env = (false, eval e X.env) :: starEach [e2] X.env := by rfl) (hpl : (backTo pos (starEach [e2] X.env)).any (·.1) = false := by rfl) :
    PI X (.Tuple elts kk tpos) (.Call (.Name "zip" p) [e, e2] [] pos) (RZ.iZipA K ta) := by
  subst h
  exact RZ.pi_zipA hg hm ha hs hpl
/-! where a number stands first -/
theorem flat_ints (xs : List Int) : (xs.map V.int).all flatV = true := by
  rw [List.all_eq_true]
  intro x hx
  obtain ⟨i, _, rfl⟩ := List.mem_map.mp hx
  rfl
theorem in_ints (xs : List Int) (k : Int) : inV (.int k) (xs.map V.int) = decide (k ∈ xs) := by
  unfold inV
  rw [Bool.eq_iff_iff, List.any_eq_true, decide_eq_true_iff]
  constructor
  · rintro ⟨y, hy, e⟩
    obtain ⟨i, hi, rfl⟩ := List.mem_map.mp hy
    have : i = k := by
      have e : (i == k) = true := e
      exact eq_of_beq e
    rw [← this]
    exact hi
  · intro h
    exact ⟨_, List.mem_map.mpr ⟨k, h, rfl⟩, show (k == k) = true from beq_self_eq_true k⟩
theorem first_of {xs : List Int} {k : Int} : k ∈ xs → ∃ j : Nat, xs[j]? = some k ∧ ∀ m, m < j → xs[m]? ≠ some k := by
  induction xs with
  | nil => intro h; cases h
  | cons x r ih =>
    intro h
    by_cases e : x = k
    · exact ⟨0, by rw [e]; rfl, fun m hm => by omega⟩
    · rcases List.mem_cons.mp h with h | h
      · exact absurd h.symm e
      · obtain ⟨j, h1, h2⟩ := ih h
        refine ⟨j + 1, h1, fun m hm => ?_⟩
        cases m with
        | zero => exact fun z => e (Option.some.inj z)
        | succ m => exact h2 m (by omega)
theorem u1 {k : Nat} {A : Around} (r : Room k A) : A.units + 1 < cLine := by
  have := r.un
  omega
theorem lcK {X : Cx} {K : PySem.W.Frag} (h : X.K = K) : MtR X "list.count" (rCntI K) := by
  subst h
  exact mt_lcount
theorem pe_bmK {X : Cx} {K : PySem.W.Frag} {T id : String} {name : Str} {r : V → List V → Hp → VK → Prop} {o e : Expr} {es : List Expr} {to : TE} {t : TA} {apos cpos : Pos} (pa : PlainAttrs T) (slot : Slot T name id) (hty : typeOf (.builtin id) = pure (.type "method_descriptor")) (hm : MtR X id r) (ho : PE X o to) (ha : PA X (e :: es) t) (hk : X.K = K := by rfl)
    (hbase : attributeBase o name X.env (eval o X.env) = eval o X.env := by rfl)
    (hfew : ((backTo cpos (starEach (e :: es) X.env)).all (fun x => !x.1) && (backToKw cpos (keywordEach [] X.env)).all (fun x => x.1.isSome) && decide ((e :: es).length + ([] : List Keyword).length + (if ([] : List Keyword).isEmpty then 0 else 1) < 30)) = true := by rfl)
    (hline : (apos.endLine == cpos.line) = true := by rfl) (hs : starEach (e :: es) X.env = (false, eval e X.env) :: starEach es X.env := by rfl) (hplain : (backTo cpos (starEach es X.env)).any (·.1) = false := by rfl) :
    PE X (.Call (.Attribute o name apos) (e :: es) [] cpos) (tBM K T r to t) := by
  subst hk
  exact pe_bm pa slot hty hm ho ha hbase hfew hline hs hplain
/-- a tuple at hand -/
theorem src_tup {X : Cx} {P : Addr} {e : Expr} {te : TE} (he : PE X e te) :
    PSrc X P e (fun σ H R => te σ H fun v H1 => ∃ (a : Addr) (xs : List V), v = .ref a ∧ H1 a = some (.tup xs) ∧ R xs H1) := by
  refine ⟨fun pins s σ H R I h => ?_⟩
  refine wpAny_mono (he.run pins s σ H _ I h) (fun u s1 z => ?_) fun _ _ e => e
  obtain ⟨v, H1, J, r1, a, xs, rfl, ha, tg, q⟩ := z
  obtain rfl : u = Value.ref a := r1
  obtain ⟨ps, hP, trip⟩ := tg
  have naP : a ≠ P := ne_of ha hP (fun z => by cases z)
  obtain ⟨its, rv, it, hz⟩ := J.tuple (show SqT X.K H1 a xs from .inl (.inl ha))
  have hl := rv.length
  have lta : a < s1.heap.objs.size := by
    obtain ⟨o, ho, _⟩ := id it
    exact Heap.lt_size ho
  refine ⟨H1, xs, J, ⟨ps, hP, trip⟩, q, ?_⟩
  refine ⟨{ cls := .type "tuple_iterator", data := .fields #[.ref a, .int 0 0] }, [a], fun i h => h.IsTupleIter s1.heap.objs.size a i ∧ h.IsTuple a its.toArray, fun Q hQ => wpAny_pyIter_tuple (show s1.heap.IsTuple a its.toArray from it) hQ, fun b hb => ?_, fun B hB => ?_, ?_⟩
  · rw [List.mem_singleton.mp hb]
    exact ⟨lta, naP⟩
  · have W0 := Walks.tuple (prog := X.prog) (w := X.w) (A := B) hB s1.heap.objs.size a (Nat.ne_of_lt lta) its.toArray
    have en : its.toArray.size = xs.length := by rw [List.size_toArray, ← hl]
    rw [en] at W0
    exact W0.mono_item fun i v hi hv => by
      have gx : xs[i]? = some xs[i] := List.getElem?_eq_getElem hi
      obtain ⟨w1, ew, rw1⟩ := rv.get gx
      have z : its[i]? = some v := by simpa using hv
      rw [z] at ew
      cases ew
      exact ⟨_, gx, rw1⟩
  · exact ⟨⟨_, Heap.get?_push_size _ rfl, rfl, rfl⟩, (show s1.heap.IsTuple a its.toArray from it).at fun o e => Heap.get?_push_of_some _ e⟩
/-- 1 - bit -/
theorem elt_turn {X : Cx} {P : Addr} {scope : Scope} {xa : Str} {k1 : Nat} {p1 p2 p3 : Pos} (hk : scope.kind = .function) (l1 : scope.names.lookup xa = some .local) (n5 : (xa == ("__debug__" : Str)) = false := by decide) :
    PElt X P scope xa (.BinOp (.Constant (.int 1) k1 p1) .Sub (.Name xa p2) p3) (fun _ _ v y => ∃ t : Int, v = .int t ∧ y = .int (1 - t)) := by
  refine ⟨fun pins s1 σ H I tg cenv B E2 s2 m2 v y u g rv te hm2 => ?_⟩
  obtain ⟨t, rfl, rfl⟩ := te
  obtain ⟨tk, rfl⟩ := (show ∃ tk, u = Value.int t tk from rv)
  refine wpAny_BinOp (wpAny_Constant_int (ig_local g hk l1 hm2 (GxR.keeps_tok s2 _) ?_ n5))
  refine sub_int ?_
  exact ⟨⟨_, rfl⟩, GxR.keeps_tok s2 _⟩
/-! generator expressions whose target has three names -/
abbrev gx3 (elt it : Expr) (x1 x2 x3 : Str) (p1 p2 p3 pt : Pos) (kt : Nat) (sc : Scope) (pos : Pos) : Expr := .GeneratorExp elt [⟨.Tuple [.Name x1 p1, .Name x2 p2, .Name x3 p3] kt pt, it, [], 0⟩] sc pos
section
variable {prog : Program} {w : World} {A : Around}
/-- what the element tells of the three names -/
def Elt3 (prog : Program) (w : World) (ce : Env) (x1 x2 x3 : Str) (elt : Expr) (fp wr : List Addr) (Pt : Nat → Array Value → Prop) (F : Nat → Value → Prop) (h0 : Heap) : Prop :=
  ∀ (B : Around) (E2 : Value → Shared → Prop) (i : Nat) (a b c : Value) (t : Shared) (mm : Str → Option Value), B.handled = none → Pt i #[a, b, c] → t.heap.Ns ce.locals mm → mm x1 = some a → mm x2 = some b → mm x3 = some c →
    (∀ q ∈ fp, q ∉ wr → ∀ o, h0.get? q = some o → t.heap.get? q = some o) → wpAny (model prog w) B (eval elt ce) (fun y t' => F i y ∧ Keeps t t') E2 t
theorem pass_len (n i : Nat) (h : i < n) : passing (fun _ => true) n i = i :: passing (fun _ => true) n (i + 1) := passing_true h rfl
theorem g3_loop {elt it : Expr} {x1 x2 x3 : Str} {p1 p2 p3 pt : Pos} {kt : Nat} {sc : Scope} {pos : Pos} {J : Addr} {fp wr : List Addr} {n : Nat} {Pt : Nat → Array Value → Prop} {Z : Nat → Heap → Prop} {Mid : Nat → Addr → Heap → Prop} {ce : Env}
    (ha : A.handled = none) (WK : ∀ B : Around, B.handled = none → WalksU prog w B J fp wr n Pt Z Mid) (h3 : ∀ i vs, Pt i vs → ∃ a b c, vs = #[a, b, c]) (d12 : x1 ≠ x2) (d13 : x1 ≠ x3) (d23 : x2 ≠ x3) (F : Nat → Value → Prop) (h0 : Heap)
    (k1 : ce.kindOf x1 = some .local) (k2 : ce.kindOf x2 = some .local) (k3 : ce.kindOf x3 = some .local) (hp : (ce.scope.kind == .class || (ce.scope.kind == .module && ce.locals != ce.globals)) = false)
    (hco : ce.scope.isCoroutine = false) (hC : ce.locals ∉ fp) (hq : Elt3 prog w ce x1 x2 x3 elt fp wr Pt F h0) :
    ∀ (k i : Nat) (sa s : Shared) (m : Str → Option Value), n - i = k → i ≤ n → Z i s.heap → s.heap.Ns ce.locals m → GenSince ce.locals wr sa s → (∀ b ∈ fp, b ∉ wr → ∀ o, h0.get? b = some o → s.heap.get? b = some o) →
      Seg (model prog w) A (fun j u r v => r = .ok .next ∧ (j = 0 ∧ GenSince ce.locals wr u v)) (genProto ce.locals fp wr (fun _ => true) n F) (passing (fun _ => true) n i).length sa
        (.compLoop (gx3 elt it x1 x2 x3 p1 p2 p3 pt kt sc pos) 0 (.ref J) .none ce) ((model prog w).den (.compLoop (gx3 elt it x1 x2 x3 p1 p2 p3 pt kt sc pos) 0 (.ref J) .none ce)) [] s := by
  have ha' : (A.over (.compLoop (gx3 elt it x1 x2 x3 p1 p2 p3 pt kt sc pos) 0 (.ref J) .none ce) []).handled = none := ha
  have hW : ce.locals ∉ wr := fun z => hC ((WK A ha).sub _ z)
  intro k
  induction k with
  | zero =>
    intro i sa s m ek hi st hn since kp
    obtain rfl : i = n := by omega
    show Seg _ A _ _ _ sa _ ((compTurn (gx3 elt it x1 x2 x3 p1 p2 p3 pt kt sc pos) 0 (.ref J) .none ce).onRaise (leaving ce)) [] s
    rw [compTurn_gen, Sem.onRaise_eq_wrap]
    refine seg_bind_wrap (wpAny_standAt (seg_bind_wrap ((WK _ ha').done s _ _ st fun h' tk kk => ?_)))
    exact seg_end (.ok .next) ⟨rfl, by rw [passing_end]; rfl, since.step fun b o _ bw e => kk b o bw e⟩
  | succ k ih =>
    intro i sa s m ek hi st hn since kp
    have lt : i < n := by omega
    show Seg _ A _ _ _ sa _ ((compTurn (gx3 elt it x1 x2 x3 p1 p2 p3 pt kt sc pos) 0 (.ref J) .none ce).onRaise (leaving ce)) [] s
    rw [compTurn_gen, Sem.onRaise_eq_wrap]
    refine seg_bind_wrap (wpAny_standAt (seg_bind_wrap ((WK _ ha').item i s _ _ lt st fun T vs g1 tk1 hPv hT mid kk1 => ?_)))
    obtain ⟨a, b, c, rfl⟩ := h3 i vs hPv
    refine seg_bind_wrap ((WK _ ha').go _ _ _ i T _ _ _ mid fun g2 st2 kk2 => ?_)
    have hT2 : g2.IsTuple T #[a, b, c] := by
      obtain ⟨o, e, r⟩ := hT
      exact ⟨o, kk2 _ o ((WK _ ha').apart i T _ mid) e, r⟩
    refine seg_bind_wrap (wpAny_assign_Tuple ha' hT2 rfl rfl fun g3 hx => ?_)
    replace hx : Heap.ExtBut g2.objs.size g2 g3 := hx
    have up3 : ∀ q o, g2.get? q = some o → g3.get? q = some o := fun q o e => hx q o (Nat.ne_of_lt (Heap.lt_size e)) e
    show wpAny _ _ (do holding [b, c] (assign (.Name x1 p1) ce a); do holding [c] (assign (.Name x2 p2) ce b); do holding [] (assign (.Name x3 p3) ce c); pure ()) _ _ _
    refine wpAny_bind (wpAny_holding (wpAny_assign_Name (wpAny_storeName_local k1 (hn.at' fun o e => up3 _ o (kk2 _ o hW (kk1 _ o hW e))) (fun g4 hn4 sb4 => ?_) hp)))
    replace sb4 : Heap.SameBut ce.locals g3 g4 := sb4
    refine wpAny_bind (wpAny_holding (wpAny_assign_Name (wpAny_storeName_local k2 hn4 (fun g5 hn5 sb5 => ?_) hp)))
    replace sb5 : Heap.SameBut ce.locals g4 g5 := sb5
    refine wpAny_bind (wpAny_holding (wpAny_assign_Name (wpAny_storeName_local k3 hn5 (fun g6 hn6 sb6 => wpAny_pure ?_) hp)))
    replace sb6 : Heap.SameBut ce.locals g5 g6 := sb6
    have up36 : ∀ q o, q ≠ ce.locals → g3.get? q = some o → g6.get? q = some o := fun q o nq e => sb6.extBut q o nq (sb5.extBut q o nq (sb4.extBut q o nq e))
    have up6 : ∀ q o, q ≠ ce.locals → q ∉ wr → s.heap.get? q = some o → g6.get? q = some o := fun q o nq nw e => up36 q o nq (up3 q o (kk2 q o nw (kk1 q o nw e)))
    have st6 : Z (i + 1) g6 := (WK A ha).frame _ _ _ st2 fun q hq' o e => up36 q o (fun z => hC (z ▸ hq')) (up3 q o e)
    have kp6 : ∀ q ∈ fp, q ∉ wr → ∀ o, h0.get? q = some o → g6.get? q = some o := fun q hq' nw o e => up6 q o (fun z => hC (z ▸ hq')) nw (kp q hq' nw o e)
    simp only [List.forIn_nil]
    refine seg_bind_wrap (wpAny_pure ?_)
    rw [pass_len n i lt, List.length_cons]
    simp only [if_true]
    have hy : ∀ v, yieldOut ce v = yieldValue v := fun v => by simp only [yieldOut, hco, Bool.false_eq_true, if_false]
    simp only [hy]
    rw [Sem.bind_eq_wrap', Sem.bind_eq_wrap', Sem.wrap_wrap, Sem.wrap_wrap]
    refine seg_wrap (wpAny_mono (hq _ _ i a b c _ _ ha' hPv hn6 (by simp [d12, d13]) (by simp [d23]) (by simp) kp6) (fun y s7 z7 => ?_) fun _ _ e => e)
    obtain ⟨fy, g7, tk7, rfl, kk7⟩ := z7
    refine seg_at (seg_yield rfl rfl rfl ⟨⟨i, passing_here lt rfl, fy⟩, since.step fun q o nq nw e => kk7 q o (up6 q o nq nw e), fun s8 al => ?_⟩)
    exact seg_again rfl (ih (i + 1) s8 s8 _ (by omega) lt ((WK A ha).frame _ _ _ st6 fun q hq' o e => al q (List.mem_cons_of_mem _ hq') o (kk7 q o e)) ((hn6.keeps kk7).at' fun o e => al _ (List.mem_cons_self ..) o e) (GenSince.refl _ _ _) fun q hq' nw o e => al q (List.mem_cons_of_mem _ hq') o (kk7 q o (kp6 q hq' nw o e)))
theorem g3_start {elt it : Expr} {x1 x2 x3 : Str} {p1 p2 p3 pt : Pos} {kt : Nat} {sc : Scope} {pos : Pos} {J : Addr} {fp wr : List Addr} {n : Nat} {Pt : Nat → Array Value → Prop} {Z : Nat → Heap → Prop} {Mid : Nat → Addr → Heap → Prop} {ce : Env}
    (ha : A.handled = none) (WK : ∀ B : Around, B.handled = none → WalksU prog w B J fp wr n Pt Z Mid) (h3 : ∀ i vs, Pt i vs → ∃ a b c, vs = #[a, b, c]) (d12 : x1 ≠ x2) (d13 : x1 ≠ x3) (d23 : x2 ≠ x3) (F : Nat → Value → Prop) (h0 : Heap)
    (k1 : ce.kindOf x1 = some .local) (k2 : ce.kindOf x2 = some .local) (k3 : ce.kindOf x3 = some .local) (hp : (ce.scope.kind == .class || (ce.scope.kind == .module && ce.locals != ce.globals)) = false)
    (hco : ce.scope.isCoroutine = false) (hC : ce.locals ∉ fp) (hq : Elt3 prog w ce x1 x2 x3 elt fp wr Pt F h0)
    (sa s : Shared) (m : Str → Option Value) (st : Z 0 s.heap) (hn : s.heap.Ns ce.locals m) (since : GenSince ce.locals wr sa s) (kp : ∀ b ∈ fp, b ∉ wr → ∀ o, h0.get? b = some o → s.heap.get? b = some o) :
    Seg (model prog w) A (fun j u r v => r = .ok .next ∧ (j = 0 ∧ GenSince ce.locals wr u v)) (genProto ce.locals fp wr (fun _ => true) n F) (passing (fun _ => true) n 0).length sa
      (.compStart (gx3 elt it x1 x2 x3 p1 p2 p3 pt kt sc pos) 0 (.ref J) .none ce) ((model prog w).den (.compStart (gx3 elt it x1 x2 x3 p1 p2 p3 pt kt sc pos) 0 (.ref J) .none ce)) [] s := by
  have ha' : (A.over (.compStart (gx3 elt it x1 x2 x3 p1 p2 p3 pt kt sc pos) 0 (.ref J) .none ce) []).handled = none := ha
  have lp := g3_loop (it := it) (p1 := p1) (p2 := p2) (p3 := p3) (pt := pt) (kt := kt) (sc := sc) (pos := pos) ha WK h3 d12 d13 d23 F h0 k1 k2 k3 hp hco hC hq n 0 sa s m (Nat.sub_zero _) (Nat.zero_le _) st hn since kp
  show Seg _ A _ _ _ sa _ ((compStart (gx3 elt it x1 x2 x3 p1 p2 p3 pt kt sc pos) 0 (.ref J) .none ce).onRaise (leaving ce)) [] s
  unfold compStart
  rw [Sem.onRaise_eq_wrap]
  show Seg _ A _ _ _ sa _ ((ask >>= _).wrap _ _ _ _) [] s
  refine seg_bind_wrap (wpAny_askSetting ?_)
  split
  · exact seg_again rfl lp
  · first
      | exact seg_bind_wrap (wpAny_rule (seg_bind_wrap (wpAny_standAt (seg_bind_wrap ((WK _ ha').self 0 s _ _ st (seg_again rfl lp))))))
      | (refine seg_bind_wrap (wpAny_rule ?_); show Seg _ A _ _ _ sa _ ((standAt it.pos >>= _).wrap _ _ _ _) [] s; exact seg_bind_wrap (wpAny_standAt (seg_bind_wrap ((WK _ ha').self 0 s _ _ st (seg_again rfl lp)))))
end
section
variable {prog : Program} {w : World} {A : Around} {E : Value → Shared → Prop} {s : Shared}
theorem g3_make {env : Env} {elt it : Expr} {x1 x2 x3 : Str} {p1 p2 p3 pt : Pos} {kt : Nat} {sc : Scope} {cl : List (Str × Addr)} {pos : Pos} {Q : Value → Shared → Prop}
    (ha : A.handled = none) (hco : sc.isCoroutine = false) (hcl : closureFor sc env = pure cl) (hce : ∀ y ∈ sc.names, y.2 ≠ .cell) (hdot : sc.names.lookup (".0" : Str) = some NameKind.local)
    (l1 : sc.names.lookup x1 = some .local) (l2 : sc.names.lookup x2 = some .local) (l3 : sc.names.lookup x3 = some .local) (d12 : x1 ≠ x2) (d13 : x1 ≠ x3) (d23 : x2 ≠ x3) (hk : sc.kind = .function) (deep : A.depth < recursionLimit)
    (h : wpAny (model prog w) A (eval it env) (fun xv sb => wpAny (model prog w) A (pyIter xv) (fun iv sc2 => sc2.heap.NoLimit ∧
      wpAny (model prog w) A (genexprCode env pos (env.qual ++ "<genexpr>") sc) (fun code sd => wpAny (model prog w) A (builtinsFor env.globals env.builtins) (fun bi se =>
        ∃ J fp wr n Pt Z Mid F, iv = .ref J ∧ (∀ B : Around, B.handled = none → WalksU prog w B J fp wr n Pt Z Mid) ∧ (∀ i vs, Pt i vs → ∃ a b c, vs = #[a, b, c]) ∧ Z 0 se.heap ∧ (∀ b ∈ fp, b < se.heap.objs.size) ∧ se.heap.NoLimit ∧ cStatics ∉ wr ∧
          (∀ h0 : Heap, (∀ b o, se.heap.get? b = some o → h0.get? b = some o) → Elt3 prog w (genEnv sc cl se.heap.objs.size code bi env) x1 x2 x3 elt (List.range se.heap.objs.size) wr Pt F h0) ∧
          (∀ g hh tk gs, gs.bare = true → se.heap.objs.size < g → hh.objs.size = g + 1 → (∀ b o, se.heap.get? b = some o → hh.get? b = some o) →
            WalksS prog w A.in4 g (g :: se.heap.objs.size :: List.range se.heap.objs.size) (se.heap.objs.size :: wr) (GenOnlyQ se.gens.size) (passing (fun _ => true) n 0).length
              (fun j y => ∃ i, (passing (fun _ => true) n 0)[j]? = some i ∧ F i y) (GenAt prog w A.in4 g se.gens.size se.heap.objs.size (List.range se.heap.objs.size) wr (fun _ => true) n F) →
            GenAt prog w A.in4 g se.gens.size se.heap.objs.size (List.range se.heap.objs.size) wr (fun _ => true) n F 0 { se with gens := se.gens.push gs, toks := tk, heap := hh } →
            Q (.ref g) { se with gens := se.gens.push gs, toks := tk, heap := hh })) E sd) E sc2) E sb) E s)
    (hs : ∀ x, genFold it env x = pure x) : wpAny (model prog w) A (eval (gx3 elt it x1 x2 x3 p1 p2 p3 pt kt sc pos) env) Q E s := by
  refine wpAny_GeneratorExp_make hco hcl hce hdot hk deep (wpAny_mono h (fun xv sb zb => wpAny_mono zb (fun iv sc2 zc => ⟨zc.1, wpAny_mono zc.2 (fun code sd zd => wpAny_mono zd (fun bi se ze => ?_) fun _ _ e => e) fun _ _ e => e⟩) fun _ _ e => e) fun _ _ e => e) hs
  obtain ⟨J, fp, wr, n, Pt, Z, Mid, F, rfl, WK, h3, st, hfp, nl, cw, hq, fin⟩ := ze
  have lts : cStatics < se.heap.objs.size := by
    obtain ⟨_, z, _⟩ := nl
    exact z.lt
  intro h1 hn1 sb1
  have sz : h1.objs.size = se.heap.objs.size + 1 := by rw [sb1.1, Heap.size_push]
  have kp1 : ∀ b o, se.heap.get? b = some o → h1.get? b = some o := fun b o e => sb1.extBut b o (Nat.ne_of_lt (Heap.lt_size e)) (Heap.get?_push_of_some _ e)
  have sub : ∀ b ∈ wr, b ∈ List.range se.heap.objs.size := fun b hb => List.mem_range.mpr (hfp b ((WK A ha).sub b hb))
  have ne1 : h1.objs.size ≠ se.heap.objs.size := by rw [sz]; exact Nat.succ_ne_self _
  have ni1 : h1.objs.size ∉ List.range se.heap.objs.size := fun hm => by have := List.mem_range.mp hm; omega
  have kp2 : ∀ b o, se.heap.get? b = some o → (h1.push { cls := .type "generator", data := .fields #[.int se.gens.size 0, .str "<genexpr>" (se.toks + 1), .str (env.qual ++ "<genexpr>") (se.toks + 1 + 1)] }).get? b = some o := fun b o e => Heap.get?_push_of_some _ (kp1 b o e)
  refine fin _ _ _ _ rfl (by omega) (by rw [Heap.size_push]) kp2 (WalksS.genexpQ (A := A.in4) ha _ _ _ _ wr (fun _ => true) n F ne1 ni1 sub deep (List.mem_range.mpr lts) (Nat.ne_of_lt lts) cw) ?_
  have WK2 : ∀ B : Around, B.handled = none → WalksU prog w B J (List.range se.heap.objs.size) wr n Pt Z Mid := fun B hB => (WK B hB).mono_fp fun b hb => List.mem_range.mpr (hfp b hb)
  have hn2 := hn1.push { cls := .type "generator", data := .fields #[.int se.gens.size 0, .str "<genexpr>" (se.toks + 1), .str (env.qual ++ "<genexpr>") (se.toks + 1 + 1)] }
  refine ⟨⟨_, _, _, Heap.get?_push_size _ rfl, rfl, rfl, rfl⟩, nl.keeps kp2, _, Array.getElem?_push_size .., fun s9 al => ⟨rfl, ?_⟩⟩
  exact g3_start (A := A.in4.in1) (ce := genEnv sc cl se.heap.objs.size code bi env) ha WK2 h3 d12 d13 d23 F _ l1 l2 l3 (by simp [genEnv, hk]) hco (fun hm => Nat.lt_irrefl _ (List.mem_range.mp hm)) (hq _ kp2) s9 s9 (fun y => if y = ".0" then some (.ref J) else none)
    ((WK A ha).frame _ _ _ st fun b hb o e => al b (List.mem_cons_of_mem _ (List.mem_range.mpr (hfp b hb))) o (kp2 b o e)) (hn2.at' fun o e => al _ (List.mem_cons_self ..) o e) (GenSince.refl _ _ _) fun b hb _ o e => al b (List.mem_cons_of_mem _ hb) o e
end
def EltOk3 (X : Cx) (P : Addr) (scope : Scope) (xa xb xc : Str) (elt : Expr) (s0 : Shared) (Pt : Nat → Array Value → Prop) (F : Nat → Value → Prop) : Prop :=
  ∀ (cenv : Env) (B : Around) (E2 : Value → Shared → Prop) (i : Nat) (va vb vc : Value) (s2 : Shared) (m2 : Str → Option Value), InGen X P scope s0 cenv B s2 m2 → Pt i #[va, vb, vc] → m2 xa = some va → m2 xb = some vb → m2 xc = some vc →
    wpAny (model X.prog X.w) B (eval elt cenv) (fun y s3 => F i y ∧ Keeps s2 s3) E2 s2
structure Src3 (X : Cx) (P : Addr) (s0 s1 : Shared) (xv : Value) (n : Nat) (Pt : Nat → Array Value → Prop) : Prop where
  only : ∃ h1 t1, s1 = { s0 with heap := h1, toks := t1 }
  old : ∀ b o, s0.heap.get? b = some o → s1.heap.get? b = some o
  wk : ∃ (J : Addr) (fp wr : List Addr) (Z : Nat → Heap → Prop) (Mid : Nat → Addr → Heap → Prop), xv = .ref J ∧ (∀ Q : Value → Shared → Prop, Q (.ref J) s1 → wpAny (model X.prog X.w) X.A (pyIter xv) Q X.xe s1) ∧
    (∀ B : Around, B.handled = none → WalksU X.prog X.w B J fp wr n Pt Z Mid) ∧ Z 0 s1.heap ∧ (∀ b ∈ fp, b < s1.heap.objs.size ∧ b ≠ P) ∧ (∀ b ∈ wr, s0.heap.objs.size ≤ b)
  two : ∀ i vals, Pt i vals → ∃ va vb vc, vals = #[va, vb, vc]
structure GenS3 (env : Env) (scope : Scope) (xa xb xc : Str) : Prop where
  a : GxR.GenS env scope xa
  lb : scope.names.lookup xb = some .local
  lc : scope.names.lookup xc = some .local
  ne : xa ≠ xb
  nac : xa ≠ xc
  nbc : xb ≠ xc
theorem gen_three {X : Cx} {pins : List (Addr × Obj)} {σ : L2.St} {s : Shared} {c P : Addr} {elt iter : Expr} {xa xb xc : Str} {pa pb pc pt gpos : Pos} {kt : Nat} {scope : Scope} {k : Nat} {W : Value → Shared → Prop}
    (hr : Room k X.A) (TB : GxR.TabB X.base X.mg c P) (hcode : X.env.code = .ref c) (S : GenS3 X.env scope xa xb xc) (hs : ∀ v, genFold iter X.env v = pure v)
    (h : wpAny (model X.prog X.w) X.A (eval iter X.env) (fun xv s1 => ∃ (s0 : Shared) (H1 : Hp) (ps : Array Value) (n : Nat) (Pt : Nat → Array Value → Prop) (F : Nat → Value → Prop), Inv X pins σ H1 s0 ∧ H1 P = some (.tbl ps) ∧ TriplesOk ps.toList ∧ Src3 X P s0 s1 xv n Pt ∧
      EltOk3 X P scope xa xb xc elt s0 Pt F ∧ ∀ g s5, AtHand X pins σ H1 P n F g s5 → W (.ref g) s5) X.xe s) :
    wpAny (model X.prog X.w) X.A (eval (gx3 elt iter xa xb xc pa pb pc pt kt scope gpos) X.env) W X.xe s := by
  have deep := hr.dp
  refine g3_make hr.hd S.a.co (closure_ok S.a.free) S.a.cell S.a.dot S.a.loc S.lb S.lc S.ne S.nac S.nbc S.a.kind (by omega) (wpAny_mono h (fun xv s1 z => ?_) fun _ _ e => e) hs
  obtain ⟨s0, H1, ps, n, Pt, F, J0, hP, trip, ⟨⟨h1, t1, rfl⟩, old1, ⟨J, fp, wr, Z, Mid, rfl, go, wk, z0, hfp, hwr⟩, two⟩, hel, fin⟩ := z
  refine go _ ?_
  have hPs : s0.heap.get? P = some { cls := .none, data := .fields ps } := J0.hok P _ hP
  have ltP : P < s0.heap.objs.size := Heap.lt_size hPs
  have hP2 : h1.get? P = some { cls := .none, data := .fields ps } := old1 _ _ hPs
  have cd : PySem.W.CodeHd h1 c P := TB.code.keeps fun b u e => old1 _ _ (J0.bk b u e)
  have lim : h1.NoLimit := J0.nolimit.keeps old1
  have go2 : ∀ (code : Value) (h3 : Heap) (tk : Nat) (more : Array Value), Heap.ExtBut P h1 h3 → h1.objs.size ≤ h3.objs.size → h3.get? P = some { cls := .none, data := .fields (ps ++ more) } → TriplesOk (ps ++ more).toList →
      wpAny (model X.prog X.w) X.A (builtinsFor X.env.globals X.env.builtins) (fun bi s4 =>
        ∃ I0 fp0 wr0 n0 Pt0 Z0 Mid0 F0, Value.ref J = .ref I0 ∧ (∀ B : Around, B.handled = none → WalksU X.prog X.w B I0 fp0 wr0 n0 Pt0 Z0 Mid0) ∧ (∀ i vals, Pt0 i vals → ∃ va vb vc, vals = #[va, vb, vc]) ∧ Z0 0 s4.heap ∧ (∀ b ∈ fp0, b < s4.heap.objs.size) ∧ s4.heap.NoLimit ∧ cStatics ∉ wr0 ∧
          (∀ hq : Heap, (∀ b o, s4.heap.get? b = some o → hq.get? b = some o) →
            Elt3 X.prog X.w (genEnv scope (cloFrom X.env.cells scope.names []) s4.heap.objs.size code bi X.env) xa xb xc elt (List.range s4.heap.objs.size) wr0 Pt0 F0 hq) ∧
          (∀ g h5 tk5 gs, gs.bare = true → s4.heap.objs.size < g → h5.objs.size = g + 1 → (∀ b o, s4.heap.get? b = some o → h5.get? b = some o) →
            WalksS X.prog X.w X.A.in4 g (g :: s4.heap.objs.size :: List.range s4.heap.objs.size) (s4.heap.objs.size :: wr0) (GenOnlyQ s4.gens.size) (passing (fun _ => true) n0 0).length
              (fun j y => ∃ i, (passing (fun _ => true) n0 0)[j]? = some i ∧ F0 i y) (GenAt X.prog X.w X.A.in4 g s4.gens.size s4.heap.objs.size (List.range s4.heap.objs.size) wr0 (fun _ => true) n0 F0) →
            GenAt X.prog X.w X.A.in4 g s4.gens.size s4.heap.objs.size (List.range s4.heap.objs.size) wr0 (fun _ => true) n0 F0 0 { s4 with gens := s4.gens.push gs, toks := tk5, heap := h5 } →
            W (.ref g) { s4 with gens := s4.gens.push gs, toks := tk5, heap := h5 })) X.xe { s0 with heap := h3, toks := tk } := by
    intro code h3 tk more hx hsz hP3 trip3
    obtain ⟨bm, ob, e1, e2, e3, e4, e5, e6, e7, e8⟩ := TB.bm
    have keep3 : ∀ b u, b ≠ P → s0.heap.get? b = some u → h3.get? b = some u := fun b u hb e => hx b u hb (old1 b u e)
    have stP : cStatics ≠ P := fun z => by
      obtain ⟨_, ⟨o1, es, ep, ho, hd, _⟩, _⟩ := J0.nolimit
      rw [z, hPs] at ho
      cases ho
      cases hd
    have stL : cStatics < s0.heap.objs.size := by
      obtain ⟨_, hns, _⟩ := J0.nolimit
      exact hns.lt
    refine wpAny_builtinsFor (m := X.mg) (by rw [J0.ok.glob]; exact ((J0.mod.glob.keeps J0.bk).keeps old1).extBut hx TB.gP) e1 e2 (keep3 _ _ e4 (J0.bk _ _ e5)) e6 e7 e8 ?_
    refine ⟨J, fp, wr, n, Pt, Z, Mid, F, rfl, wk, two, ?_, ?_, lim.extBut hx stP, ?_, ?_, ?_⟩
    · exact (wk X.A hr.hd).frame _ _ _ z0 fun b hb u e => hx b u (hfp b hb).2 e
    · intro b hb
      exact Nat.lt_of_lt_of_le (show b < h1.objs.size from (hfp b hb).1) hsz
    · intro z
      exact Nat.lt_irrefl _ (Nat.lt_of_lt_of_le stL (hwr _ z))
    · intro hq keepq
      intro B E2 i va vb vc s2 m2 hB hv hn hma hmb hmc hk
      refine hel _ B E2 i va vb vc s2 m2 ⟨rfl, rfl, rfl, rfl, hB, hn, fun b u hb e => ?_⟩ hv hma hmb hmc
      have lb := Heap.lt_size e
      refine hk b (List.mem_range.mpr (Nat.lt_of_lt_of_le (Heap.lt_size (old1 b u e)) hsz)) (fun z => ?_) u (keepq b u (keep3 b u hb e))
      exact Nat.lt_irrefl _ (Nat.lt_of_lt_of_le lb (hwr b z))
    · intro g h5 tk5 gs hgb hag hsz5 hk5 W5 gat
      simp only [GxR.passing_true, List.length_range] at W5
      refine fin g _ ⟨_, _, _, _, _, W5, fun j v hv => ?_, gat, fun b hb => ?_, List.mem_cons_self, fun i s9 h9 => h9.1.typeIs, fun s' hm => ?_⟩
      · obtain ⟨i, hij, e⟩ := hv
        obtain ⟨_, ej⟩ := List.getElem?_eq_some_iff.mp hij
        rw [List.getElem_range] at ej
        subst ej
        exact e
      · show b < h5.objs.size
        have v8 : h3.objs.size < g := hag
        have v9 : h5.objs.size = g + 1 := hsz5
        have u1 : g < h5.objs.size := by
          rw [v9]
          exact Nat.lt_succ_self g
        have u2 : h3.objs.size < h5.objs.size := Nat.lt_trans v8 u1
        rcases List.mem_cons.mp hb with z | z
        · rw [z]
          exact u1
        · rcases List.mem_cons.mp z with z | z
          · rw [z]
            exact u2
          · exact Nat.lt_trans (show b < h3.objs.size from List.mem_range.mp z) u2
      · have old : ∀ b u, s0.heap.get? b = some u → b ∉ h3.objs.size :: wr := fun b u e hb => by
          have lb := Heap.lt_size e
          rcases List.mem_cons.mp hb with z | z
          · exact Nat.ne_of_lt (Nat.lt_of_lt_of_le (Heap.lt_size (old1 b u e)) hsz) z
          · exact Nat.lt_irrefl _ (Nat.lt_of_lt_of_le lb (hwr b z))
        have R := GxR.inv_tab (more := more) (h' := s'.heap) (g' := s'.gens) (d' := s'.drawn) (t' := s'.toks) J0 hP (fun b u hb e => hm.heap b u (old b u e) (hk5 b u (keep3 b u hb e)))
          (hm.heap P _ (old P _ hPs) (hk5 P _ hP3)) (AllBare.movedS (J0.bare.push hgb) hm)
        rw [GxR.sh_eta s0 s' hm.os] at R
        exact ⟨_, ⟨⟨ps ++ more, upd_same, trip3⟩, fun b hb => upd_ne hb⟩, R⟩
  refine ⟨lim, ?_⟩
  cases hf : codeAmong gpos ps.toList with
  | none =>
    refine wpAny_genexprCodeX hcode (cd.code hP2 trip) (cd.tab hP2) hf fun c' h' tk hx hge hlt hco' _ htab' _ => ?_
    obtain ⟨o1, vs, f1, tf, fl, tg, inF, tx, tt, op, _, _, _, _, _, _, _, _, _, htr, _⟩ := hco'
    exact go2 _ h' tk _ hx (Nat.le_trans hge (Nat.le_of_lt hlt)) htab'.2 htr
  | some cv =>
    refine wpAny_genexprCode_hit hcode (cd.code hP2 trip) hf ?_
    exact go2 cv h1 t1 #[] (Heap.ExtBut.refl _ _) (Nat.le_refl _) (by rw [Array.append_empty]; exact hP2) (by rw [Array.append_empty]; exact trip)
structure PElt3 (X : Cx) (P : Addr) (scope : Scope) (xa xb xc : Str) (elt : Expr) (te : V → V → V → V → Prop) : Prop where
  run : ∀ (pins : List (Addr × Obj)) (s0 : Shared) (σ : L2.St) (H : Hp), Inv X pins σ H s0 → GxR.TabG H P → ∀ (cenv : Env) (B : Around) (E2 : Value → Shared → Prop) (s2 : Shared) (m2 : Str → Option Value) (v1 v2 v3 y : V) (u1 u2 u3 : Value),
    InGen X P scope s0 cenv B s2 m2 → RelV v1 u1 → RelV v2 u2 → RelV v3 u3 → te v1 v2 v3 y → m2 xa = some u1 → m2 xb = some u2 → m2 xc = some u3 → wpAny (model X.prog X.w) B (eval elt cenv) (fun z s3 => RelV y z ∧ Keeps s2 s3) E2 s2
def tTupZ3 (P : Addr) (ta : TA) (te : V → V → V → V → Prop) : TE := fun σ H Q => ta σ H fun vs H1 => ∃ (a b c : Addr) (xs ys us : List V), vs = [.ref a, .ref b, .ref c] ∧ H1 a = some (.tup xs) ∧ H1 b = some (.tup ys) ∧ H1 c = some (.tup us) ∧ xs.length = ys.length ∧ xs.length = us.length ∧ GxR.TabG H1 P ∧
  ∃ zs : List V, zs.length = xs.length ∧ (∀ (i : Nat) (x y u : V), xs[i]? = some x → ys[i]? = some y → us[i]? = some u → ∃ z, zs[i]? = some z ∧ te x y u z) ∧ ∀ H2 p, GxR.Tabbed P H1 H2 → H2 p = none → Q (.ref p) (upd H2 p (.tup zs))
/-- tuple(element for xa, xb, xc in zip(e, e2, e3)), three tuples of one length -/
theorem pe_tupZ3 {X : Cx} {c P : Addr} {elt e e2 e3 : Expr} {xa xb xc : Str} {pa pb pc pt p p2 pos gpos zpos : Pos} {kt : Nat} {scope : Scope} {ta : TA} {te : V → V → V → V → Prop} {k : Nat}
    (hr : Room k X.A) (hg : Gl X "tuple") (hm : X.mg "tuple" = none) (hb : bootBuiltins "tuple" = some (.type "tuple")) (hgz : Gl X "zip") (hmz : X.mg "zip" = none) (TB : GxR.TabB X.base X.mg c P) (hcode : X.env.code = .ref c) (S : GenS3 X.env scope xa xb xc)
    (ha : PA X [e, e2, e3] ta) (hel : PElt3 X P scope xa xb xc elt te) (hs : ∀ v, genFold (.Call (.Name "zip" p2) [e, e2, e3] [] zpos) X.env v = pure v)
    (he : starEach [gx3 elt (.Call (.Name "zip" p2) [e, e2, e3] [] zpos) xa xb xc pa pb pc pt kt scope gpos] X.env = (false, eval (gx3 elt (.Call (.Name "zip" p2) [e, e2, e3] [] zpos) xa xb xc pa pb pc pt kt scope gpos) X.env) :: starEach [] X.env := by rfl)
    (hz1 : starEach [e, e2, e3] X.env = (false, eval e X.env) :: starEach [e2, e3] X.env := by rfl) (hz2 : (backTo zpos (starEach [e2, e3] X.env)).any (·.1) = false := by rfl) :
    PE X (.Call (.Name "tuple" p) [gx3 elt (.Call (.Name "zip" p2) [e, e2, e3] [] zpos) xa xb xc pa pb pc pt kt scope gpos] [] pos) (tTupZ3 P ta te) := by
  refine ⟨fun pins s σ H Q I h => ?_⟩
  refine wpAny_Call_Name_kw (ld_blt I hg hm hb ?_)
  refine PyProof.Rows.callWith_type1 ?_ he (by rfl)
  rw [he]
  show wpAny _ _ (spliced ((false, eval (gx3 elt (.Call (.Name "zip" p2) [e, e2, e3] [] zpos) xa xb xc pa pb pc pt kt scope gpos) X.env) :: backTo pos (starEach [] X.env))) _ _ s
  refine Calls.spliced_cons (gen_three (pins := pins) (σ := σ) hr TB hcode S hs ?_)
  refine Call_ (ld_blt I hgz hmz PyProof.Rows.boot_zip (PyProof.Rows.callWith_type1 (thn (ha.run zpos pins s σ H _ I h) fun us s0 ⟨vs, H1, J, r1, q1⟩ => ?_) hz1 hz2))
  obtain ⟨a, b, c', xs, ys, us', rfl, hxa, hyb, huc, hxy, hxu, tg, zs, lz, hzs, q⟩ := q1
  cases r1 with
  | cons r rr =>
    cases rr with
    | cons r' rr =>
      cases rr with
      | cons r'' rr =>
        cases rr
        cases r
        cases r'
        cases r''
        obtain ⟨ix, rx, px, hz⟩ := J.tuple (show SqT X.K H1 a xs from .inl (.inl hxa))
        obtain ⟨iy, ry, py, _⟩ := J.tuple (show SqT X.K H1 b ys from .inl (.inl hyb))
        obtain ⟨iu, ru, pu, _⟩ := J.tuple (show SqT X.K H1 c' us' from .inl (.inl huc))
        obtain ⟨ps, hP, trip⟩ := tg
        have naP : a ≠ P := ne_of hxa hP (fun z => by cases z)
        have nbP : b ≠ P := ne_of hyb hP (fun z => by cases z)
        have ncP : c' ≠ P := ne_of huc hP (fun z => by cases z)
        have lta : a < s0.heap.objs.size := by
          obtain ⟨o, ho, _⟩ := px
          exact Heap.lt_size ho
        have ltb : b < s0.heap.objs.size := by
          obtain ⟨o, ho, _⟩ := py
          exact Heap.lt_size ho
        have ltc : c' < s0.heap.objs.size := by
          obtain ⟨o, ho, _⟩ := pu
          exact Heap.lt_size ho
        have ltP : P < s0.heap.objs.size := Heap.lt_size (J.hok P _ hP)
        have hnx := rx.length
        have hny := ry.length
        have hnu := ru.length
        refine zip_begins3 (begins_tuple a ix.toArray) (begins_tuple b iy.toArray) (begins_tuple c' iu.toArray) (show s0.heap.IsTuple a ix.toArray from px) (show s0.heap.IsTuple b iy.toArray from py) (show s0.heap.IsTuple c' iu.toArray from pu) fun h1 isz hTI hTO i1 i2 i3 sz6 keep => ?_
        refine ⟨s0, H1, ps, xs.length, fun i vals => ∃ x1 x2 x3, ix.toArray[i]? = some x1 ∧ iy.toArray[i]? = some x2 ∧ iu.toArray[i]? = some x3 ∧ vals = #[x1, x2, x3], fun i u => ∃ z, zs[i]? = some z ∧ RelV z u, J, hP, trip, ⟨⟨h1, s0.toks, rfl⟩, keep, ?_, ?_⟩, ?_, fun g s5 at5 => ?_⟩
        · have en : min (min ix.toArray.size iy.toArray.size) iu.toArray.size = xs.length := by
            rw [List.size_toArray, List.size_toArray, List.size_toArray]
            omega
          have WW := fun (B : Around) (hB : B.handled = none) => (WalksT.zipD3 (prog := X.prog) (w := X.w) (A := B) (zip_sep3 (N := s0.heap.objs.size) (fp1 := [a]) (fp2 := [b]) (fp3 := [c']) (fun d hd => by rw [List.mem_singleton.mp hd]; exact lta) (fun d hd => by rw [List.mem_singleton.mp hd]; exact ltb) (fun d hd => by rw [List.mem_singleton.mp hd]; exact ltc))
            (Draws.tuple (A := B.in1) hB s0.heap.objs.size a (Nat.ne_of_lt lta) ix.toArray) (Draws.tuple (A := B.in1) hB (s0.heap.objs.size + 1) b (Nat.ne_of_lt (Nat.lt_succ_of_lt ltb)) iy.toArray) (Draws.tuple (A := B.in1) hB (s0.heap.objs.size + 2) c' (Nat.ne_of_lt (Nat.lt_of_lt_of_le ltc (Nat.le_add_right _ 2))) iu.toArray)).toU
          simp only [en] at WW
          refine ⟨s0.heap.objs.size + 5, _, _, _, _, rfl, fun Q hQ => wpAny_pyIter_zip isz hQ, WW, ⟨isz, hTI, ⟨_, _, _, hTO⟩, ⟨⟨_, i1, rfl, rfl⟩, (show s0.heap.IsTuple a ix.toArray from px).at fun o e => keep _ o e⟩, ⟨⟨_, i2, rfl, rfl⟩, (show s0.heap.IsTuple b iy.toArray from py).at fun o e => keep _ o e⟩, ⟨⟨_, i3, rfl, rfl⟩, (show s0.heap.IsTuple c' iu.toArray from pu).at fun o e => keep _ o e⟩⟩, fun d hd => ?_, fun d hd => ?_⟩
          · show d < h1.objs.size ∧ d ≠ P
            rw [sz6]
            have up : ∀ j : Nat, j < 6 → (s0.heap.objs.size + j : Nat) < s0.heap.objs.size + 6 ∧ (s0.heap.objs.size + j : Nat) ≠ P := fun j hj => ⟨by omega, Nat.ne_of_gt (Nat.lt_of_lt_of_le ltP (Nat.le_add_right _ _))⟩
            have hd' : d = s0.heap.objs.size + 5 ∨ d = s0.heap.objs.size + 3 ∨ d = s0.heap.objs.size + 4 ∨ d = s0.heap.objs.size ∨ d = a ∨ d = s0.heap.objs.size + 1 ∨ d = b ∨ d = s0.heap.objs.size + 2 ∨ d = c' := by simpa using hd
            rcases hd' with z | z | z | z | z | z | z | z | z
            · rw [z]; exact up 5 (by decide)
            · rw [z]; exact up 3 (by decide)
            · rw [z]; exact up 4 (by decide)
            · rw [z]; exact up 0 (by decide)
            · rw [z]; exact ⟨Nat.lt_of_lt_of_le lta (Nat.le_add_right _ _), naP⟩
            · rw [z]; exact up 1 (by decide)
            · rw [z]; exact ⟨Nat.lt_of_lt_of_le ltb (Nat.le_add_right _ _), nbP⟩
            · rw [z]; exact up 2 (by decide)
            · rw [z]; exact ⟨Nat.lt_of_lt_of_le ltc (Nat.le_add_right _ _), ncP⟩
          · have hd' : d = s0.heap.objs.size + 5 ∨ d = s0.heap.objs.size + 4 ∨ d = s0.heap.objs.size ∨ d = s0.heap.objs.size + 1 ∨ d = s0.heap.objs.size + 2 := by simpa using hd
            rcases hd' with z | z | z | z | z
            · rw [z]; exact Nat.le_add_right _ _
            · rw [z]; exact Nat.le_add_right _ _
            · rw [z]; exact Nat.le_refl _
            · rw [z]; exact Nat.le_add_right _ _
            · rw [z]; exact Nat.le_add_right _ _
        · rintro i vals ⟨x1, x2, x3, _, _, _, rfl⟩
          exact ⟨x1, x2, x3, rfl⟩
        · intro cenv B E2 i va vb vc s2 m2 ig hv hma hmb hmc
          obtain ⟨x1, x2, x3, e1, e2', e3', ev⟩ := hv
          have ev1 : va = x1 ∧ vb = x2 ∧ vc = x3 := by simpa using ev
          obtain ⟨rfl, rfl, rfl⟩ := ev1
          have hi : i < xs.length := by
            have := (Array.getElem?_eq_some_iff.mp e1).1
            rw [List.size_toArray] at this
            omega
          have gx : xs[i]? = some xs[i] := List.getElem?_eq_getElem hi
          have gy : ys[i]? = some (ys[i]'(by omega)) := List.getElem?_eq_getElem (by omega)
          have gu : us'[i]? = some (us'[i]'(by omega)) := List.getElem?_eq_getElem (by omega)
          obtain ⟨w1, ew1, rw1⟩ := rx.get gx
          obtain ⟨w2, ew2, rw2⟩ := ry.get gy
          obtain ⟨w3, ew3, rw3⟩ := ru.get gu
          have f1 : va = w1 := by
            have z : ix[i]? = some va := by simpa using e1
            rw [z] at ew1
            exact Option.some.inj ew1
          have f2 : vb = w2 := by
            have z : iy[i]? = some vb := by simpa using e2'
            rw [z] at ew2
            exact Option.some.inj ew2
          have f3 : vc = w3 := by
            have z : iu[i]? = some vc := by simpa using e3'
            rw [z] at ew3
            exact Option.some.inj ew3
          subst f1 f2 f3
          obtain ⟨z, ez, tz⟩ := hzs i _ _ _ gx gy gu
          exact wpAny_mono (hel.run pins s0 σ H1 J ⟨ps, hP, trip⟩ cenv B E2 s2 m2 _ _ _ z va vb vc ig rw1 rw2 rw3 tz hma hmb hmc) (fun y s3 rr => ⟨⟨z, ez, rr.1⟩, rr.2⟩) fun _ _ e => e
        · refine Calls.spliced_nil ?_
          obtain ⟨fp, wr, G, F', Z, W5, im, z0, hfp, hgf, hT, hinv⟩ := at5
          refine PySem.call_tuple_gen (n := xs.length) W5.in4_3 hT z0 hfp hgf (fun s' acc mv it => ?_) hz
          obtain ⟨H2, tb, J2⟩ := hinv s' mv
          have vs : Vals zs acc.toList := vals_of zs acc.toList (by rw [Array.length_toList, it.1, lz]) fun j u hj => im j u (it.2 j u (by simpa using hj))
          refine ⟨.ref s'.heap.objs.size, _, J2.laid (t' := s'.toks) (o := .tup zs) (fun b ob e => Heap.get?_push_of_some _ e) (Nat.le_refl _) ⟨by omega, acc.toList, vs, ?_⟩, rfl, q H2 _ tb (J2.hok.fresh (Nat.le_refl _))⟩
          have ea : acc.toList.toArray = acc := by simp
          rw [ea]
          exact IsTup.new _ _
/-- a if bit == 1 else b -/
theorem elt_pick {X : Cx} {P : Addr} {scope : Scope} {xa xb xc : Str} {p1 p2 p3 p4 p5 p6 : Pos} {k1 : Nat} (hk : scope.kind = .function) (l1 : scope.names.lookup xa = some .local) (l2 : scope.names.lookup xb = some .local) (l3 : scope.names.lookup xc = some .local)
    (n1 : (xa == ("__debug__" : Str)) = false := by decide) (n2 : (xb == ("__debug__" : Str)) = false := by decide) (n3 : (xc == ("__debug__" : Str)) = false := by decide) :
    PElt3 X P scope xa xb xc (.IfExp (.Compare (.Name xa p1) [.Eq] [.Constant (.int 1) k1 p2] p3) (.Name xb p4) (.Name xc p5) p6) (fun x y u z => ∃ i : Int, x = .int i ∧ z = if i = 1 then y else u) := by
  refine ⟨fun pins s0 σ H I tg cenv B E2 s2 m2 v1 v2 v3 y u1 u2 u3 g r1 r2 r3 te hma hmb hmc => ?_⟩
  obtain ⟨i, rfl, rfl⟩ := te
  obtain ⟨t1, rfl⟩ := (show ∃ t, u1 = Value.int i t from r1)
  refine wpAny_IfExp (wpAny_isTrue_Compare1 (ig_local g hk l1 hma (GxR.keeps_refl s2) ?_ n1) rfl)
  refine wpAny_Constant_int (wpAny_eq_int (wpAny_truthy_bool ?_))
  by_cases e : i = 1
  · rw [show (i == (1 : Int)) = true from beq_iff_eq.mpr e, if_pos rfl, if_pos e]
    exact ig_local g hk l2 hmb (GxR.keeps_tok s2 _) ⟨r2, GxR.keeps_tok s2 _⟩ n2
  · rw [show (i == (1 : Int)) = false from beq_eq_false_iff_ne.mpr e, if_neg Bool.false_ne_true, if_neg e]
    exact ig_local g hk l3 hmc (GxR.keeps_tok s2 _) ⟨r3, GxR.keeps_tok s2 _⟩ n3
def dot (rs ss : List Int) : Int := (List.zipWith (fun x y => x * y) rs ss).sum
def allRows : Nat → List (List Int)
  | 0 => [[]]
  | k + 1 => (allRows k).map (· ++ [0]) ++ (allRows k).map (· ++ [1])
theorem all_sound : ∀ (k : Nat) (r : List Int), r ∈ allRows k → r.length = k ∧ Bits r
  | 0, r, h => by
    rw [show r = [] from List.mem_singleton.mp h]
    exact ⟨rfl, fun x hx => by cases hx⟩
  | k + 1, r, h => by
    have aux : ∀ (b : Int), (b = 0 ∨ b = 1) → r ∈ (allRows k).map (· ++ [b]) → r.length = k + 1 ∧ Bits r := fun b hb hm => by
      obtain ⟨q, hq, rfl⟩ := List.mem_map.mp hm
      obtain ⟨h1, h2⟩ := all_sound k q hq
      refine ⟨by rw [List.length_append, h1]; rfl, fun x hx => ?_⟩
      rcases List.mem_append.mp hx with hx | hx
      · exact h2 x hx
      · rw [List.mem_singleton.mp hx]
        exact hb
    rcases List.mem_append.mp h with h | h
    · exact aux 0 (.inl rfl) h
    · exact aux 1 (.inr rfl) h
theorem all_full : ∀ (k : Nat) (r : List Int), r.length = k → Bits r → r ∈ allRows k
  | 0, r, h, _ => by
    rw [List.eq_nil_of_length_eq_zero h]
    exact List.mem_singleton.mpr rfl
  | k + 1, r, h, hb => by
    have hne : r ≠ [] := fun z => by
      rw [z] at h
      cases h
    have e := List.dropLast_concat_getLast hne
    have m1 : r.dropLast ∈ allRows k := all_full k _ (by rw [List.length_dropLast, h]; rfl) fun x hx => hb x (List.dropLast_subset r hx)
    rcases hb _ (List.getLast_mem hne) with z | z
    · rw [z] at e
      exact List.mem_append.mpr (.inl (List.mem_map.mpr ⟨_, m1, e⟩))
    · rw [z] at e
      exact List.mem_append.mpr (.inr (List.mem_map.mpr ⟨_, m1, e⟩))
theorem all_len : ∀ k, (allRows k).length = 2 ^ k
  | 0 => rfl
  | k + 1 => by
    show ((allRows k).map (· ++ [0]) ++ (allRows k).map (· ++ [1])).length = _
    rw [List.length_append, List.length_map, List.length_map, all_len k, Nat.pow_succ]
    omega
theorem bits_sum : ∀ (r : List Int), Bits r → 0 ≤ r.sum ∧ r.sum ≤ r.length
  | [], _ => ⟨Int.le_refl 0, Int.le_refl 0⟩
  | x :: r, h => by
    have ih := bits_sum r fun y hy => h y (List.mem_cons_of_mem _ hy)
    have hx := h x List.mem_cons_self
    rw [List.sum_cons, List.length_cons]
    omega
theorem sum_rep (k : Nat) (x : Int) : (List.replicate k x).sum = k * x := by
  induction k with
  | zero => simp
  | succ k ih =>
    rw [List.replicate_succ, List.sum_cons, ih, Int.natCast_add, Int.add_mul]
    omega
theorem sum_split (r : List Int) (a : Nat) : r.sum = (r.take a).sum + (r.drop a).sum := by
  conv => lhs; rw [← List.take_append_drop a r, List.sum_append]
theorem dot_zero (k : Nat) : ∀ r : List Int, dot (List.replicate k 0) r = 0 := by
  unfold dot
  induction k with
  | zero => intro r; simp
  | succ k ih =>
    intro r
    cases r with
    | nil => simp
    | cons x r =>
      rw [List.replicate_succ, List.zipWith_cons_cons, List.sum_cons, ih]
      omega
theorem dot_one : ∀ (a k : Nat) (r : List Int), r.length = a + k → dot (List.replicate a 1 ++ List.replicate k 0) r = (r.take a).sum
  | 0, k, r, _ => by
    rw [List.replicate_zero, List.nil_append, dot_zero]
    rfl
  | a + 1, k, [], h => by
    simp at h
    omega
  | a + 1, k, x :: r, h => by
    have ih := dot_one a k r (by rw [List.length_cons] at h; omega)
    unfold dot at *
    rw [List.replicate_succ, List.cons_append, List.zipWith_cons_cons, List.sum_cons, ih, List.take_succ_cons, List.sum_cons]
    omega
def nearR (n b : Nat) : List Int := List.replicate b 1 ++ List.replicate (n - b) 0
def farR (n b : Nat) : List Int := List.replicate (n - b) 0 ++ List.replicate b 1
theorem near_bits (n b : Nat) : Bits (nearR n b) := fun x hx => by
  rcases List.mem_append.mp hx with h | h
  · exact .inr (List.eq_of_mem_replicate h)
  · exact .inl (List.eq_of_mem_replicate h)
theorem far_bits (n b : Nat) : Bits (farR n b) := fun x hx => by
  rcases List.mem_append.mp hx with h | h
  · exact .inl (List.eq_of_mem_replicate h)
  · exact .inr (List.eq_of_mem_replicate h)
theorem near_len {n b : Nat} (h : b ≤ n) : (nearR n b).length = n := by
  unfold nearR
  rw [List.length_append, List.length_replicate, List.length_replicate]
  omega
theorem far_len {n b : Nat} (h : b ≤ n) : (farR n b).length = n := by
  unfold farR
  rw [List.length_append, List.length_replicate, List.length_replicate]
  omega
theorem near_sum (n b : Nat) : (nearR n b).sum = b := by
  unfold nearR
  rw [List.sum_append, sum_rep, sum_rep]
  omega
theorem far_sum (n b : Nat) : (farR n b).sum = b := by
  unfold farR
  rw [List.sum_append, sum_rep, sum_rep]
  omega
theorem near_take (n a b : Nat) : ((nearR n b).take a).sum = (min a b : Nat) := by
  unfold nearR
  rw [List.take_append, List.sum_append, List.take_replicate, List.take_replicate, sum_rep, sum_rep]
  omega
theorem far_take {n a b : Nat} (hb : b ≤ n) (ha : a ≤ n) : ((farR n b).take a).sum = (a + b - n : Nat) := by
  unfold farR
  rw [List.take_append, List.sum_append, List.take_replicate, List.take_replicate, sum_rep, sum_rep, List.length_replicate]
  omega
/-- how far the first a bits of a row may go -/
theorem take_ends {n a b : Nat} {r : List Int} (hl : r.length = n) (hb : Bits r) (hs : r.sum = b) (ha : a ≤ n) : (a + b - n : Nat) ≤ (r.take a).sum ∧ (r.take a).sum ≤ (min a b : Nat) := by
  have e := sum_split r a
  have h1 := bits_sum (r.take a) fun x hx => hb x (List.mem_of_mem_take hx)
  have h2 := bits_sum (r.drop a) fun x hx => hb x (List.mem_of_mem_drop hx)
  rw [List.length_take] at h1
  rw [List.length_drop] at h2
  omega
/-! sums over the first places -/
def Sm (f : Nat → Int) : Nat → Int
  | 0 => 0
  | n + 1 => Sm f n + f n
theorem Sm_congr {f g : Nat → Int} : ∀ {n : Nat}, (∀ i, i < n → f i = g i) → Sm f n = Sm g n
  | 0, _ => rfl
  | n + 1, h => by
    show Sm f n + f n = Sm g n + g n
    rw [Sm_congr (n := n) fun i hi => h i (by omega), h n (by omega)]
theorem Sm_plus (f g : Nat → Int) : ∀ n, Sm (fun i => f i + g i) n = Sm f n + Sm g n
  | 0 => rfl
  | n + 1 => by
    show Sm _ n + (f n + g n) = (Sm f n + f n) + (Sm g n + g n)
    rw [Sm_plus f g n]
    omega
theorem Sm_mul (c : Int) (f : Nat → Int) : ∀ n, Sm (fun i => c * f i) n = c * Sm f n
  | 0 => by
    show (0 : Int) = c * 0
    rw [Int.mul_zero]
  | n + 1 => by
    show Sm _ n + c * f n = c * (Sm f n + f n)
    rw [Sm_mul c f n, Int.mul_add]
theorem Sm_const (c : Int) : ∀ n, Sm (fun _ => c) n = n * c
  | 0 => by
    show (0 : Int) = ((0 : Nat) : Int) * c
    omega
  | n + 1 => by
    show Sm _ n + c = ((n + 1 : Nat) : Int) * c
    rw [Sm_const c n, Int.natCast_add, Int.add_mul]
    omega
theorem Sm_comm (f : Nat → Nat → Int) (m : Nat) : ∀ n, Sm (fun j => Sm (fun i => f i j) m) n = Sm (fun i => Sm (f i) n) m
  | 0 => by
    show (0 : Int) = Sm (fun _ => (0 : Int)) m
    rw [Sm_const]
    omega
  | n + 1 => by
    show Sm _ n + Sm (fun i => f i n) m = Sm (fun i => Sm (f i) n + f i n) m
    rw [Sm_comm f m n, Sm_plus]
theorem Sm_split (f : Nat → Int) (m : Nat) : ∀ k, Sm f (m + k) = Sm f m + Sm (fun j => f (m + j)) k
  | 0 => by
    show Sm f m = Sm f m + 0
    omega
  | k + 1 => by
    show Sm f (m + k) + f (m + k) = Sm f m + (Sm _ k + f (m + k))
    rw [Sm_split f m k]
    omega
theorem Sm_head (f : Nat → Int) : ∀ n, Sm f (n + 1) = f 0 + Sm (fun j => f (j + 1)) n
  | 0 => by
    show (0 : Int) + f 0 = f 0 + 0
    omega
  | n + 1 => by
    show Sm f (n + 1) + f (n + 1) = f 0 + (Sm _ n + f (n + 1))
    rw [Sm_head f n]
    omega
theorem Sm_rev (f : Nat → Int) : ∀ m, Sm (fun k => f (m - 1 - k)) m = Sm f m
  | 0 => rfl
  | m + 1 => by
    rw [Sm_head]
    show f (m + 1 - 1 - 0) + _ = Sm f m + f m
    rw [show m + 1 - 1 - 0 = m by omega, ← Sm_rev f m]
    rw [Sm_congr (f := fun j => f (m + 1 - 1 - (j + 1))) (g := fun k => f (m - 1 - k)) fun i hi => by rw [show m + 1 - 1 - (i + 1) = m - 1 - i by omega]]
    omega
theorem Sm_turn (f : Nat → Int) {i n : Nat} (hi : i < n) : Sm (fun b => f ((i + n - b) % n)) n = Sm f n := by
  have e : n = (i + 1) + (n - i - 1) := by omega
  have h1 : Sm (fun b => f ((i + n - b) % n)) (i + 1) = Sm f (i + 1) := by
    rw [← Sm_rev f (i + 1)]
    refine Sm_congr fun b hb => ?_
    rw [show i + n - b = (i + 1 - 1 - b) + n by omega, Nat.add_mod_right, Nat.mod_eq_of_lt (by omega)]
  have h2 : Sm (fun j => f ((i + n - (i + 1 + j)) % n)) (n - i - 1) = Sm (fun j => f (i + 1 + j)) (n - i - 1) := by
    rw [← Sm_rev (fun j => f (i + 1 + j)) (n - i - 1)]
    refine Sm_congr fun b hb => ?_
    rw [Nat.mod_eq_of_lt (by omega), show i + n - (i + 1 + b) = i + 1 + (n - i - 1 - 1 - b) by omega]
  have s1 := Sm_split (fun b => f ((i + n - b) % n)) (i + 1) (n - i - 1)
  have s2 := Sm_split f (i + 1) (n - i - 1)
  rw [← e] at s1 s2
  rw [s1, s2, h1, h2]
theorem Sm_list : ∀ (xs : List Int), xs.sum = Sm (fun i => xs.getD i 0) xs.length
  | [] => rfl
  | x :: r => by
    rw [List.sum_cons, List.length_cons, Sm_head, Sm_list r]
    rfl
theorem Sm_map (v : Nat → Int) : ∀ n, ((List.range n).map v).sum = Sm v n
  | 0 => rfl
  | n + 1 => by
    rw [List.range_succ, List.map_append, List.sum_append, Sm_map v n]
    show _ + (v n + 0) = Sm v n + v n
    omega
theorem Sm_filter (p : Nat → Bool) (v : Nat → Int) : ∀ n, (((List.range n).filter p).map v).sum = Sm (fun i => if p i = true then v i else 0) n
  | 0 => rfl
  | n + 1 => by
    rw [List.range_succ, List.filter_append, List.map_append, List.sum_append, Sm_filter p v n]
    show _ + (([n].filter p).map v).sum = Sm _ n + (if p n = true then v n else 0)
    by_cases h : p n = true
    · rw [List.filter_cons_of_pos h, if_pos h]
      show _ + (v n + 0) = _
      omega
    · rw [List.filter_cons_of_neg h, if_neg h]
      rfl
theorem Sm_count (p : Nat → Bool) : ∀ n, (((List.range n).filter p).length : Int) = Sm (fun i => if p i = true then 1 else 0) n
  | 0 => rfl
  | n + 1 => by
    rw [List.range_succ, List.filter_append, List.length_append, Int.natCast_add, Sm_count p n]
    show _ + ((([n].filter p).length : Nat) : Int) = Sm _ n + (if p n = true then 1 else 0)
    by_cases h : p n = true
    · rw [List.filter_cons_of_pos h, if_pos h]
      rfl
    · rw [List.filter_cons_of_neg h, if_neg h]
      rfl
/-! rows that meet, one late -/
def mt (rs ss : List Int) (b : Nat) : Int := Sm (fun i => rs.getD i 0 * ss.getD ((i + rs.length - b) % rs.length) 0) rs.length
theorem dot_Sm : ∀ (rs ss : List Int), rs.length = ss.length → dot rs ss = Sm (fun i => rs.getD i 0 * ss.getD i 0) rs.length
  | [], [], _ => rfl
  | x :: r, y :: t, h => by
    have ih := dot_Sm r t (by simpa using h)
    unfold dot at *
    rw [List.zipWith_cons_cons, List.sum_cons, List.length_cons, Sm_head, ih]
    rfl
theorem dot_mt {rs ss : List Int} (h : rs.length = ss.length) : dot rs ss = mt rs ss 0 := by
  rw [dot_Sm rs ss h]
  unfold mt
  refine Sm_congr fun i hi => ?_
  rw [Nat.sub_zero, Nat.add_mod_right, Nat.mod_eq_of_lt hi]
/-- all together -/
theorem mt_all {rs ss : List Int} (h : rs.length = ss.length) : Sm (mt rs ss) rs.length = rs.sum * ss.sum := by
  unfold mt
  rw [Sm_comm]
  rw [Sm_congr (g := fun i => ss.sum * rs.getD i 0) fun i hi => by
    rw [Sm_mul (rs.getD i 0) (fun b => ss.getD ((i + rs.length - b) % rs.length) 0), Sm_turn (fun j => ss.getD j 0) hi, Sm_list ss, ← h, Int.mul_comm]]
  rw [Sm_mul, ← Sm_list, Int.mul_comm]
def LS (rs ss : List Int) : List Int := (List.range rs.length).map fun b => rs.length * mt rs ss b - rs.sum * ss.sum
theorem LS_len (rs ss : List Int) : (LS rs ss).length = rs.length := by
  unfold LS
  rw [List.length_map, List.length_range]
theorem LS_sum {rs ss : List Int} (h : rs.length = ss.length) : (LS rs ss).sum = 0 := by
  unfold LS
  rw [Sm_map]
  have e : Sm (fun b => (rs.length : Int) * mt rs ss b - rs.sum * ss.sum) rs.length = Sm (fun b => (rs.length : Int) * mt rs ss b + -(rs.sum * ss.sum)) rs.length := Sm_congr fun i _ => by omega
  rw [e, Sm_plus, Sm_mul, mt_all h, Sm_const, Int.mul_neg]
  omega
theorem LS_at {rs ss : List Int} {b : Nat} (hb : b < rs.length) : (LS rs ss)[b]? = some (rs.length * mt rs ss b - rs.sum * ss.sum) := by
  unfold LS
  rw [List.getElem?_map, List.getElem?_range hb]
  rfl
theorem bit_mul {x y : Int} (hx : x = 0 ∨ x = 1) : (if decide (x = 1) = true then y else 0) = x * y := by
  rcases hx with rfl | rfl
  · rw [if_neg (by decide), Int.zero_mul]
  · rw [if_pos (by decide), Int.one_mul]
theorem bits_at {rs : List Int} (h : Bits rs) (i : Nat) : rs.getD i 0 = 0 ∨ rs.getD i 0 = 1 := by
  rw [List.getD_eq_getElem?_getD]
  cases e : rs[i]? with
  | none => exact .inl rfl
  | some x => exact h x (List.mem_of_getElem? e)
def places (rs : List Int) (n : Nat) : List Nat := (List.range n).filter fun i => decide (rs.getD i 0 = 1)
theorem places_mt {rs ss : List Int} (h : Bits rs) (b : Nat) : ((places rs rs.length).map fun i => ss.getD ((i + rs.length - b) % rs.length) 0).sum = mt rs ss b := by
  unfold places mt
  rw [Sm_filter]
  exact Sm_congr fun i _ => bit_mul (bits_at h i)
theorem count_mt {rs ss : List Int} (h : Bits rs) (h2 : Bits ss) (b : Nat) : (((List.range rs.length).filter fun i => decide (rs.getD i 0 = 1) && decide (ss.getD ((i + rs.length - b) % rs.length) 0 = 1)).length : Int) = mt rs ss b := by
  rw [Sm_count]
  unfold mt
  refine Sm_congr fun i _ => ?_
  show _ = rs.getD i 0 * ss.getD ((i + rs.length - b) % rs.length) 0
  rcases bits_at h i with e | e <;> rcases bits_at h2 ((i + rs.length - b) % rs.length) with e2 | e2 <;> rw [e, e2] <;> decide
theorem getD_at {rs : List Int} {i : Nat} (h : i < rs.length) : rs[i]? = some (rs.getD i 0) := by
  rw [List.getD_eq_getElem?_getD, List.getElem?_eq_getElem h]
  rfl
/-! an error that is caught, and kept beyond the suite -/
def ExK (cls : Value) (d : Option Addr) (a : Addr) : HO := .ext fun h => ∃ (oe : Obj) (vs : Array Value), h.get? a = some oe ∧ Zc cls d oe ∧ oe.data = .fields vs
theorem exK_in {P : Program} {w : World} {G : Hp} {h : Heap} {a : Addr} {cls : Value} {d : Option Addr} {oe : Obj} {vs : Array Value} (e : h.get? a = some oe) (z : Zc cls d oe) (f : oe.data = .fields vs) : ObjOk P w G h a (ExK cls d a) :=
  ⟨⟨oe, vs, e, z, f⟩, ⟨oe, e⟩, fun _ _ hh k => by
    obtain ⟨o, v, q, r⟩ := hh
    exact ⟨o, v, k o q, r⟩⟩
section
variable {X : Cx} {pins : List (Addr × Obj)} {σ : L2.St} {H : Hp} {s : Shared} {a : Addr} {oe : Obj} {vs : Array Value} {cls : Value} {d : Option Addr}
theorem keep_track (I : Inv (X.suite a ((a, oe) :: (X.pn ++ pins))) [] σ H s) (ok : X.Ok) (new : X.s_0.heap.get? a = none) (other : ∀ p, p ∈ X.pn ++ pins → p.1 ≠ a) (hz : Zc cls d oe) (hd : oe.data = .fields vs) :
    Inv X pins σ (upd H a (ExK cls d a)) s := by
  obtain ⟨hget, hnone, nloc, nfs, ncell⟩ := I.pin (a, oe) (List.mem_append_left _ List.mem_cons_self)
  have hne : ∀ {b : Addr} {o : HO}, H b = some o → b ≠ a := fun e => ne_of_none e hnone
  have up : ∀ {b : Addr} {o : HO}, H b = some o → (upd H a (ExK cls d a)) b = some o := fun e => by
    rw [upd_ne (hne e)]
    exact e
  refine ⟨ok, I.os, I.bare, ⟨I.base.keep, I.base.slot, fun b o e n x => ?_, I.base.there, fun b xs e => up (I.base.tups b xs e), fun b o u e => up (I.base.frzs b o u e), fun b ps e => ?_⟩, I.loc, I.cell, ?_, fun x c e => ?_, fun p hp => ?_, fun b u e => ?_, I.len⟩
  · have hb : b ≠ a := fun z => by
      rw [z, new] at e
      cases e
    rw [upd_ne hb]
    exact I.base.free b o e n x
  · obtain ⟨more, q⟩ := I.base.tbls b ps e
    exact ⟨more, up q⟩
  · rw [upd_ne (Ne.symm nloc)]
    exact I.free
  · have hc : c ≠ a := fun z => by
      obtain ⟨v, o, q, r⟩ := I.cell x c e
      rw [z, hget] at q
      cases q
      first
        | exact ncell _ r
        | exact ncell _ r.1
        | exact ncell _ r.2
    rw [upd_ne hc]
    exact I.freeC x c e
  · obtain ⟨q1, q2, q3, q4, q5⟩ := I.pin p (List.mem_append_left _ (List.mem_cons_of_mem _ hp))
    exact ⟨q1, by rw [upd_ne (other p hp)]; exact q2, q3, q4, q5⟩
  · by_cases hb : b = a
    · subst hb
      rw [upd_same] at e
      cases e
      exact exK_in hget hz hd
    · rw [upd_ne hb] at e
      exact (I.hok b u e).stay (fun _ _ _ q => q) (fun _ q => up q) fun _ _ q => up q
end
def wHeld (K : PySem.W.Frag) (c : Value) (i : Nat) (ts : Addr → Value → Option Addr → TS) (Wout : WX) (D : Ends) : WX := fun cls d σ H =>
  ∃ b, PySem.W.exmOne K cls c = some b ∧ (b = false → Wout cls d σ H) ∧
    (b = true → ∀ a, H a = none → ts a cls d { nx := fun σ' G => D.nx (σ'.set i none) (upd G a (ExK cls d a)), rt := fun _ _ => False, bk := fun _ _ => False, ct := fun _ _ => False } (σ.set i (some (.ref a))) H)
theorem ps_try_held {X : Cx} {x n : Str} {c : Value} {i : Nat} {body suite : List Stmt} {b₀ : Stmt} {np pos pos' : Pos} {tb : WX → TS} {ts : Addr → Value → Option Addr → TS} {Wout : WX} (hex : X.ex = []) (hs : X.stack = X.env :: X.outer) (hf : X.env.frame = some X.env.locals) (hN : X.N.Nodup) (hi : X.N[i]? = some n) (hln : X.env.kindOf n = some .local)
    (hc : Names X x c) (tk : Takes X Wout) (hb : ∀ (W : WX) (pn : List (Addr × Obj)) (xe : Value → Shared → Prop), Takes (X.tr pn xe) W → PassesOwn (model X.prog X.w) X.A X.env xe → PSs (X.tr pn xe) body (tb W))
    (hsu : ∀ (a : Addr) (oe : Obj) (cls : Value) (d : Option Addr) (pn : List (Addr × Obj)), Zc cls d oe → (∃ vs, oe.data = .fields vs) → PSs (X.suite a ((a, oe) :: pn)) (b₀ :: suite) (ts a cls d)) :
    PS X (.Try body [.ExceptHandler (some (.Name x np)) (some n) (b₀ :: suite) pos'] [] [] pos) (fun D σ H => tb (wHeld X.K c i ts Wout D) D σ H) := by
  refine ⟨fun pins s σ H D I h => ?_⟩
  have ok := I.ok
  have hA : X.A.frames = some (X.env :: X.outer) := by
    rw [ok.frames, hs]
  let catcher : Value → Shared → Prop := fun u s₁ => wpAny (model X.prog X.w) X.A (noteFrame u X.env) (fun _ s₂ => wpAny (model X.prog X.w) X.A (setFlight u none)
    (fun _ s₃ => wpAny (model X.prog X.w) X.A (handleBy u X.env [.ExceptHandler (some (.Name x np)) (some n) (b₀ :: suite) pos']) (SP X pins D) X.xe s₃) X.xe s₂) X.xe s₁
  have main := (hb (wHeld X.K c i ts Wout D) (X.pn ++ pins) catcher ?_ PassesOwn.looking).run [] s σ H D (I.toTry _) h
  · refine wpAny_Try_except (wpAny_mono main (fun fl s1 r => ?_) fun _ _ z => z)
    cases fl with
    | next =>
      obtain ⟨σ', G, J, q⟩ := r
      exact wpAny_execs_nil ⟨σ', G, J.ofTry ok, q⟩
    | brk =>
      obtain ⟨σ', G, J, q⟩ := r
      exact ⟨σ', G, J.ofTry ok, q⟩
    | cont =>
      obtain ⟨σ', G, J, q⟩ := r
      exact ⟨σ', G, J.ofTry ok, q⟩
    | ret u =>
      obtain ⟨v, σ', G, J, q⟩ := r
      exact ⟨v, σ', G, J.ofTry ok, q⟩
  intro u s' air
  obtain ⟨a, B, sI, ps, σ', G, cls, d, rfl, J', nb, up, sky, na, os, ag, b, eb, no, yes⟩ := air
  have J : Inv X pins σ' G sI := J'.ofTry ok
  rw [show (X.tr (X.pn ++ pins) catcher).stack = X.env :: X.outer from hs] at sky nb
  have nB : B.get? a = none := by
    rcases sky with k | k | k
    · exact k.2.1
    · exact k.2.1
    · exact k.2.1
  show wpAny (model X.prog X.w) X.A (noteFrame (.ref a) X.env) _ _ _
  refine Sky.land Zc.steady hA hf sky fun h3 f3 u3 => ?_
  have nb' : ∀ b o, sI.heap.get? b = some o → b ∉ frs X.stack → B.get? b = some o := by
    rw [hs]
    exact nb
  have J3 : Inv X pins σ' G { s' with heap := h3 } := J.landed nb' f3.1 (up.trans u3) os ag
  obtain ⟨o3, v3, g3, z3, d3⟩ := f3.there
  have nfr : a ∉ frs (X.env :: X.outer) := fun hm => by
    obtain ⟨_, o', e', nf⟩ := f3.2.2.1.mem hm
    rw [g3] at e'
    cases e'
    exact nf _ d3
  have nL : a ≠ X.env.locals := fun z => nfr (List.mem_filterMap.mpr ⟨_, List.mem_cons_self, by rw [hf, z]⟩)
  have nF : a ∉ X.fs := fun hm => by
    obtain ⟨v, hv, q⟩ := List.mem_filterMap.mp hm
    exact nfr (List.mem_filterMap.mpr ⟨v, List.mem_cons_of_mem _ hv, q⟩)
  have nI : sI.heap.get? a = none := by
    cases q : sI.heap.get? a with
    | none => rfl
    | some o =>
      have := nb a o q nfr
      rw [nB] at this
      cases this
  have n0 : X.s_0.heap.get? a = none := by
    cases q : X.s_0.heap.get? a with
    | none => rfl
    | some o =>
      obtain ⟨o', e'⟩ := J.base.there a o q (by rw [hex]; exact List.not_mem_nil)
      rw [nI] at e'
      cases e'
  have nP : ∀ p, p ∈ X.pn ++ pins → p.1 ≠ a := fun p hp z => by
    have e := (J.pin p hp).1
    rw [z, nI] at e
    cases e
  have S3 := J3.suite g3 d3 na nL nF
  refine wpAny_handleBy_cons (codeAny_handlers_test ?_) (fun q => by cases q)
  have look : PySem.W.Looks (model X.prog X.w) h3 (typeOf (.ref a)) cls := fun A' Q' E' t k q => wpAny_typeOf_ref (k _ _ g3) (by rw [z3.1]; exact q)
  have fits := PySem.W.exm_one (M := model X.prog X.w) J3.kIn look eb
  have asked : ∀ {Q' : Value → Shared → Prop} {E' : Value → Shared → Prop}, Q' c { s' with heap := h3 } → wpAny (model X.prog X.w) (X.A.mark (some (.ref a))) (eval (.Name x np) X.env) Q' E' { s' with heap := h3 } := fun q => by
    obtain ⟨g, dbg, m | ⟨m, v, nn⟩⟩ := hc
    · exact ld_glob (X := X.suite a ((a, o3) :: (X.pn ++ pins))) S3 g m q dbg
    · exact ld_blt (X := X.suite a ((a, o3) :: (X.pn ++ pins))) S3 g m v q nn dbg
  refine asked (fits.here ?_)
  cases b with
  | true =>
    refine codeAny_handlers_suite_as (HandSPX.lands_againZ f3 fun h4 f4 u4 => ?_)
    have J4 : Inv X pins σ' G { s' with heap := h4 } := J.landed nb' f4.1 ((up.trans u3).trans u4) os ag
    obtain ⟨o4, v4, g4, z4, d4⟩ := f4.there
    refine store_ok (X := X.suite a ((a, o4) :: (X.pn ++ pins))) (v := .ref a) (J4.suite g4 d4 na nL nF) hN hi (.inl hln) rfl (fun s5 S5 => ?_) (.inr hln)
    refine wpAny_mono ((hsu a o4 cls d (X.pn ++ pins) z4 ⟨_, d4⟩).run [] s5 _ G _ S5 (yes rfl a na)) (fun fl s6 r => ?_) fun _ _ z => z.elim
    cases fl with
    | next =>
      obtain ⟨σ6, G6, S6, q6⟩ := r
      exact gone_ok (keep_track S6 ok n0 nP z4 d4) hN hi hln fun s7 J7 => ⟨_, _, J7, q6⟩
    | brk =>
      obtain ⟨_, _, _, q6⟩ := r
      exact q6.elim
    | cont =>
      obtain ⟨_, _, _, q6⟩ := r
      exact q6.elim
    | ret u =>
      obtain ⟨_, _, _, _, _, q6⟩ := r
      exact q6.elim
  | false =>
    show wpAny _ X.A (handleBy (.ref a) X.env []) _ _ _
    refine wpAny_handleBy_nil ?_
    have f3' := f3
    obtain ⟨_, _, _, oe, ws, T, _, _, ge, _, de, te, _⟩ := f3'
    unfold PySem.passOn
    refine wpAny_bind (wpAny_field ge de te ?_)
    rw [if_neg (by simp)]
    have out : wpAny (model X.prog X.w) X.A (setFlight (.ref a) X.env.frame) (fun _ s4 => wpAny (model X.prog X.w) X.A (throw (.ref a) : Sem Flow) (SP X pins D) X.xe s4) X.xe { s' with heap := h3 } := by
      rw [hf]
      refine HandSPX.setFlight_upZ f3 fun h4 hold u4 => wpAny_throw (tk _ _ ?_)
      refine ⟨a, B, sI, pins, σ', G, cls, d, rfl, J, nb', (up.trans u3).trans u4, .inr (.inr ?_), na, os, ag, no rfl⟩
      rw [hs]
      exact hold
    first
      | exact wpAny_bind (wpAny_pure (wpAny_bind out))
      | exact wpAny_bind out
/-! isinstance of a kept error -/
theorem kit_kept {X : Cx} {pins : List (Addr × Obj)} {σ : L2.St} {H : Hp} {s : Shared} {a D : Addr} (I : Inv X pins σ H s) (C : ExcC X.K D) (e : H a = some (ExK (.ref D) none a)) : ∃ P : Heap → Prop, PySem.W.KitX X.K (.ref a) (.ref D) P ∧ P s.heap := by
  obtain ⟨⟨oe, vs, hg, hz, hd⟩, _, _⟩ := (show ObjOk X.prog X.w H s.heap a (ExK (.ref D) none a) from I.hok a _ e)
  have J : PySem.W.InstAt s.heap a oe D none := by
    obtain ⟨c1, c2, c3, c4⟩ := oe
    obtain ⟨z1, z2⟩ := hz
    dsimp only at z1 z2 hd
    subst z1 z2 hd
    exact ⟨hg, rfl, rfl, trivial⟩
  exact ⟨_, PySem.W.handS_kitx_exc C.hg C.hk C.hs C.hd C.ha C.hn C.ht C.hm, J⟩
def rIsK (K : PySem.W.Frag) : List V → Hp → VK → Prop := fun xs H Q => ∃ (a D : Addr) (c : V) (u : Value) (b : Bool), xs = [.ref a, c] ∧ H a = some (ExK (.ref D) none a) ∧ ExcC K D ∧ ClsV c u ∧ PySem.W.kitOne K (.ref D) u = some b ∧ Q (.bl b) H
theorem call_isK {X : Cx} : CallR X (.builtin "isinstance") (rIsK X.K) := by
  intro pins s σ H xs us Q I r h
  obtain ⟨a, D, c, u, b, rfl, ha, C, k, e, q⟩ := h
  obtain ⟨u1, u2, rfl, r1, r2⟩ := vals2 r
  cases (show u1 = Value.ref a from r1)
  cases k.eq r2
  obtain ⟨P, Z, p⟩ := kit_kept I C ha
  exact PySem.W.kia_one Z I.kIn p e (fun z => nomatch z) fun tk => ⟨.bl b, H, I.tok tk, rfl, q⟩
def rIsKT (K : PySem.W.Frag) : List V → Hp → VK → Prop := fun xs H Q => ∃ (a D tp : Addr) (cs : List V) (us : List Value) (b : Bool), xs = [.ref a, .ref tp] ∧ H a = some (ExK (.ref D) none a) ∧ ExcC K D ∧ H tp = some (.tup cs) ∧ Paired ClsV cs us ∧ PySem.W.kitAny K (.ref D) us = some b ∧ Q (.bl b) H
theorem call_isKT {X : Cx} : CallR X (.builtin "isinstance") (rIsKT X.K) := by
  intro pins s σ H xs us Q I r h
  obtain ⟨a, D, tp, cs, ws, b, rfl, ha, C, hT, k, e, q⟩ := h
  obtain ⟨u1, u2, rfl, r1, r2⟩ := vals2 r
  cases (show u1 = Value.ref a from r1)
  cases (show u2 = Value.ref tp from r2)
  obtain ⟨P, Z, p⟩ := kit_kept I C ha
  obtain ⟨_, its, rv, o, h1, h2, n, h3⟩ := (show ObjOk X.prog X.w H s.heap tp (.tup cs) from I.hok tp _ hT)
  cases ClsV.all k rv
  obtain ⟨oc, od, dt, sl⟩ := o
  simp only at h2 h3
  subst h2 h3
  exact PySem.W.kia_tup Z I.kIn p h1 e (fun z => nomatch z) fun tk => ⟨.bl b, H, I.tok tk, rfl, q⟩
theorem listK {X : Cx} {K : PySem.W.Frag} {tg e : Expr} {t : TE} (h : X.K = K) (he : PE X e t) : PI X tg e (iList K t) := by
  subst h
  exact pi_list he
theorem inK {X : Cx} {K : PySem.W.Frag} (h : X.K = K) : OpR X (compareOp .In) (rIn K false) := by
  subst h
  exact op_in_seq
/-! set(xs) of a list of numbers, with all that sorted() asks of it -/
abbrev noSet (w : World) : Obj := { cls := .type "set", dict := none, data := .set #[] 0 (.fresh 0 0 (!w.params.followText "set-order")) }
section
variable {P : Program} {w : World} {A : Around} {E : Value → Shared → Prop} {s : Shared}
theorem two_off {z l b : Nat} {h : Heap} {o : Obj} (hz : h.objs.size = z) (hb : b < z) : b ∉ [z, (h.push o).objs.size] := by
  rw [Heap.size_push, hz]
  intro hm
  rcases List.mem_cons.mp hm with e | hm
  · omega
  · have := List.mem_singleton.mp hm
    omega
set_option maxRecDepth 100000 in
set_option maxHeartbeats 3200000 in
theorem set_of_list {l : Addr} {xs : Array Value} (ns : List Int) {Q : Value → Shared → Prop} (hA : A.handled = none) (hl : s.heap.IsList l xs) (hi : IntsAre xs.toList ns) (hn : ns.length + 1 < scanBound)
    (fin : ∀ (h' : Heap) (tk c : Nat), SetR w h' s.heap.objs.size (fun j => decide (j ∈ ns)) c → c ≤ ns.length → (∀ b o, s.heap.get? b = some o → h'.get? b = some o) → Q (.ref s.heap.objs.size) { s with heap := h', toks := tk }) :
    wpAny (model P w) A (call (.type "set") [.ref l]) Q E s := by
  have size_eq : xs.size = ns.length := by
    have e := IntsAre.length hi
    rw [Array.length_toList] at e
    exact e
  obtain ⟨c₀, rest, mro₀⟩ := PySem.F.called_set.mro
  have made₀ := PySem.F.called_set.made
  have sub₀ := PySem.F.called_set.sub
  refine wpAny_call (codeAny_of_tree ?_)
  show wpAny _ _ (callAny (.type "set") _) _ _ _
  refine wpAny_pure ⟨Code.quiet_builtin _ (by decide +kernel), codeAny_builtin PySem.F.entry_type_call ?_⟩
  rw [Around.under_plain (weight_type_call_type "set" [.ref l] []) rfl]
  have nt₀ := PySem.F.called_set.notType
  have cc₀ := PySem.F.called_set.canCreate
  have tc₀ := PySem.F.typeCall_set_1 (.ref l)
  repeat (any_goals (first | assumption | wp_step))
  refine codeAny_mono (code_set_led1 (.ref l) (E := E) (Q₁ := fun obj t₁ => obj = .ref s.heap.objs.size ∧ t₁ = { s with heap := s.heap.push (noSet w) }) ⟨rfl, rfl⟩) fun r t₁ out => ?_
  cases r with
  | error e => exact out
  | ok fl =>
    cases fl with
    | ret obj =>
      obtain ⟨rfl, rfl⟩ := out
      have at₀ : (s.heap.push (noSet w)).get? s.heap.objs.size = some (noSet w) := Heap.get?_push_size _ rfl
      have ty₀ : Shared.TypeIs { s with heap := s.heap.push (noSet w) } (.ref s.heap.objs.size) "set" := ⟨_, at₀, rfl⟩
      have lk₀ := PySem.F.called_set.init.lookup
      have bd₀ := PySem.F.called_set.init.bind (.ref s.heap.objs.size)
      repeat (any_goals (first | assumption | wp_step))
      refine codeAny_mono (codeAny_call_builtin (R := wants (fun r t₂ => r = .none ∧ ∃ h' tk c, t₂ = { s with heap := h', toks := tk } ∧ SetR w h' s.heap.objs.size (fun j => decide (j ∈ ns)) c ∧ c ≤ ns.length ∧ (∀ b o, s.heap.get? b = some o → h'.get? b = some o)) E)
        PySem.F.called_set.init.plain PySem.F.entry_set_init (check_set_init_1 ty₀ ?_)) fun r₂ t₂ out₂ => ?_
      · obtain ⟨⟨kc, kd, kt, ks⟩, gl, cl, nl, dl⟩ := hl
        simp only at cl dl
        subst cl
        subst dl
        have lS : l < s.heap.objs.size := Heap.lt_size gl
        have gl' : (s.heap.push (noSet w)).get? l = some { cls := .type "list", dict := kd, data := .seq xs nl, slots := ks } := Heap.get?_push_of_some _ gl
        have no1 := PySem.F.sub_list_set
        have no2 := PySem.F.sub_list_frozenset
        have no3 : (Value.type "list" == Value.type "dict") = false := by decide
        have il : (s.heap.push (noSet w)).IsList l xs := ⟨_, gl', rfl, nl, rfl⟩
        unfold Builtin.«set.__init__» noKeywords Builtin.Frozenset.updateFrom
        generalize hPI : pyIter = PI
        wp_walk
        subst hPI
        refine wpAny_pyIter_list il (wpAny_bind (wpAny_runValue ?_))
        have hA3 : A.in1.in1.in1.handled = none := by simp [hA]
        have lI : l ≠ (s.heap.push (noSet w)).objs.size := by
          rw [Heap.size_push]
          exact Nat.ne_of_lt (Nat.lt_succ_of_lt lS)
        have offS : s.heap.objs.size ∉ [(s.heap.push (noSet w)).objs.size, l] := by
          rw [Heap.size_push]
          intro hm
          rcases List.mem_cons.mp hm with e | hm
          · exact absurd e (Nat.ne_of_lt (Nat.lt_succ_self _))
          · exact absurd (List.mem_singleton.mp hm) (Nat.ne_of_gt lS)
        have vals : ∀ (i : Nat) (v : Value), xs[i]? = some v → ∃ k t, ns[i]? = some k ∧ v = .int k t := fun i v hv => by
          have lt : i < ns.length := by
            rw [← size_eq]
            exact (Array.getElem?_eq_some_iff.mp hv).1
          obtain ⟨t, e⟩ := IntsAre.int_at hi i v (by rw [Array.getElem?_toList]; exact hv)
          exact ⟨ns.getD i 0, t, getD_at lt, e⟩
        refine set_update_ints ((Walks.list hA3 _ l lI xs).toS) s.heap.objs.size offS ns size_eq hn vals (xs.size - 0) 0 _ (by omega) (Nat.zero_le _) ⟨⟨_, Heap.get?_push_size _ rfl, rfl, rfl⟩, (il.push _)⟩
          ⟨0, Nat.le_refl 0, setR_new_at (Heap.get?_push_of_some _ at₀)⟩ fun t' c' moved small R' => ?_
        obtain ⟨h', g', d', tk', os'⟩ := t'
        have e1 : g' = s.gens := moved.gens
        have e2 : d' = s.drawn := moved.drawn
        have e3 : os' = s.os := moved.os
        subst e1
        subst e2
        subst e3
        show wpAny _ _ _ _ _ _
        refine wpAny_pure ?_
        show wpAny _ _ (ret Value.none) _ _ _
        rw [size_eq] at small
        exact wpAny_pure ⟨rfl, h', tk', c', rfl, R', small, fun b o e => moved.heap b o (two_off (l := l) rfl (Heap.lt_size e)) (Heap.get?_push_of_some _ (Heap.get?_push_of_some _ e))⟩
      · cases r₂ with
        | error e => exact out₂
        | ok fl₂ =>
          cases fl₂ with
          | ret r =>
            obtain ⟨rfl, h', tk, c', rfl, R', small, kept⟩ := out₂
            repeat (any_goals (first | assumption | wp_step))
            exact fin _ _ _ R' small kept
          | _ => exact out₂.elim
    | _ => exact out.elim
end
def rSetL (K : PySem.W.Frag) (w : World) : List V → Hp → VK → Prop := fun vs H Q => ∃ (l : Addr) (ns : List Int), vs = [V.ref l] ∧ SqL K H l (ns.map V.int) ∧ ns.length ≤ 1000 ∧ ∀ (p : Addr) (c : Nat), H p = none → c ≤ ns.length → Q (.ref p) (upd H p (SetO w p (fun j => decide (j ∈ ns)) c))
theorem cr_setL {X : Cx} (hc : X.calm = true) : CallR X (.type "set") (rSetL X.K X.w) := by
  intro pins s σ H xs us Q I r h
  obtain ⟨l, ns, rfl, hq, hl, q⟩ := h
  rw [Vals.ref1 r]
  obtain ⟨its, rv, pl, _⟩ := I.list hq
  refine set_of_list ns (I.ok.hd hc) pl.isList (by simpa using intsAre_of rv) (by unfold scanBound; omega) fun h' tk c R small kept => ?_
  exact ⟨.ref _, upd H s.heap.objs.size (SetO X.w s.heap.objs.size (fun j => decide (j ∈ ns)) c), I.laid (t' := tk) kept (Nat.le_refl _) (setO_new R), rfl, q _ c (I.hok.fresh (Nat.le_refl _)) small⟩
theorem setLW {X : Cx} {K : PySem.W.Frag} {w : World} (hK : X.K = K) (hw : X.w = w) (hc : X.calm = true) : CallR X (.type "set") (rSetL K w) := by
  subst hK hw
  exact cr_setL hc
theorem sortedW {X : Cx} {w : World} (hw : X.w = w) (hc : X.calm = true) : CallR X (.builtin "sorted") (rSortedSet w) := by
  subst hw
  exact cr_sortedSet hc
theorem elt_and {X : Cx} {P : Addr} {scope : Scope} {xa xb : Str} {p1 p2 p3 : Pos} (hk : scope.kind = .function) (l1 : scope.names.lookup xa = some .local) (l2 : scope.names.lookup xb = some .local)
    (n1 : (xa == ("__debug__" : Str)) = false := by decide) (n2 : (xb == ("__debug__" : Str)) = false := by decide) :
    PElt2 X P scope xa xb (.BinOp (.Name xa p1) .BitAnd (.Name xb p2) p3) (fun x y z => ∃ i j : Int, x = .int i ∧ y = .int j ∧ z = .int (Builtin.bitAnd i j)) := by
  refine ⟨fun pins s0 σ H I tg cenv B E2 s2 m2 v1 v2 y u1 u2 g r1 r2 te hma hmb => ?_⟩
  obtain ⟨i, j, rfl, rfl, rfl⟩ := te
  obtain ⟨t1, rfl⟩ := (show ∃ t, u1 = Value.int i t from r1)
  obtain ⟨t2, rfl⟩ := (show ∃ t, u2 = Value.int j t from r2)
  refine wpAny_BinOp (ig_local g hk l1 hma (GxR.keeps_refl s2) ?_ n1)
  refine ig_local g hk l2 hmb (GxR.keeps_refl s2) ?_ n2
  exact and_int ⟨⟨_, rfl⟩, GxR.keeps_tok s2 _⟩
theorem elt_or {X : Cx} {P : Addr} {scope : Scope} {xa xb : Str} {p1 p2 p3 : Pos} (hk : scope.kind = .function) (l1 : scope.names.lookup xa = some .local) (l2 : scope.names.lookup xb = some .local)
    (n1 : (xa == ("__debug__" : Str)) = false := by decide) (n2 : (xb == ("__debug__" : Str)) = false := by decide) :
    PElt2 X P scope xa xb (.BinOp (.Name xa p1) .BitOr (.Name xb p2) p3) (fun x y z => ∃ i j : Int, x = .int i ∧ y = .int j ∧ z = .int (Builtin.bitOr i j)) := by
  refine ⟨fun pins s0 σ H I tg cenv B E2 s2 m2 v1 v2 y u1 u2 g r1 r2 te hma hmb => ?_⟩
  obtain ⟨i, j, rfl, rfl, rfl⟩ := te
  obtain ⟨t1, rfl⟩ := (show ∃ t, u1 = Value.int i t from r1)
  obtain ⟨t2, rfl⟩ := (show ∃ t, u2 = Value.int j t from r2)
  refine wpAny_BinOp (ig_local g hk l1 hma (GxR.keeps_refl s2) ?_ n1)
  refine ig_local g hk l2 hmb (GxR.keeps_refl s2) ?_ n2
  exact or_int ⟨⟨_, rfl⟩, GxR.keeps_tok s2 _⟩
theorem elt_xor {X : Cx} {P : Addr} {scope : Scope} {xa xb : Str} {p1 p2 p3 : Pos} (hk : scope.kind = .function) (l1 : scope.names.lookup xa = some .local) (l2 : scope.names.lookup xb = some .local)
    (n1 : (xa == ("__debug__" : Str)) = false := by decide) (n2 : (xb == ("__debug__" : Str)) = false := by decide) :
    PElt2 X P scope xa xb (.BinOp (.Name xa p1) .BitXor (.Name xb p2) p3) (fun x y z => ∃ i j : Int, x = .int i ∧ y = .int j ∧ z = .int (Builtin.bitXor i j)) := by
  refine ⟨fun pins s0 σ H I tg cenv B E2 s2 m2 v1 v2 y u1 u2 g r1 r2 te hma hmb => ?_⟩
  obtain ⟨i, j, rfl, rfl, rfl⟩ := te
  obtain ⟨t1, rfl⟩ := (show ∃ t, u1 = Value.int i t from r1)
  obtain ⟨t2, rfl⟩ := (show ∃ t, u2 = Value.int j t from r2)
  refine wpAny_BinOp (ig_local g hk l1 hma (GxR.keeps_refl s2) ?_ n1)
  refine ig_local g hk l2 hmb (GxR.keeps_refl s2) ?_ n2
  exact xor_int ⟨⟨_, rfl⟩, GxR.keeps_tok s2 _⟩
def sp_ones (_ : PySem.W.Frag) : Sp := fun vs H Q _ => ∃ (a : Addr) (rs : List Int), vs = [.ref a] ∧ H a = some (.tup (rs.map V.int)) ∧ Q (.int rs.sum) H
theorem s_len {n : Nat} (h : n ≤ 100000) : S 4000 (n : Int) := S.mono (n := 20) (show ((n : Int)).natAbs < 2 ^ 20 by omega) (by decide)
/-! the program: rows of one length, or a refusal -/
theorem cnt_pos : ∀ (rs : List Int), rs ≠ [] → 1 ≤ cnt rs.reverse
  | [], h => absurd rfl h
  | x :: r, _ => by
    rw [List.reverse_cons, cnt_snoc]
    by_cases z : x ∈ r.reverse
    · rw [if_pos z]
      exact cnt_pos r fun e => by
        rw [e] at z
        cases z
    · rw [if_neg z]
      omega
theorem cnt_two : ∀ (rs : List Int) (c d : Int), c ∈ rs → d ∈ rs → c ≠ d → 2 ≤ cnt rs.reverse
  | [], _, _, h, _, _ => by cases h
  | x :: r, c, d, hc, hd, hne => by
    rw [List.reverse_cons, cnt_snoc]
    by_cases z : x ∈ r.reverse
    · rw [if_pos z]
      have inn : ∀ y, y ∈ x :: r → y ∈ r := fun y hy => by
        rcases List.mem_cons.mp hy with rfl | hy
        · exact List.mem_reverse.mp z
        · exact hy
      exact cnt_two r c d (inn c hc) (inn d hd) hne
    · rw [if_neg z]
      have hr : r ≠ [] := fun e => by
        subst e
        rw [List.mem_singleton.mp hc, List.mem_singleton.mp hd] at hne
        exact hne rfl
      have := cnt_pos r hr
      omega
theorem cnt_diff {ls : List Int} {c d : Int} (hc : c ∈ ls) (hd : d ∈ ls) (hne : c ≠ d) : 1 < cnt ls := by
  have := cnt_two ls.reverse c d (List.mem_reverse.mpr hc) (List.mem_reverse.mpr hd) hne
  rw [List.reverse_reverse] at this
  omega
theorem cnt_same {ls : List Int} {c : Int} (h : ∀ x, x ∈ ls → x = c) (hne : ls ≠ []) : cnt ls = 1 := by
  have aux : ∀ (rs : List Int), (∀ x, x ∈ rs → x = c) → rs ≠ [] → cnt rs.reverse = 1 := by
    intro rs
    induction rs with
    | nil => intro _ z; exact absurd rfl z
    | cons x r ih =>
      intro hr _
      rw [List.reverse_cons, cnt_snoc]
      by_cases z : r = []
      · subst z
        rfl
      · have hx : x = c := hr x List.mem_cons_self
        have h1 : ∀ y, y ∈ r → y = c := fun y hy => hr y (List.mem_cons_of_mem _ hy)
        obtain ⟨y, t, e⟩ : ∃ y t, r = y :: t := by
          cases r with
          | nil => exact absurd rfl z
          | cons y t => exact ⟨y, t, rfl⟩
        have hm : x ∈ r.reverse := by
          rw [List.mem_reverse, e, hx, ← h1 y (by rw [e]; exact List.mem_cons_self)]
          exact List.mem_cons_self
        rw [if_pos hm]
        exact ih h1 z
  have := aux ls.reverse (fun x hx => h x (List.mem_reverse.mp hx)) (fun z => hne (List.reverse_eq_nil_iff.mp z))
  rw [List.reverse_reverse] at this
  exact this
def sp_refuse_unlike {K : PySem.W.Frag} {mg : Str → Option Value} (T : Defs K mg) : Sp := fun vs H Q E => ∃ (l : Addr) (as : List (Addr × List V)), vs = [.ref l] ∧ H l = some (.lst (as.map fun q => V.ref q.1)) ∧ as.length ≤ 8 ∧ as ≠ [] ∧ (∀ q ∈ as, H q.1 = some (.tup q.2)) ∧
  (((∃ n : Nat, ∀ q ∈ as, q.2.length = n) ∧ Q .non H) ∨ ((∃ p q, p ∈ as ∧ q ∈ as ∧ p.2.length ≠ q.2.length) ∧ E (.ref T.C_Unlike) none H))
theorem ok_refuse_unlike (T : Defs K mg) (TT : Tabs T base) : FnOk P w K mg base (L2.CX P w) 1 T.f_refuse_unlike T.fd_refuse_unlike ["rows"] (sp_refuse_unlike T) := by
  refine okX T.F_refuse_unlike sc_refuse_unlike (fun vs H Q E h => ?_) (fun cdv A outer s H vs Q E hr h => ?_)
  · obtain ⟨l, as, rfl, hl, hn, hne, hts, h⟩ := h
    rfl
  · obtain ⟨l, as, rfl, hl, hn, hne, hts, h⟩ := h
    refine ⟨_, (pss_one (ps_if (pt_cmpR op_gt (pe_lenSC (i := 0) (by rfl) T.m_len rfl rfl (.inl rfl) rfl (by decide +kernel) (by decide +kernel) (by decide +kernel) rfl rfl) pe_int (nomark _)) (pss_one (ps_raise rfl (takes_of (E := E) rfl rfl rfl rfl) (pmk_own PySem.F.excBase_ValueError T.xi_Unlike T.g_Unlike T.xk_Unlike (raises_own T.xs_Unlike T.xt_Unlike) (by rfl)))) pss_nil)), ?_⟩
    refine ⟨l, as, rfl, hl, hn, hts, _, _, rfl, rfl, _, rfl, ?_⟩
    rcases h with ⟨⟨n, heq⟩, q⟩ | ⟨⟨p1, p2, m1, m2, hd⟩, q⟩
    · rw [cnt_same (c := (n : Int)) (fun x hx => by
        obtain ⟨p, hp, rfl⟩ := List.mem_map.mp hx
        rw [heq p hp]) (fun z => hne (List.map_eq_nil_iff.mp z))]
      exact iteF q
    · have big := cnt_diff (ls := as.map fun q => ((q.2.length : Nat) : Int)) (List.mem_map.mpr ⟨p1, m1, rfl⟩) (List.mem_map.mpr ⟨p2, m2, rfl⟩) (by omega)
      refine ite2 (fun _ => q) (fun z => absurd (decide_eq_true ?_) z)
      show (1 : Int) < _
      omega
theorem and_bits {x y : Int} (hx : x = 0 ∨ x = 1) (hy : y = 0 ∨ y = 1) : Builtin.bitAnd x y = x * y := by
  rcases hx with rfl | rfl <;> rcases hy with rfl | rfl <;> decide
def sp_both {K : PySem.W.Frag} {mg : Str → Option Value} (T : Defs K mg) : Sp := fun vs H Q E => ∃ (a b : Addr) (rs ss : List Int), vs = [.ref a, .ref b] ∧ H a = some (.tup (rs.map V.int)) ∧ H b = some (.tup (ss.map V.int)) ∧
  ((rs.length = ss.length ∧ Bits rs ∧ Bits ss ∧ GxR.TabG H T.P_both ∧ ∀ H' p, Sam H H' → H p = none → H' p = some (.tup ((List.zipWith (fun x y => x * y) rs ss).map V.int)) → Q (.ref p) H') ∨ (rs.length ≠ ss.length ∧ ∀ H', Same H H' → E (.ref T.C_Unlike) none H'))
theorem ok_both (T : Defs K mg) (TT : Tabs T base) : FnOk P w K mg base (L2.CX P w) 2 T.f_both T.fd_both ["one", "other"] (sp_both T) := by
  have G_refuse_unlike : FnOk P w K mg base (L2.CX P w) 1 T.f_refuse_unlike T.fd_refuse_unlike ["rows"] (sp_refuse_unlike T) := ok_refuse_unlike T TT
  refine okXC T.F_both T.k_both sc_both (fun vs H Q E h => ?_) (fun A outer s H vs Q E hr h => ?_)
  · obtain ⟨a, b, rs, ss, rfl, ha, hb, h⟩ := h
    rfl
  · obtain ⟨a, b, rs, ss, rfl, ha, hb, h⟩ := h
    refine ⟨_, (pss_cons (ps_expr (pe_call (E := E) G_refuse_unlike (hr.mono (by decide)) (by rfl) T.g_refuse_unlike T.F_refuse_unlike.kp T.b_refuse_unlike .nil (passes_call (takes_of rfl rfl rfl rfl) (fun _ _ _ _ h => h)) (pa_cons (pe_lst (pa_cons (pv 0) (pa_cons (pv 1) pa_nil))) pa_nil)))
    (pss_one (ps_ret (pe_tupZ hr (by rfl) T.m_tuple bt_tuple (by rfl) T.m_zip TT.t_both rfl ⟨⟨rfl, rfl, by decide +kernel, rfl, rfl, gs_free rfl⟩, rfl, by decide⟩ (pa_cons (pv 0) (pa_cons (pv 1) pa_nil)) (elt_and rfl rfl rfl) (fun _ => rfl))))), ?_⟩
    refine ⟨.ref a, rfl, .ref b, rfl, (show 2 ≤ sizeLine by decide), fun l nl => ?_⟩
    have s1 : Same H (upd H l (.lst [.ref a, .ref b])) := same_upd nl
    refine ⟨l, [(a, rs.map V.int), (b, ss.map V.int)], rfl, upd_same, (show 2 ≤ 8 by decide), by simp, ?_, ?_⟩
    · intro p hp
      rcases List.mem_cons.mp hp with rfl | hp
      · exact s1 _ _ ha
      · rw [List.mem_singleton.mp hp]
        exact s1 _ _ hb
    rcases h with ⟨hl, br, bs, tg, q⟩ | ⟨hl, q⟩
    rotate_left
    · refine .inr ⟨⟨(a, rs.map V.int), (b, ss.map V.int), List.mem_cons_self, List.mem_cons_of_mem _ List.mem_cons_self, ?_⟩, q _ s1⟩
      show (rs.map V.int).length ≠ (ss.map V.int).length
      rw [List.length_map, List.length_map]
      exact hl
    refine .inl ⟨⟨rs.length, fun p hp => ?_⟩, ?_⟩
    · rcases List.mem_cons.mp hp with rfl | hp
      · exact List.length_map ..
      · rw [List.mem_singleton.mp hp, hl]
        exact List.length_map ..
    have tg1 := (Sam.of s1).tabG tg
    refine ⟨.ref a, rfl, .ref b, rfl, a, b, _, _, rfl, s1 _ _ ha, s1 _ _ hb, by rw [List.length_map, List.length_map, hl], tg1, (List.zipWith (fun x y => x * y) rs ss).map V.int, ?_, ?_, ?_⟩
    · rw [List.length_map, List.length_map, List.length_zipWith]
      omega
    · intro i x y hx hy
      rw [List.getElem?_map] at hx hy
      have hi : i < rs.length := by
        by_cases z : i < rs.length
        · exact z
        · rw [List.getElem?_eq_none (by omega)] at hx
          cases hx
      rw [List.getElem?_eq_getElem hi] at hx
      rw [List.getElem?_eq_getElem (show i < ss.length by omega)] at hy
      cases hx
      cases hy
      refine ⟨.int (rs[i] * ss[i]), ?_, rs[i], ss[i], rfl, rfl, ?_⟩
      · rw [List.getElem?_map, List.getElem?_zipWith, List.getElem?_eq_getElem hi, List.getElem?_eq_getElem (show i < ss.length by omega)]
        rfl
      · rw [and_bits (br _ (List.getElem_mem hi)) (bs _ (List.getElem_mem _))]
    · intro H2 p tb np
      have s2 := Sam.tabbed tg1 tb
      have s3 := (Sam.of s1).trans s2
      exact q _ p (sam_newer s3 (s3.free np)) (s3.free np) upd_same
theorem or_bits {x y : Int} (hx : x = 0 ∨ x = 1) (hy : y = 0 ∨ y = 1) : Builtin.bitOr x y = x + y - x * y := by
  rcases hx with rfl | rfl <;> rcases hy with rfl | rfl <;> decide
def sp_either {K : PySem.W.Frag} {mg : Str → Option Value} (T : Defs K mg) : Sp := fun vs H Q E => ∃ (a b : Addr) (rs ss : List Int), vs = [.ref a, .ref b] ∧ H a = some (.tup (rs.map V.int)) ∧ H b = some (.tup (ss.map V.int)) ∧
  ((rs.length = ss.length ∧ Bits rs ∧ Bits ss ∧ GxR.TabG H T.P_either ∧ ∀ H' p, Sam H H' → H p = none → H' p = some (.tup ((List.zipWith (fun x y => x + y - x * y) rs ss).map V.int)) → Q (.ref p) H') ∨ (rs.length ≠ ss.length ∧ ∀ H', Same H H' → E (.ref T.C_Unlike) none H'))
theorem ok_either (T : Defs K mg) (TT : Tabs T base) : FnOk P w K mg base (L2.CX P w) 2 T.f_either T.fd_either ["one", "other"] (sp_either T) := by
  have G_refuse_unlike : FnOk P w K mg base (L2.CX P w) 1 T.f_refuse_unlike T.fd_refuse_unlike ["rows"] (sp_refuse_unlike T) := ok_refuse_unlike T TT
  refine okXC T.F_either T.k_either sc_either (fun vs H Q E h => ?_) (fun A outer s H vs Q E hr h => ?_)
  · obtain ⟨a, b, rs, ss, rfl, ha, hb, h⟩ := h
    rfl
  · obtain ⟨a, b, rs, ss, rfl, ha, hb, h⟩ := h
    refine ⟨_, (pss_cons (ps_expr (pe_call (E := E) G_refuse_unlike (hr.mono (by decide)) (by rfl) T.g_refuse_unlike T.F_refuse_unlike.kp T.b_refuse_unlike .nil (passes_call (takes_of rfl rfl rfl rfl) (fun _ _ _ _ h => h)) (pa_cons (pe_lst (pa_cons (pv 0) (pa_cons (pv 1) pa_nil))) pa_nil)))
    (pss_one (ps_ret (pe_tupZ hr (by rfl) T.m_tuple bt_tuple (by rfl) T.m_zip TT.t_either rfl ⟨⟨rfl, rfl, by decide +kernel, rfl, rfl, gs_free rfl⟩, rfl, by decide⟩ (pa_cons (pv 0) (pa_cons (pv 1) pa_nil)) (elt_or rfl rfl rfl) (fun _ => rfl))))), ?_⟩
    refine ⟨.ref a, rfl, .ref b, rfl, (show 2 ≤ sizeLine by decide), fun l nl => ?_⟩
    have s1 : Same H (upd H l (.lst [.ref a, .ref b])) := same_upd nl
    refine ⟨l, [(a, rs.map V.int), (b, ss.map V.int)], rfl, upd_same, (show 2 ≤ 8 by decide), by simp, ?_, ?_⟩
    · intro p hp
      rcases List.mem_cons.mp hp with rfl | hp
      · exact s1 _ _ ha
      · rw [List.mem_singleton.mp hp]
        exact s1 _ _ hb
    rcases h with ⟨hl, br, bs, tg, q⟩ | ⟨hl, q⟩
    rotate_left
    · refine .inr ⟨⟨(a, rs.map V.int), (b, ss.map V.int), List.mem_cons_self, List.mem_cons_of_mem _ List.mem_cons_self, ?_⟩, q _ s1⟩
      show (rs.map V.int).length ≠ (ss.map V.int).length
      rw [List.length_map, List.length_map]
      exact hl
    refine .inl ⟨⟨rs.length, fun p hp => ?_⟩, ?_⟩
    · rcases List.mem_cons.mp hp with rfl | hp
      · exact List.length_map ..
      · rw [List.mem_singleton.mp hp, hl]
        exact List.length_map ..
    have tg1 := (Sam.of s1).tabG tg
    refine ⟨.ref a, rfl, .ref b, rfl, a, b, _, _, rfl, s1 _ _ ha, s1 _ _ hb, by rw [List.length_map, List.length_map, hl], tg1, (List.zipWith (fun x y => x + y - x * y) rs ss).map V.int, ?_, ?_, ?_⟩
    · rw [List.length_map, List.length_map, List.length_zipWith]
      omega
    · intro i x y hx hy
      rw [List.getElem?_map] at hx hy
      have hi : i < rs.length := by
        by_cases z : i < rs.length
        · exact z
        · rw [List.getElem?_eq_none (by omega)] at hx
          cases hx
      rw [List.getElem?_eq_getElem hi] at hx
      rw [List.getElem?_eq_getElem (show i < ss.length by omega)] at hy
      cases hx
      cases hy
      refine ⟨.int (rs[i] + ss[i] - rs[i] * ss[i]), ?_, rs[i], ss[i], rfl, rfl, ?_⟩
      · rw [List.getElem?_map, List.getElem?_zipWith, List.getElem?_eq_getElem hi, List.getElem?_eq_getElem (show i < ss.length by omega)]
        rfl
      · rw [or_bits (br _ (List.getElem_mem hi)) (bs _ (List.getElem_mem _))]
    · intro H2 p tb np
      have s2 := Sam.tabbed tg1 tb
      have s3 := (Sam.of s1).trans s2
      exact q _ p (sam_newer s3 (s3.free np)) (s3.free np) upd_same
theorem xor_bits {x y : Int} (hx : x = 0 ∨ x = 1) (hy : y = 0 ∨ y = 1) : Builtin.bitXor x y = x + y - 2 * x * y := by
  rcases hx with rfl | rfl <;> rcases hy with rfl | rfl <;> decide
def sp_oneof {K : PySem.W.Frag} {mg : Str → Option Value} (T : Defs K mg) : Sp := fun vs H Q E => ∃ (a b : Addr) (rs ss : List Int), vs = [.ref a, .ref b] ∧ H a = some (.tup (rs.map V.int)) ∧ H b = some (.tup (ss.map V.int)) ∧
  ((rs.length = ss.length ∧ Bits rs ∧ Bits ss ∧ GxR.TabG H T.P_oneof ∧ ∀ H' p, Sam H H' → H p = none → H' p = some (.tup ((List.zipWith (fun x y => x + y - 2 * x * y) rs ss).map V.int)) → Q (.ref p) H') ∨ (rs.length ≠ ss.length ∧ ∀ H', Same H H' → E (.ref T.C_Unlike) none H'))
theorem ok_oneof (T : Defs K mg) (TT : Tabs T base) : FnOk P w K mg base (L2.CX P w) 2 T.f_oneof T.fd_oneof ["one", "other"] (sp_oneof T) := by
  have G_refuse_unlike : FnOk P w K mg base (L2.CX P w) 1 T.f_refuse_unlike T.fd_refuse_unlike ["rows"] (sp_refuse_unlike T) := ok_refuse_unlike T TT
  refine okXC T.F_oneof T.k_oneof sc_oneof (fun vs H Q E h => ?_) (fun A outer s H vs Q E hr h => ?_)
  · obtain ⟨a, b, rs, ss, rfl, ha, hb, h⟩ := h
    rfl
  · obtain ⟨a, b, rs, ss, rfl, ha, hb, h⟩ := h
    refine ⟨_, (pss_cons (ps_expr (pe_call (E := E) G_refuse_unlike (hr.mono (by decide)) (by rfl) T.g_refuse_unlike T.F_refuse_unlike.kp T.b_refuse_unlike .nil (passes_call (takes_of rfl rfl rfl rfl) (fun _ _ _ _ h => h)) (pa_cons (pe_lst (pa_cons (pv 0) (pa_cons (pv 1) pa_nil))) pa_nil)))
    (pss_one (ps_ret (pe_tupZ hr (by rfl) T.m_tuple bt_tuple (by rfl) T.m_zip TT.t_oneof rfl ⟨⟨rfl, rfl, by decide +kernel, rfl, rfl, gs_free rfl⟩, rfl, by decide⟩ (pa_cons (pv 0) (pa_cons (pv 1) pa_nil)) (elt_xor rfl rfl rfl) (fun _ => rfl))))), ?_⟩
    refine ⟨.ref a, rfl, .ref b, rfl, (show 2 ≤ sizeLine by decide), fun l nl => ?_⟩
    have s1 : Same H (upd H l (.lst [.ref a, .ref b])) := same_upd nl
    refine ⟨l, [(a, rs.map V.int), (b, ss.map V.int)], rfl, upd_same, (show 2 ≤ 8 by decide), by simp, ?_, ?_⟩
    · intro p hp
      rcases List.mem_cons.mp hp with rfl | hp
      · exact s1 _ _ ha
      · rw [List.mem_singleton.mp hp]
        exact s1 _ _ hb
    rcases h with ⟨hl, br, bs, tg, q⟩ | ⟨hl, q⟩
    rotate_left
    · refine .inr ⟨⟨(a, rs.map V.int), (b, ss.map V.int), List.mem_cons_self, List.mem_cons_of_mem _ List.mem_cons_self, ?_⟩, q _ s1⟩
      show (rs.map V.int).length ≠ (ss.map V.int).length
      rw [List.length_map, List.length_map]
      exact hl
    refine .inl ⟨⟨rs.length, fun p hp => ?_⟩, ?_⟩
    · rcases List.mem_cons.mp hp with rfl | hp
      · exact List.length_map ..
      · rw [List.mem_singleton.mp hp, hl]
        exact List.length_map ..
    have tg1 := (Sam.of s1).tabG tg
    refine ⟨.ref a, rfl, .ref b, rfl, a, b, _, _, rfl, s1 _ _ ha, s1 _ _ hb, by rw [List.length_map, List.length_map, hl], tg1, (List.zipWith (fun x y => x + y - 2 * x * y) rs ss).map V.int, ?_, ?_, ?_⟩
    · rw [List.length_map, List.length_map, List.length_zipWith]
      omega
    · intro i x y hx hy
      rw [List.getElem?_map] at hx hy
      have hi : i < rs.length := by
        by_cases z : i < rs.length
        · exact z
        · rw [List.getElem?_eq_none (by omega)] at hx
          cases hx
      rw [List.getElem?_eq_getElem hi] at hx
      rw [List.getElem?_eq_getElem (show i < ss.length by omega)] at hy
      cases hx
      cases hy
      refine ⟨.int (rs[i] + ss[i] - 2 * rs[i] * ss[i]), ?_, rs[i], ss[i], rfl, rfl, ?_⟩
      · rw [List.getElem?_map, List.getElem?_zipWith, List.getElem?_eq_getElem hi, List.getElem?_eq_getElem (show i < ss.length by omega)]
        rfl
      · rw [xor_bits (br _ (List.getElem_mem hi)) (bs _ (List.getElem_mem _))]
    · intro H2 p tb np
      have s2 := Sam.tabbed tg1 tb
      have s3 := (Sam.of s1).trans s2
      exact q _ p (sam_newer s3 (s3.free np)) (s3.free np) upd_same
def zip3 (u : Int → Int → Int → Int) : List Int → List Int → List Int → List Int
  | x :: xs, y :: ys, z :: zs => u x y z :: zip3 u xs ys zs
  | _, _, _ => []
theorem zip3_len {u : Int → Int → Int → Int} : ∀ {rs ss ts : List Int}, rs.length = ss.length → rs.length = ts.length → (zip3 u rs ss ts).length = rs.length
  | [], _, _, _, _ => rfl
  | x :: xs, y :: ys, z :: zs, h, k => by
    simp only [List.length_cons] at h k
    show (zip3 u xs ys zs).length + 1 = xs.length + 1
    rw [zip3_len (by omega) (by omega)]
  | _ :: _, [], _, h, _ => by cases h
  | _ :: _, _ :: _, [], _, k => by cases k
theorem zip3_get {u : Int → Int → Int → Int} : ∀ {rs ss ts : List Int} {i : Nat} {x y z : Int}, rs[i]? = some x → ss[i]? = some y → ts[i]? = some z → (zip3 u rs ss ts)[i]? = some (u x y z)
  | _ :: _, _ :: _, _ :: _, 0, _, _, _, hx, hy, hz => by
    cases hx
    cases hy
    cases hz
    rfl
  | _ :: xs, _ :: ys, _ :: zs, i + 1, _, _, _, hx, hy, hz => zip3_get (rs := xs) (ss := ys) (ts := zs) (i := i) hx hy hz
  | [], _, _, _, _, _, _, hx, _, _ => by cases hx
  | _ :: _, [], _, _, _, _, _, _, hy, _ => by cases hy
  | _ :: _, _ :: _, [], _, _, _, _, _, _, hz => by cases hz
def pk (i x y : Int) : Int := if i = 1 then x else y
def sp_pick {K : PySem.W.Frag} {mg : Str → Option Value} (T : Defs K mg) : Sp := fun vs H Q E => ∃ (a b c : Addr) (rs ss ts : List Int), vs = [.ref a, .ref b, .ref c] ∧ H a = some (.tup (rs.map V.int)) ∧ H b = some (.tup (ss.map V.int)) ∧ H c = some (.tup (ts.map V.int)) ∧
  ((rs.length = ss.length ∧ rs.length = ts.length ∧ GxR.TabG H T.P_pick ∧ ∀ H' p, Sam H H' → H p = none → H' p = some (.tup ((zip3 pk rs ss ts).map V.int)) → Q (.ref p) H') ∨ (¬ (rs.length = ss.length ∧ rs.length = ts.length) ∧ ∀ H', Same H H' → E (.ref T.C_Unlike) none H'))
theorem ok_pick (T : Defs K mg) (TT : Tabs T base) : FnOk P w K mg base (L2.CX P w) 2 T.f_pick T.fd_pick ["by", "one", "other"] (sp_pick T) := by
  have G_refuse_unlike : FnOk P w K mg base (L2.CX P w) 1 T.f_refuse_unlike T.fd_refuse_unlike ["rows"] (sp_refuse_unlike T) := ok_refuse_unlike T TT
  refine okXC T.F_pick T.k_pick sc_pick (fun vs H Q E h => ?_) (fun A outer s H vs Q E hr h => ?_)
  · obtain ⟨a, b, c, rs, ss, ts, rfl, ha, hb, hc, h⟩ := h
    rfl
  · obtain ⟨a, b, c, rs, ss, ts, rfl, ha, hb, hc, h⟩ := h
    refine ⟨_, (pss_cons (ps_expr (pe_call (E := E) G_refuse_unlike (hr.mono (by decide)) (by rfl) T.g_refuse_unlike T.F_refuse_unlike.kp T.b_refuse_unlike .nil (passes_call (takes_of rfl rfl rfl rfl) (fun _ _ _ _ h => h)) (pa_cons (pe_lst (pa_cons (pv 0) (pa_cons (pv 1) (pa_cons (pv 2) pa_nil)))) pa_nil)))
    (pss_one (ps_ret (pe_tupZ3 hr (by rfl) T.m_tuple bt_tuple (by rfl) T.m_zip TT.t_pick rfl ⟨⟨rfl, rfl, by decide +kernel, rfl, rfl, gs_free rfl⟩, rfl, rfl, by decide, by decide, by decide⟩ (pa_cons (pv 0) (pa_cons (pv 1) (pa_cons (pv 2) pa_nil))) (elt_pick rfl rfl rfl rfl) (fun _ => rfl))))), ?_⟩
    refine ⟨.ref a, rfl, .ref b, rfl, .ref c, rfl, (show 3 ≤ sizeLine by decide), fun l nl => ?_⟩
    have s1 : Same H (upd H l (.lst [.ref a, .ref b, .ref c])) := same_upd nl
    refine ⟨l, [(a, rs.map V.int), (b, ss.map V.int), (c, ts.map V.int)], rfl, upd_same, (show 3 ≤ 8 by decide), by simp, ?_, ?_⟩
    · intro p hp
      simp only [List.mem_cons, List.not_mem_nil, or_false] at hp
      rcases hp with rfl | rfl | rfl
      · exact s1 _ _ ha
      · exact s1 _ _ hb
      · exact s1 _ _ hc
    rcases h with ⟨hl, hl2, tg, q⟩ | ⟨hl, q⟩
    rotate_left
    · by_cases e : rs.length = ss.length
      · refine .inr ⟨⟨(a, rs.map V.int), (c, ts.map V.int), by simp, by simp, ?_⟩, q _ s1⟩
        show (rs.map V.int).length ≠ (ts.map V.int).length
        rw [List.length_map, List.length_map]
        exact fun z => hl ⟨e, z⟩
      · refine .inr ⟨⟨(a, rs.map V.int), (b, ss.map V.int), by simp, by simp, ?_⟩, q _ s1⟩
        show (rs.map V.int).length ≠ (ss.map V.int).length
        rw [List.length_map, List.length_map]
        exact e
    refine .inl ⟨⟨rs.length, fun p hp => ?_⟩, ?_⟩
    · simp only [List.mem_cons, List.not_mem_nil, or_false] at hp
      rcases hp with rfl | rfl | rfl
      · exact List.length_map ..
      · rw [hl]
        exact List.length_map ..
      · rw [hl2]
        exact List.length_map ..
    have tg1 := (Sam.of s1).tabG tg
    refine ⟨.ref a, rfl, .ref b, rfl, .ref c, rfl, a, b, c, _, _, _, rfl, s1 _ _ ha, s1 _ _ hb, s1 _ _ hc, by rw [List.length_map, List.length_map, hl], by rw [List.length_map, List.length_map, hl2], tg1, (zip3 pk rs ss ts).map V.int, ?_, ?_, ?_⟩
    · rw [List.length_map, List.length_map, zip3_len hl hl2]
    · intro i x y z hx hy hz
      rw [List.getElem?_map] at hx hy hz
      obtain ⟨x', ex, rfl⟩ := Option.map_eq_some_iff.mp hx
      obtain ⟨y', ey, rfl⟩ := Option.map_eq_some_iff.mp hy
      obtain ⟨z', ez, rfl⟩ := Option.map_eq_some_iff.mp hz
      refine ⟨.int (pk x' y' z'), ?_, x', rfl, ?_⟩
      · rw [List.getElem?_map, zip3_get ex ey ez]
        rfl
      · unfold pk
        split <;> rfl
    · intro H2 p tb np
      have s2 := Sam.tabbed tg1 tb
      have s3 := (Sam.of s1).trans s2
      exact q _ p (sam_newer s3 (s3.free np)) (s3.free np) upd_same
def trn (rs : List Int) : List Int := rs.map fun b => 1 - b
/-! rows by their places -/
def rwf (n : Nat) (f : Nat → Int) : List Int := (List.range n).map f
theorem rwf_len (n : Nat) (f : Nat → Int) : (rwf n f).length = n := by
  unfold rwf
  rw [List.length_map, List.length_range]
theorem rwf_get {n i : Nat} (f : Nat → Int) (h : i < n) : (rwf n f)[i]? = some (f i) := by
  unfold rwf
  rw [List.getElem?_map, List.getElem?_range h]
  rfl
theorem rwf_congr {n : Nat} {f g : Nat → Int} (h : ∀ i, i < n → f i = g i) : rwf n f = rwf n g := List.map_congr_left fun i hi => h i (List.mem_range.mp hi)
theorem rwf_self (rs : List Int) : rs = rwf rs.length fun i => rs.getD i 0 := by
  apply List.ext_getElem?
  intro i
  by_cases h : i < rs.length
  · rw [rwf_get _ h, getD_at h]
  · rw [List.getElem?_eq_none (by omega), List.getElem?_eq_none (by rw [rwf_len]; omega)]
theorem rwf_zip (n : Nat) (u : Int → Int → Int) (f g : Nat → Int) : List.zipWith u (rwf n f) (rwf n g) = rwf n fun i => u (f i) (g i) := by
  apply List.ext_getElem?
  intro i
  rw [List.getElem?_zipWith]
  by_cases h : i < n
  · rw [rwf_get _ h, rwf_get _ h, rwf_get _ h]
  · rw [List.getElem?_eq_none (by rw [rwf_len]; omega), List.getElem?_eq_none (l := rwf n fun i => u (f i) (g i)) (by rw [rwf_len]; omega)]
theorem rwf_sum (n : Nat) (f : Nat → Int) : (rwf n f).sum = Sm f n := Sm_map f n
theorem rwf_bits {n : Nat} {f : Nat → Int} (h : ∀ i, i < n → f i = 0 ∨ f i = 1) : Bits (rwf n f) := fun x hx => by
  obtain ⟨i, hi, rfl⟩ := List.mem_map.mp hx
  exact h i (List.mem_range.mp hi)
theorem rwf_dot (n : Nat) (f g : Nat → Int) : dot (rwf n f) (rwf n g) = Sm (fun i => f i * g i) n := by
  unfold dot
  rw [rwf_zip, rwf_sum]
theorem rwf_trn (n : Nat) (f : Nat → Int) : trn (rwf n f) = rwf n fun i => 1 - f i := by
  unfold trn rwf
  rw [List.map_map]
  rfl
theorem Sm_less (f g : Nat → Int) : ∀ n, Sm (fun i => f i - g i) n = Sm f n - Sm g n
  | 0 => rfl
  | n + 1 => by
    show Sm (fun i => f i - g i) n + (f n - g n) = (Sm f n + f n) - (Sm g n + g n)
    rw [Sm_less f g n]
    omega
/-- a row of bits as its bits -/
structure Bt (n : Nat) (f : Nat → Int) : Prop where
  b : ∀ i, i < n → f i = 0 ∨ f i = 1
theorem trn_len (rs : List Int) : (trn rs).length = rs.length := List.length_map ..
def sp_turned {K : PySem.W.Frag} {mg : Str → Option Value} (T : Defs K mg) : Sp := fun vs H Q _ => ∃ (a : Addr) (rs : List Int), vs = [.ref a] ∧ H a = some (.tup (rs.map V.int)) ∧ rs.length ≤ 100000 ∧ GxR.TabG H T.P_turned ∧
  ∀ H' p, Sam H H' → H p = none → H' p = some (.tup ((trn rs).map V.int)) → Q (.ref p) H'
theorem ok_turned (T : Defs K mg) (TT : Tabs T base) : FnOk P w K mg base CX0 1 T.f_turned T.fd_turned ["row"] (sp_turned T) := by
  refine okC T.F_turned T.k_turned sc_turned (fun vs H Q E h => ?_) (fun A outer s H vs Q E hr h => ?_)
  · obtain ⟨a, rs, rfl, ha, hl, tg, q⟩ := h
    rfl
  · obtain ⟨a, rs, rfl, ha, hl, tg, q⟩ := h
    refine ⟨_, PSs.nox (pss_one (ps_ret (pe_tupG hr (by rfl) T.m_tuple bt_tuple TT.t_turned rfl ⟨rfl, rfl, by decide +kernel, rfl, rfl, gs_free rfl⟩ (src_tup (pv 0)) (elt_turn rfl rfl) (fun _ => rfl)))), ?_⟩
    have hsl : sizeLine = 16777216 := by decide
    refine ⟨.ref a, rfl, a, _, rfl, ha, tg, by rw [List.length_map]; omega, (trn rs).map V.int, ?_, ?_, ?_⟩
    · rw [List.length_map, trn_len, List.length_map]
    · intro i x hx
      rw [List.getElem?_map] at hx
      obtain ⟨t, ht, rfl⟩ := Option.map_eq_some_iff.mp hx
      refine ⟨.int (1 - t), ?_, t, rfl, rfl⟩
      unfold trn
      rw [List.getElem?_map, List.getElem?_map, ht]
      rfl
    · intro H2 p tb np
      have s2 := Sam.tabbed tg tb
      exact q _ p (sam_newer s2 (s2.free np)) (s2.free np) upd_same
/-! things whose text is short -/
mutual
def lvs (k : Nat) : PyData → Bool
  | .none | .bool _ => true
  | .int i => decide (i.natAbs < 10 ^ k)
  | .str x => x.cps.toList.all fun c => decide (c < 16 ^ 8)
  | .list xs | .tuple xs => lvsA k xs
  | .dict _ => false
def lvsA (k : Nat) : List PyData → Bool
  | [] => true
  | x :: xs => lvs k x && lvsA k xs
end
theorem log_sm {n k : Nat} (hk : k ≤ 400) (h : n < 10 ^ k) : n.log2 < 1920 := by
  by_cases z : n = 0
  · rw [z]
    decide
  · rw [Nat.log2_lt z]
    refine Nat.lt_of_lt_of_le h (Nat.le_trans (Nat.pow_le_pow_left (show 10 ≤ 2 ^ 4 by decide) k) ?_)
    rw [← Nat.pow_mul]
    exact Nat.pow_le_pow_right (by decide) (by omega)
theorem shown_k {i : Int} {k : Nat} (k0 : 0 < k) (h : i.natAbs < 10 ^ k) : (PyData.shown (.int i)).length ≤ k + 1 := by
  have e := int_text_length_le10 (k := k) k0 h
  show (Str.ofString (toString i)).length ≤ k + 1
  rw [PySem.ofString_length]
  exact e
mutual
theorem lvs_show {k : Nat} (k0 : 0 < k) (hk : k ≤ 400) : ∀ d : PyData, lvs k d = true → d.showable = true ∧ d.hasDict = false ∧ d.leavesShort (k + 1) = true
  | .none, _ => ⟨rfl, rfl, rfl⟩
  | .bool _, _ => ⟨rfl, rfl, rfl⟩
  | .int i, h => by
    have h1 : i.natAbs < 10 ^ k := by simpa only [lvs, decide_eq_true_eq] using h
    refine ⟨?_, rfl, ?_⟩
    · simp only [PyData.showable]
      exact decide_eq_true (log_sm hk h1)
    · simp only [PyData.leavesShort]
      exact decide_eq_true (shown_k k0 h1)
  | .str x, h => ⟨rfl, rfl, by simpa only [PyData.leavesShort, lvs] using h⟩
  | .list xs, h => by
    have := lvsA_show k0 hk xs (by simpa only [lvs] using h)
    simpa only [PyData.showable, PyData.hasDict, PyData.leavesShort] using this
  | .tuple xs, h => by
    have := lvsA_show k0 hk xs (by simpa only [lvs] using h)
    simpa only [PyData.showable, PyData.hasDict, PyData.leavesShort] using this
  | .dict _, h => by simp only [lvs] at h; exact nomatch h
theorem lvsA_show {k : Nat} (k0 : 0 < k) (hk : k ≤ 400) : ∀ xs : List PyData, lvsA k xs = true → PyData.showableAll xs = true ∧ PyData.hasDictAll xs = false ∧ PyData.leavesShortAll (k + 1) xs = true
  | [], _ => ⟨rfl, rfl, rfl⟩
  | x :: xs, h => by
    have h' : lvs k x = true ∧ lvsA k xs = true := by simpa only [lvsA, Bool.and_eq_true] using h
    obtain ⟨a1, a2, a3⟩ := lvs_show k0 hk x h'.1
    obtain ⟨b1, b2, b3⟩ := lvsA_show k0 hk xs h'.2
    simp only [PyData.showableAll, PyData.hasDictAll, PyData.leavesShortAll, a1, a2, a3, b1, b2, b3]
    exact ⟨rfl, rfl, rfl⟩
end
structure Sho (d : PyData) : Prop where
  s : d.showable = true
  n : d.hasDict = false
  dp : d.depth ≤ 60
  len : d.shown.length ≤ sizeLine
theorem sho_of {k : Nat} {d : PyData} (k0 : 7 ≤ k) (hk : k ≤ 400) (h : lvs k d = true) (dp : d.depth ≤ 60) (w : (k + 3) * d.weight ≤ 16000000) : Sho d := by
  obtain ⟨a, b, c⟩ := lvs_show (by omega) hk d h
  refine ⟨a, b, dp, ?_⟩
  have e : d.shown.length ≤ (k + 3) * d.weight + (k + 1) := PyData.shown_le (k + 1) (by omega) d c
  rw [sizeLine_eq]
  omega
theorem lvsA_of {k : Nat} : ∀ ds : List PyData, (∀ d, d ∈ ds → lvs k d = true) → lvsA k ds = true
  | [], _ => rfl
  | d :: ds, h => by
    simp only [lvsA, Bool.and_eq_true]
    exact ⟨h d List.mem_cons_self, lvsA_of ds fun x hx => h x (List.mem_cons_of_mem _ hx)⟩
theorem depA_of {n : Nat} : ∀ ds : List PyData, (∀ d, d ∈ ds → d.depth ≤ n) → PyData.depthAll ds ≤ n
  | [], _ => Nat.zero_le _
  | d :: ds, h => by
    have := h d List.mem_cons_self
    have := depA_of ds fun x hx => h x (List.mem_cons_of_mem _ hx)
    simp only [PyData.depthAll]
    omega
theorem weiA_of {n : Nat} : ∀ ds : List PyData, (∀ d, d ∈ ds → d.weight ≤ n) → PyData.weightAll ds ≤ ds.length * (n + 1)
  | [], _ => Nat.zero_le _
  | d :: ds, h => by
    have := h d List.mem_cons_self
    have := weiA_of ds fun x hx => h x (List.mem_cons_of_mem _ hx)
    simp only [PyData.weightAll, List.length_cons, Nat.add_mul, Nat.one_mul]
    omega
/-- short things: their leaves, depth and weight -/
structure Shs (k n w : Nat) (d : PyData) : Prop where
  l : lvs k d = true
  dp : d.depth ≤ n
  wt : d.weight ≤ w
theorem shs_all {k n w : Nat} {ds : List PyData} (h : ∀ d, d ∈ ds → Shs k n w d) : Shs k (n + 1) (ds.length * (w + 1)) (.list ds) ∧ Shs k (n + 1) (ds.length * (w + 1)) (.tuple ds) := by
  have a := lvsA_of ds fun d hd => (h d hd).l
  have b := depA_of ds fun d hd => (h d hd).dp
  have c := weiA_of ds fun d hd => (h d hd).wt
  refine ⟨⟨by simpa only [lvs] using a, ?_, by simpa only [PyData.weight] using c⟩, ⟨by simpa only [lvs] using a, ?_, by simpa only [PyData.weight] using c⟩⟩
  · simp only [PyData.depth]
    omega
  · simp only [PyData.depth]
    omega
theorem Shs.mono {k n m w v : Nat} {d : PyData} (h : Shs k n w d) (a : n ≤ m) (b : w ≤ v) : Shs k m v d := ⟨h.l, Nat.le_trans h.dp a, Nat.le_trans h.wt b⟩
theorem Shs.sho {k n w : Nat} {d : PyData} (h : Shs k n w d) (k0 : 7 ≤ k) (hk : k ≤ 400) (hn : n ≤ 60) (hw : (k + 3) * w ≤ 16000000) : Sho d := sho_of k0 hk h.l (Nat.le_trans h.dp hn) (Nat.le_trans (Nat.mul_le_mul_left _ h.wt) hw)
theorem shs_int {k : Nat} {i : Int} (h : i.natAbs < 10 ^ k) : Shs k 0 (4 * k + 1) (.int i) := by
  refine ⟨?_, ?_, ?_⟩
  · simp only [lvs]
    exact decide_eq_true h
  · simp only [PyData.depth]
    decide
  · simp only [PyData.weight]
    split
    · exact Nat.zero_le _
    · rename_i z
      have z1 : i.natAbs ≠ 0 := fun e => z (by rw [Int.natAbs_eq_zero.mp e]; rfl)
      have := (Nat.log2_lt (k := 4 * k) z1).mpr (Nat.lt_of_lt_of_le h (by
        rw [Nat.pow_mul]
        exact Nat.pow_le_pow_left (by decide) k))
      omega
theorem sho_ints {ns : List Int} (h : ∀ n, n ∈ ns → n.natAbs < 10 ^ 12) (l : ns.length ≤ 20000) : Sho (.list (ns.map .int)) ∧ Sho (.tuple (ns.map .int)) := by
  obtain ⟨a, b⟩ := shs_all (k := 12) (n := 0) (w := 49) (ds := ns.map .int) (fun d hd => by
    obtain ⟨n, hn, rfl⟩ := List.mem_map.mp hd
    exact shs_int (h n hn))
  rw [List.length_map] at a b
  exact ⟨a.sho (by decide) (by decide) (by decide) (by omega), b.sho (by decide) (by decide) (by decide) (by omega)⟩
theorem shs_str {k : Nat} {x : Str} (h : (x.cps.toList.all fun c => decide (c < 16 ^ 8)) = true) (w : x.cps.size ≤ 12) : Shs k 0 12 (.str x) := ⟨by simpa only [lvs] using h, by simp only [PyData.depth]; decide, by simpa only [PyData.weight] using w⟩
theorem shs_non {k : Nat} : Shs k 0 0 .none := ⟨rfl, by simp only [PyData.depth]; decide, by simp only [PyData.weight]; decide⟩
/-! two lists of the same numbers -/
theorem dp_ints {K : PySem.W.Frag} {H : Hp} : ∀ ns : List Int, DpAll K H (ns.map V.int) (ns.map PyData.int)
  | [] => .nil
  | x :: r => .cons (.int x) (dp_ints r)
theorem sh_ints (ns : List Int) : SeqAt.shaped (.list (ns.map PyData.int)) = true := by
  have h1 : PyData.canLayAll0 (ns.map PyData.int) = true := by
    induction ns with
    | nil => rfl
    | cons x r ih =>
      show (PyData.canLay0 (.int x) && PyData.canLayAll0 (r.map PyData.int)) = true
      rw [ih]
      rfl
  have h2 : PyData.depthAll (ns.map PyData.int) = 0 := by
    induction ns with
    | nil => rfl
    | cons x r ih =>
      show max (PyData.depth (.int x)) (PyData.depthAll (r.map PyData.int)) = 0
      rw [ih (by
        have : (PyData.canLay0 (.int x) && PyData.canLayAll0 (r.map PyData.int)) = true := h1
        exact (Bool.and_eq_true_iff.mp this).2)]
      rfl
  show (PyData.canLayAll0 (ns.map PyData.int) && decide (PyData.depthAll (ns.map PyData.int) + 1 ≤ 64)) = true
  rw [h1, h2]
  rfl
theorem eqv_ints (ns : List Int) : PyData.eqv (.list (ns.map PyData.int)) (.list (ns.map PyData.int)) = true := by
  have : PyData.eqvAll (ns.map PyData.int) (ns.map PyData.int) = true := by
    induction ns with
    | nil => rfl
    | cons x r ih =>
      show (PyData.eqv (.int x) (.int x) && PyData.eqvAll (r.map PyData.int) (r.map PyData.int)) = true
      rw [ih]
      show ((x == x) && true) = true
      simp
  exact this
theorem neL {K : PySem.W.Frag} {H : Hp} {a b : Addr} {ns ms : List Int} (ha : H a = some (.lst (ns.map V.int))) (hb : H b = some (.lst (ms.map V.int))) (e : ns = ms) {Q : VK} (q : Q (.bl false) H) : rNeD K (.ref a) (.ref b) H Q := by
  subst e
  refine ⟨_, _, .lst (SqL.mk ha) (dp_ints ns), .lst (SqL.mk hb) (dp_ints ns), sh_ints ns, sh_ints ns, ?_⟩
  rw [eqv_ints]
  exact q
/-! the words of two and three rows -/
inductive Wd where
  | both
  | either
  | oneof
  | pick
namespace Wd
def s : Wd → Str
  | both => "both"
  | either => "either"
  | oneof => "oneof"
  | pick => "pick"
def tbl : Wd → Str
  | both => "00000011"
  | either => "00111111"
  | oneof => "00111100"
  | pick => "01010011"
def op : Wd → Int → Int → Int → Int
  | both, x, y, _ => x * y
  | either, x, y, _ => x + y - x * y
  | oneof, x, y, _ => x + y - 2 * x * y
  | pick, x, y, z => pk x y z
def fit (w : Wd) (rs ss ts : List Int) : Prop := rs.length = ss.length ∧ (w = pick → rs.length = ts.length)
def due (w : Wd) (rs ss ts : List Int) : List Int := rwf rs.length fun i => w.op (rs.getD i 0) (ss.getD i 0) (ts.getD i 0)
end Wd
theorem zip_due {u : Int → Int → Int} {rs ss : List Int} (h : rs.length = ss.length) : List.zipWith u rs ss = rwf rs.length fun i => u (rs.getD i 0) (ss.getD i 0) := by
  have e1 := rwf_self rs
  have e2 : ss = rwf rs.length fun i => ss.getD i 0 := by
    rw [h]
    exact rwf_self ss
  conv => lhs; rw [e1, e2]
  rw [rwf_zip]
theorem zip3_due {u : Int → Int → Int → Int} {rs ss ts : List Int} (h : rs.length = ss.length) (k : rs.length = ts.length) : zip3 u rs ss ts = rwf rs.length fun i => u (rs.getD i 0) (ss.getD i 0) (ts.getD i 0) := by
  apply List.ext_getElem?
  intro i
  by_cases z : i < rs.length
  · rw [rwf_get _ z]
    have g : ∀ xs : List Int, i < xs.length → xs[i]? = some (xs.getD i 0) := fun xs hx => by
      rw [List.getD_eq_getElem?_getD, List.getElem?_eq_getElem hx]
      rfl
    exact zip3_get (g rs z) (g ss (by omega)) (g ts (by omega))
  · rw [List.getElem?_eq_none (by rw [zip3_len h k]; omega), List.getElem?_eq_none (by rw [rwf_len]; omega)]
structure R3 (H : Hp) (a b c : Addr) (rs ss ts : List Int) : Prop where
  a : H a = some (.tup (rs.map V.int))
  b : H b = some (.tup (ss.map V.int))
  c : H c = some (.tup (ts.map V.int))
  ra : Bits rs
  rb : Bits ss
  rc : Bits ts
theorem R3.sam {H H' : Hp} {a b c : Addr} {rs ss ts : List Int} (h : R3 H a b c rs ss ts) (s : Sam H H') : R3 H' a b c rs ss ts := ⟨s.tup h.a, s.tup h.b, s.tup h.c, h.ra, h.rb, h.rc⟩
structure Tb5 {K : PySem.W.Frag} {mg : Str → Option Value} (T : Defs K mg) (H : Hp) : Prop where
  t : GxR.TabG H T.P_turned
  b : GxR.TabG H T.P_both
  e : GxR.TabG H T.P_either
  o : GxR.TabG H T.P_oneof
  p : GxR.TabG H T.P_pick
theorem Tb5.sam {T : Defs K mg} {H H' : Hp} (h : Tb5 T H) (s : Sam H H') : Tb5 T H' := ⟨s.tabG h.t, s.tabG h.b, s.tabG h.e, s.tabG h.o, s.tabG h.p⟩
theorem Tb5.bus {T : Defs K mg} {H H' : Hp} {p : Addr} {n : Nat} (h : Tb5 T H) (B : Bx H p n) (s : Bus p H H') : Tb5 T H' := ⟨s.tabG B h.t, s.tabG B h.b, s.tabG B h.e, s.tabG B h.o, s.tabG B h.p⟩
theorem wne {a b : Str} (h : a ≠ b) : decide (V.str a = V.str b) = false := decide_eq_false fun e => h (V.str.inj e)
theorem none_of {t c1 c2 c3 c4 c5 : Value} (h1 : PySem.W.kitOne K t c1 = some false) (h2 : PySem.W.kitOne K t c2 = some false) (h3 : PySem.W.kitOne K t c3 = some false) (h4 : PySem.W.kitOne K t c4 = some false) (h5 : PySem.W.kitOne K t c5 = some false) : PySem.W.kitAny K t [c1, c2, c3, c4, c5] = some false :=
  kitAny_cons h1 (fun _ => kitAny_cons h2 (fun _ => kitAny_cons h3 (fun _ => kitAny_cons h4 (fun _ => kitAny_cons h5 (fun _ => rfl) (fun z => by cases z)) (fun z => by cases z)) (fun z => by cases z)) (fun z => by cases z)) (fun z => by cases z)
def sp__law_done {K : PySem.W.Frag} {mg : Str → Option Value} (T : Defs K mg) : Sp := fun vs H Q _ => ∃ (w : Wd) (l a b c : Addr) (rs ss ts : List Int), vs = [.str w.s, .ref l] ∧ H l = some (.lst [.ref a, .ref b, .ref c]) ∧ R3 H a b c rs ss ts ∧ Tb5 T H ∧
  (w.fit rs ss ts → ∀ H' p, Sam H H' → H' p = some (.tup ((w.due rs ss ts).map V.int)) → Q (.ref p) H') ∧ (¬ w.fit rs ss ts → ∀ H', Sam H H' → Q (.str "unlike") H')
theorem ok__law_done (T : Defs K mg) (TT : Tabs T base) : FnOk P w K mg base CX0 3 T.f__law_done T.fd__law_done ["_law_word", "_law_rows"] (sp__law_done T) := by
  have G_both : FnOk P w K mg base (L2.CX P w) 2 T.f_both T.fd_both ["one", "other"] (sp_both T) := ok_both T TT
  have G_either : FnOk P w K mg base (L2.CX P w) 2 T.f_either T.fd_either ["one", "other"] (sp_either T) := ok_either T TT
  have G_oneof : FnOk P w K mg base (L2.CX P w) 2 T.f_oneof T.fd_oneof ["one", "other"] (sp_oneof T) := ok_oneof T TT
  have G_pick : FnOk P w K mg base (L2.CX P w) 2 T.f_pick T.fd_pick ["by", "one", "other"] (sp_pick T) := ok_pick T TT
  refine T.F__law_done.ok sc__law_done (fun vs H Q E h => ?_) (fun cdv A outer s H vs Q E hr h => ?_)
  · obtain ⟨wd, l, a, b, c, rs, ss, ts, rfl, hl, h3, tb, q1, q2⟩ := h
    rfl
  · obtain ⟨wd, l, a, b, c, rs, ss, ts, rfl, hl, h3, tb, q1, q2⟩ := h
    refine ⟨_, PSs.nox (pss_cons (ps_asg (pe_tup (pa_cons pe_non (pa_cons pe_non pa_nil))) (pg_tup rfl (pgs_cons (pg_name (i := 2) sc__law_done.nd rfl (.inl rfl)) (pgs_cons (pg_name (i := 3) sc__law_done.nd rfl (.inl rfl)) pgs_nil))))
    (pss_cons (ps_try_held (i := 4) rfl rfl rfl sc__law_done.nd rfl rfl ⟨by rfl, by decide, .inl T.g_OnesError⟩ takes0 (fun W pn xe tk pa => (pss_one (ps_if (pt_cmpR op_eq (pv 0) pe_str (nomark _)) (pss_one (ps_set (i := 2) sc__law_done.nd rfl (.inl rfl) (pe_callS G_both (hr.mono (by decide)) (by rfl) T.g_both T.F_both.kp T.b_both (fun σ => passAt tk σ) (pa_cons (pe_ix (ixlK (K := K) rfl) (pv 1) pe_int (fun _ _ => rfl)) (pa_cons (pe_ix (ixlK (K := K) rfl) (pv 1) pe_int (fun _ _ => rfl)) pa_nil))))) (pss_one (ps_if (pt_cmpR op_eq (pv 0) pe_str (nomark _)) (pss_one (ps_set (i := 2) sc__law_done.nd rfl (.inl rfl) (pe_callS G_either (hr.mono (by decide)) (by rfl) T.g_either T.F_either.kp T.b_either (fun σ => passAt tk σ) (pa_cons (pe_ix (ixlK (K := K) rfl) (pv 1) pe_int (fun _ _ => rfl)) (pa_cons (pe_ix (ixlK (K := K) rfl) (pv 1) pe_int (fun _ _ => rfl)) pa_nil))))) (pss_one (ps_if (pt_cmpR op_eq (pv 0) pe_str (nomark _)) (pss_one (ps_set (i := 2) sc__law_done.nd rfl (.inl rfl) (pe_callS G_oneof (hr.mono (by decide)) (by rfl) T.g_oneof T.F_oneof.kp T.b_oneof (fun σ => passAt tk σ) (pa_cons (pe_ix (ixlK (K := K) rfl) (pv 1) pe_int (fun _ _ => rfl)) (pa_cons (pe_ix (ixlK (K := K) rfl) (pv 1) pe_int (fun _ _ => rfl)) pa_nil))))) (pss_one (ps_set (i := 2) sc__law_done.nd rfl (.inl rfl) (pe_callS G_pick (hr.mono (by decide)) (by rfl) T.g_pick T.F_pick.kp T.b_pick (fun σ => passAt tk σ) (pa_cons (pe_ix (ixlK (K := K) rfl) (pv 1) pe_int (fun _ _ => rfl)) (pa_cons (pe_ix (ixlK (K := K) rfl) (pv 1) pe_int (fun _ _ => rfl)) (pa_cons (pe_ix (ixlK (K := K) rfl) (pv 1) pe_int (fun _ _ => rfl)) pa_nil))))))))))))) (fun a oe cls d pn hz hf => (pss_one (ps_set (i := 3) sc__law_done.nd rfl (.inl rfl) (pv 4)))))
    (pss_cons (ps_if (pt_cmpR op_isN (pv 3) pe_non (nomark _)) (pss_one (ps_ret (pv 2))) pss_nil)
    (pss_cons (ps_set (i := 5) sc__law_done.nd rfl (.inl rfl) (pe_callB call_isKT (by rfl) T.m_isinstance bt_isinstance (pa_cons (pv 3) (pa_cons (pe_tup (pa_cons (pe_glob (v := .ref T.C_BadSheet) (by rfl) T.g_BadSheet rfl) (pa_cons (pe_glob (v := .ref T.C_BadText) (by rfl) T.g_BadText rfl) (pa_cons (pe_glob (v := .ref T.C_NoOne) (by rfl) T.g_NoOne rfl) (pa_cons (pe_glob (v := .ref T.C_NoRound) (by rfl) T.g_NoRound rfl) (pa_cons (pe_glob (v := .ref T.C_NoSuch) (by rfl) T.g_NoSuch rfl) pa_nil)))))) pa_nil))))
    (pss_one (ps_ret (pe_ifExp (PW.pt (pw_and (pt_val (pe_callB call_isK (by rfl) T.m_isinstance bt_isinstance (pa_cons (pv 3) (pa_cons (pe_glob (v := .ref T.C_Unlike) (by rfl) T.g_Unlike rfl) pa_nil)))) (pw_and (pt_val (pe_callB call_isK (by rfl) T.m_isinstance bt_isinstance (pa_cons (pv 3) (pa_cons (pe_bltn (v := .ty "ValueError") (by rfl) T.m_ValueError bt_ValueError rfl) pa_nil)))) (pw_and1 (pt_not (pt_val (pv 5))))))) pe_str pe_str))))))), ?_⟩
    refine ⟨(show 2 ≤ sizeLine by decide), fun t nt => ⟨t, _, rfl, SqT.mk upd_same, rfl, _, _, rfl, _, _, rfl, rfl, ?_⟩⟩
    have s0 := Sam.of (same_upd nt (o := .tup [.non, .non]))
    generalize upd H t (.tup [.non, .non]) = H0 at s0 ⊢
    have hl0 := s0.lst hl
    have h30 := h3.sam s0
    have tb0 := tb.sam s0
    refine nx_via (fun σ F => (∃ p, σ = [some (.str wd.s), some (.ref l), some (.ref p), some .non, none, none] ∧ Sam H F ∧ F p = some (.tup ((wd.due rs ss ts).map V.int)) ∧ wd.fit rs ss ts) ∨ ∃ e, σ = [some (.str wd.s), some (.ref l), some .non, some (.ref e), none, none] ∧ Sam H F ∧ F e = some (ExK (.ref T.C_Unlike) none e) ∧ ¬ wd.fit rs ss ts) (fun N key => ?_) ?_
    · cases wd with
      | both =>
        refine ⟨_, rfl, rfl, _, rfl, ite2 (fun _ => ?_) (fun e => absurd (decide_eq_true rfl) e)⟩
        refine ⟨.ref l, rfl, l, _, 0, _, rfl, rfl, SqL.mk hl0, atI_nat (j := 0) rfl, .ref l, rfl, l, _, 1, _, rfl, rfl, SqL.mk hl0, atI_nat (j := 1) rfl, a, b, rs, ss, rfl, h30.a, h30.b, ?_⟩
        by_cases ft : rs.length = ss.length
        · exact .inl ⟨ft, h30.ra, h30.rb, tb0.b, fun H1 p s1 np hp => key _ _ (.inl ⟨p, rfl, s0.trans s1, by rw [hp, zip_due ft]; rfl, ⟨ft, fun z => by cases z⟩⟩)⟩
        · exact .inr ⟨ft, fun H1 s1 => ⟨true, T.xm_Unlike, fun z => (by cases z), fun _ e ne => ⟨.ref e, rfl, key _ _ (.inr ⟨e, rfl, s0.trans (Sam.of (s1.trans (same_upd ne))), upd_same, fun z => ft z.1⟩)⟩⟩⟩
      | either =>
        refine ⟨_, rfl, rfl, _, rfl, ite2 (fun e => absurd (V.str.inj (of_decide_eq_true e)) (by decide +kernel)) (fun _ => ?_)⟩
        refine ⟨_, rfl, rfl, _, rfl, ite2 (fun _ => ?_) (fun e => absurd (decide_eq_true rfl) e)⟩
        refine ⟨.ref l, rfl, l, _, 0, _, rfl, rfl, SqL.mk hl0, atI_nat (j := 0) rfl, .ref l, rfl, l, _, 1, _, rfl, rfl, SqL.mk hl0, atI_nat (j := 1) rfl, a, b, rs, ss, rfl, h30.a, h30.b, ?_⟩
        by_cases ft : rs.length = ss.length
        · exact .inl ⟨ft, h30.ra, h30.rb, tb0.e, fun H1 p s1 np hp => key _ _ (.inl ⟨p, rfl, s0.trans s1, by rw [hp, zip_due ft]; rfl, ⟨ft, fun z => by cases z⟩⟩)⟩
        · exact .inr ⟨ft, fun H1 s1 => ⟨true, T.xm_Unlike, fun z => (by cases z), fun _ e ne => ⟨.ref e, rfl, key _ _ (.inr ⟨e, rfl, s0.trans (Sam.of (s1.trans (same_upd ne))), upd_same, fun z => ft z.1⟩)⟩⟩⟩
      | oneof =>
        refine ⟨_, rfl, rfl, _, rfl, ite2 (fun e => absurd (V.str.inj (of_decide_eq_true e)) (by decide +kernel)) (fun _ => ?_)⟩
        refine ⟨_, rfl, rfl, _, rfl, ite2 (fun e => absurd (V.str.inj (of_decide_eq_true e)) (by decide +kernel)) (fun _ => ?_)⟩
        refine ⟨_, rfl, rfl, _, rfl, ite2 (fun _ => ?_) (fun e => absurd (decide_eq_true rfl) e)⟩
        refine ⟨.ref l, rfl, l, _, 0, _, rfl, rfl, SqL.mk hl0, atI_nat (j := 0) rfl, .ref l, rfl, l, _, 1, _, rfl, rfl, SqL.mk hl0, atI_nat (j := 1) rfl, a, b, rs, ss, rfl, h30.a, h30.b, ?_⟩
        by_cases ft : rs.length = ss.length
        · exact .inl ⟨ft, h30.ra, h30.rb, tb0.o, fun H1 p s1 np hp => key _ _ (.inl ⟨p, rfl, s0.trans s1, by rw [hp, zip_due ft]; rfl, ⟨ft, fun z => by cases z⟩⟩)⟩
        · exact .inr ⟨ft, fun H1 s1 => ⟨true, T.xm_Unlike, fun z => (by cases z), fun _ e ne => ⟨.ref e, rfl, key _ _ (.inr ⟨e, rfl, s0.trans (Sam.of (s1.trans (same_upd ne))), upd_same, fun z => ft z.1⟩)⟩⟩⟩
      | pick =>
        refine ⟨_, rfl, rfl, _, rfl, ite2 (fun e => absurd (V.str.inj (of_decide_eq_true e)) (by decide +kernel)) (fun _ => ?_)⟩
        refine ⟨_, rfl, rfl, _, rfl, ite2 (fun e => absurd (V.str.inj (of_decide_eq_true e)) (by decide +kernel)) (fun _ => ?_)⟩
        refine ⟨_, rfl, rfl, _, rfl, ite2 (fun e => absurd (V.str.inj (of_decide_eq_true e)) (by decide +kernel)) (fun _ => ?_)⟩
        refine ⟨.ref l, rfl, l, _, 0, _, rfl, rfl, SqL.mk hl0, atI_nat (j := 0) rfl, .ref l, rfl, l, _, 1, _, rfl, rfl, SqL.mk hl0, atI_nat (j := 1) rfl, .ref l, rfl, l, _, 2, _, rfl, rfl, SqL.mk hl0, atI_nat (j := 2) rfl, a, b, c, rs, ss, ts, rfl, h30.a, h30.b, h30.c, ?_⟩
        by_cases ft : rs.length = ss.length ∧ rs.length = ts.length
        · exact .inl ⟨ft.1, ft.2, tb0.p, fun H1 p s1 np hp => key _ _ (.inl ⟨p, rfl, s0.trans s1, by rw [hp, zip3_due ft.1 ft.2]; rfl, ⟨ft.1, fun _ => ft.2⟩⟩)⟩
        · exact .inr ⟨ft, fun H1 s1 => ⟨true, T.xm_Unlike, fun z => (by cases z), fun _ e ne => ⟨.ref e, rfl, key _ _ (.inr ⟨e, rfl, s0.trans (Sam.of (s1.trans (same_upd ne))), upd_same, fun z => ft ⟨z.1, z.2 rfl⟩⟩)⟩⟩⟩
    rintro σ F (⟨p, rfl, sF, hp, ft⟩ | ⟨e, rfl, sF, he, nf⟩)
    · exact ⟨_, rfl, rfl, _, rfl, iteT ⟨.ref p, rfl, q1 ft F p sF hp⟩⟩
    refine ⟨_, rfl, rfl, _, rfl, ?_⟩
    rw [show decide (V.ref e = V.non) = false from rfl]
    refine iteF ?_
    refine ⟨.ref e, rfl, (show 5 ≤ sizeLine by decide), fun t nt => ?_⟩
    have s3 := same_upd nt (o := .tup [.ref T.C_BadSheet, .ref T.C_BadText, .ref T.C_NoOne, .ref T.C_NoRound, .ref T.C_NoSuch])
    have he3 := s3 _ _ he
    refine ⟨e, T.C_Unlike, t, _, _, false, rfl, he3, T.xc_Unlike, upd_same, .cons (.own _) (.cons (.own _) (.cons (.own _) (.cons (.own _) (.cons (.own _) .nil)))), none_of T.xo_Unlike_BadSheet T.xo_Unlike_BadText T.xo_Unlike_NoOne T.xo_Unlike_NoRound T.xo_Unlike_NoSuch, ?_⟩
    refine ⟨.ref e, rfl, e, T.C_Unlike, _, _, true, rfl, he3, T.xc_Unlike, .own _, T.xo_Unlike_Unlike, _, rfl, iteT ?_⟩
    refine ⟨.ref e, rfl, e, T.C_Unlike, _, _, true, rfl, he3, T.xc_Unlike, .ty "ValueError", T.xv_Unlike, _, rfl, iteT ?_⟩
    exact ⟨.bl false, rfl, _, rfl, iteT (q2 nf _ (sF.trans (Sam.of s3)))⟩
/-! the law's look at two things alike -/
theorem walk_zipT {K : PySem.W.Frag} {a b : Addr} {xs ys : List V} {n : Nat} (hn : n = min xs.length ys.length) : Walk (RZ.ItzT K a b) n (fun H => SqT K H a xs ∧ SqT K H b ys) (YPair (fun i => xs[i]?) (fun i => ys[i]?)) := by
  subst hn
  refine ⟨fun i H hi q => ?_, fun H q => ⟨xs, ys, q.1, q.2, by omega⟩, fun i H v H' _ q y => ?_⟩
  · exact ⟨xs, ys, xs[i]'(by omega), ys[i]'(by omega), q.1, q.2, List.getElem?_eq_getElem _, List.getElem?_eq_getElem _⟩
  · obtain ⟨T, x, y, e1, e2, e3, f1, f2⟩ := y
    exact ⟨T, x, y, e1, e2, e3, f1 _ q.1, f2 _ q.2⟩
theorem ki2 : PySem.W.kitAny K (.type "int") [.type "list", .type "tuple"] = some false := kitAny_cons (kit_ty (r := false) (by decide +kernel)) (fun _ => kitAny_cons (kit_ty (r := false) (by decide +kernel)) (fun _ => rfl) (fun z => by cases z)) (fun z => by cases z)
theorem kt2 : PySem.W.kitAny K (.type "tuple") [.type "list", .type "tuple"] = some true := kitAny_cons (kit_ty (r := false) (by decide +kernel)) (fun _ => kitAny_cons (r := true) (kit_ty (r := true) (by decide +kernel)) (fun z => by cases z) (fun _ => rfl)) (fun z => by cases z)
theorem kIn {a b : String} {r : Bool} (h : kitB a b = some r) : PySem.W.kitOne K (.type a) (.type b) = some r := kit_ty h
theorem k_is : kitB "int" "str" = some false := by decide +kernel
theorem k_ib : kitB "int" "bool" = some false := by decide +kernel
theorem k_ii : kitB "int" "int" = some true := by decide +kernel
theorem k_tl : kitB "tuple" "list" = some false := by decide +kernel
theorem k_tt : kitB "tuple" "tuple" = some true := by decide +kernel
def sp_same0 (_ : PySem.W.Frag) : Sp := fun vs H Q _ => ∃ x y : Int, vs = [.int x, .int y] ∧ ∀ H', Same H H' → Q (.bl (decide (x = y))) H'
theorem ok_same0 (T : Defs K mg) (TT : Tabs T base) : FnOk P w K mg base CX0 1 T.f__law_same T.fd__law_same ["_law_found", "_law_due_here"] (sp_same0 K) := by
  have G__law_same : FnOk P w K mg base CX0 0 T.f__law_same T.fd__law_same ["_law_found", "_law_due_here"] (fun _ _ _ _ => False) := ⟨fun _ _ _ _ z => z.elim, fun _ _ _ _ _ _ _ _ _ _ _ _ _ z => z.elim⟩
  refine T.F__law_same.ok sc__law_same (fun vs H Q E h => ?_) (fun cdv A outer s H vs Q E hr h => ?_)
  · obtain ⟨x, y, rfl, q⟩ := h
    rfl
  · obtain ⟨x, y, rfl, q⟩ := h
    refine ⟨_, PSs.nox (pss_cons (ps_if (pt_val (pe_callB call_isiT (by rfl) T.m_isinstance bt_isinstance (pa_cons (pv 1) (pa_cons (pe_tup (pa_cons (pe_bltn (v := .ty "list") (by rfl) T.m_list bt_list rfl) (pa_cons (pe_bltn (v := .ty "tuple") (by rfl) T.m_tuple bt_tuple rfl) pa_nil))) pa_nil)))) (pss_cons (ps_if (PW.pt (pw_or (pt_cmpR op_ne (pe_callB call_isi (by rfl) T.m_isinstance bt_isinstance (pa_cons (pv 0) (pa_cons (pe_bltn (v := .ty "list") (by rfl) T.m_list bt_list rfl) pa_nil))) (pe_callB call_isi (by rfl) T.m_isinstance bt_isinstance (pa_cons (pv 1) (pa_cons (pe_bltn (v := .ty "list") (by rfl) T.m_list bt_list rfl) pa_nil))) (nomark _)) (pw_or1 (pt_cmpR op_ne (pe_callB call_isi (by rfl) T.m_isinstance bt_isinstance (pa_cons (pv 0) (pa_cons (pe_bltn (v := .ty "tuple") (by rfl) T.m_tuple bt_tuple rfl) pa_nil))) (pe_callB call_isi (by rfl) T.m_isinstance bt_isinstance (pa_cons (pv 1) (pa_cons (pe_bltn (v := .ty "tuple") (by rfl) T.m_tuple bt_tuple rfl) pa_nil))) (nomark _))))) (pss_one (ps_ret pe_bl)) pss_nil)
    (pss_one (ps_ret (pe_and (pe_cmpR op_eq (pe_callB call_len_seq (by rfl) T.m_len bt_len (pa_cons (pv 0) pa_nil)) (pe_callB call_len_seq (by rfl) T.m_len bt_len (pa_cons (pv 1) pa_nil)) (nomark _)) (pe_one (pe_callB (cr_all rfl) (by rfl) T.m_all bt_all (pa_cons (pe_lc (own := [("_law_one", 2), ("_law_other", 3)]) (g := gTup K 2 (gCons (gName 2) (gCons (gName 3) gNil))) (tt := tYes) rfl sc__law_same.nd (RZ.pi_zipA (by rfl) T.m_zip (pa_cons (pv 0) (pa_cons (pv 1) pa_nil))) (blkOk_by (N := N__law_same) (sc := defScope s__law_same) (by decide +kernel)) (fun _ _ _ _ _ => (pg_tupK (K := K) rfl rfl (pgs_cons (pg_name (i := 2) sc__law_same.nd rfl (.inl rfl)) (pgs_cons (pg_name (i := 3) sc__law_same.nd rfl (.inl rfl)) pgs_nil)))) (fun _ _ _ _ _ => pts_nil) (fun _ _ _ _ _ => (pe_call G__law_same (hr.mono (by decide)) (by rfl) T.g__law_same T.F__law_same.kp T.b__law_same .nil pass0 (pa_cons (pv 2) (pa_cons (pv 3) pa_nil))))) pa_nil))))))) pss_nil)
    (pss_cons (ps_if (pt_cmpR op_isN (pv 1) pe_non (nomark _)) (pss_one (ps_ret (pe_cmpR op_isN (pv 0) pe_non (nomark _)))) pss_nil)
    (pss_cons (ps_if (pt_val (pe_callB call_isi (by rfl) T.m_isinstance bt_isinstance (pa_cons (pv 1) (pa_cons (pe_bltn (v := .ty "str") (by rfl) T.m_str bt_str rfl) pa_nil)))) (pss_one (ps_ret (pe_and (pe_callB call_isi (by rfl) T.m_isinstance bt_isinstance (pa_cons (pv 0) (pa_cons (pe_bltn (v := .ty "str") (by rfl) T.m_str bt_str rfl) pa_nil))) (pe_one (pe_cmpR op_eq (pv 0) (pv 1) (nomark _)))))) pss_nil)
    (pss_cons (ps_if (pt_val (pe_callB call_isi (by rfl) T.m_isinstance bt_isinstance (pa_cons (pv 1) (pa_cons (pe_bltn (v := .ty "bool") (by rfl) T.m_bool bt_bool rfl) pa_nil)))) (pss_one (ps_ret (pe_and (pe_callB call_isi (by rfl) T.m_isinstance bt_isinstance (pa_cons (pv 0) (pa_cons (pe_bltn (v := .ty "bool") (by rfl) T.m_bool bt_bool rfl) pa_nil))) (pe_one (pe_cmpR op_eq (pv 0) (pv 1) (nomark _)))))) pss_nil)
    (pss_one (ps_ret (pe_and (pe_callB call_isi (by rfl) T.m_isinstance bt_isinstance (pa_cons (pv 0) (pa_cons (pe_bltn (v := .ty "int") (by rfl) T.m_int bt_int rfl) pa_nil))) (pe_and (pe_not (pe_callB call_isi (by rfl) T.m_isinstance bt_isinstance (pa_cons (pv 0) (pa_cons (pe_bltn (v := .ty "bool") (by rfl) T.m_bool bt_bool rfl) pa_nil)))) (pe_one (pe_cmpR op_eq (pv 0) (pv 1) (nomark _))))))))))), ?_⟩
    refine ⟨.int y, rfl, (show 2 ≤ sizeLine by decide), fun tp np => ?_⟩
    have s1 : Same H (upd H tp (.tup [.ty "list", .ty "tuple"])) := same_upd np
    refine ⟨_, tp, _, _, _, _, rfl, upd_same, .cons (.ty "list") (.cons (.ty "tuple") .nil), .base (.int y), ki2, _, rfl, ?_⟩
    refine iteF ?_
    refine ⟨.int y, rfl, rfl, _, rfl, ?_⟩
    refine iteF ?_
    refine ⟨.int y, rfl, _, _, _, _, _, rfl, .ty "str", .base (.int y), kIn k_is, _, rfl, ?_⟩
    refine iteF ?_
    refine ⟨.int y, rfl, _, _, _, _, _, rfl, .ty "bool", .base (.int y), kIn k_ib, _, rfl, ?_⟩
    refine iteF ?_
    refine ⟨.int x, rfl, _, _, _, _, _, rfl, .ty "int", .base (.int x), kIn k_ii, _, rfl, ?_⟩
    refine iteT ?_
    refine ⟨.int x, rfl, _, _, _, _, _, rfl, .ty "bool", .base (.int x), kIn k_ib, _, rfl, _, rfl, ?_⟩
    refine iteT ?_
    refine ⟨.int x, rfl, .int y, rfl, rfl, ?_⟩
    have e : decide (V.int x = V.int y) = decide (x = y) := decide_eq_decide.mpr ⟨V.int.inj, fun z => by rw [z]⟩
    rw [e]
    exact q _ s1
theorem ks2 : PySem.W.kitAny K (.type "str") [.type "list", .type "tuple"] = some false := kitAny_cons (kit_ty (r := false) (by decide +kernel)) (fun _ => kitAny_cons (kit_ty (r := false) (by decide +kernel)) (fun _ => rfl) (fun z => by cases z)) (fun z => by cases z)
theorem k_ss : kitB "str" "str" = some true := by decide +kernel
/-- two texts alike, or two rows alike -/
def sp__law_same (_ : PySem.W.Frag) : Sp := fun vs H Q _ => ∃ x y : V, vs = [x, y] ∧ ((∃ z, x = .str z ∧ y = .str z) ∨ ∃ (a b : Addr) (rs : List Int), x = .ref a ∧ y = .ref b ∧ H a = some (.tup (rs.map V.int)) ∧ H b = some (.tup (rs.map V.int)) ∧ rs.length ≤ 100000) ∧ ∀ H', Same H H' → Q (.bl true) H'
theorem ok__law_same (T : Defs K mg) (TT : Tabs T base) : FnOk P w K mg base CX0 2 T.f__law_same T.fd__law_same ["_law_found", "_law_due_here"] (sp__law_same K) := by
  have G__law_same : FnOk P w K mg base CX0 1 T.f__law_same T.fd__law_same ["_law_found", "_law_due_here"] (sp_same0 K) := ok_same0 T TT
  refine T.F__law_same.ok sc__law_same (fun vs H Q E h => ?_) (fun cdv A outer s H vs Q E hr h => ?_)
  · obtain ⟨vx, vy, rfl, h, q⟩ := h
    rfl
  · obtain ⟨vx, vy, rfl, h, q⟩ := h
    refine ⟨_, PSs.nox (pss_cons (ps_if (pt_val (pe_callB call_isiT (by rfl) T.m_isinstance bt_isinstance (pa_cons (pv 1) (pa_cons (pe_tup (pa_cons (pe_bltn (v := .ty "list") (by rfl) T.m_list bt_list rfl) (pa_cons (pe_bltn (v := .ty "tuple") (by rfl) T.m_tuple bt_tuple rfl) pa_nil))) pa_nil)))) (pss_cons (ps_if (PW.pt (pw_or (pt_cmpR op_ne (pe_callB call_isi (by rfl) T.m_isinstance bt_isinstance (pa_cons (pv 0) (pa_cons (pe_bltn (v := .ty "list") (by rfl) T.m_list bt_list rfl) pa_nil))) (pe_callB call_isi (by rfl) T.m_isinstance bt_isinstance (pa_cons (pv 1) (pa_cons (pe_bltn (v := .ty "list") (by rfl) T.m_list bt_list rfl) pa_nil))) (nomark _)) (pw_or1 (pt_cmpR op_ne (pe_callB call_isi (by rfl) T.m_isinstance bt_isinstance (pa_cons (pv 0) (pa_cons (pe_bltn (v := .ty "tuple") (by rfl) T.m_tuple bt_tuple rfl) pa_nil))) (pe_callB call_isi (by rfl) T.m_isinstance bt_isinstance (pa_cons (pv 1) (pa_cons (pe_bltn (v := .ty "tuple") (by rfl) T.m_tuple bt_tuple rfl) pa_nil))) (nomark _))))) (pss_one (ps_ret pe_bl)) pss_nil)
    (pss_one (ps_ret (pe_and (pe_cmpR op_eq (pe_callB call_len_seq (by rfl) T.m_len bt_len (pa_cons (pv 0) pa_nil)) (pe_callB call_len_seq (by rfl) T.m_len bt_len (pa_cons (pv 1) pa_nil)) (nomark _)) (pe_one (pe_callB (cr_all rfl) (by rfl) T.m_all bt_all (pa_cons (pe_lc (own := [("_law_one", 2), ("_law_other", 3)]) (g := gTup K 2 (gCons (gName 2) (gCons (gName 3) gNil))) (tt := tYes) rfl sc__law_same.nd (RZ.pi_zipA (by rfl) T.m_zip (pa_cons (pv 0) (pa_cons (pv 1) pa_nil))) (blkOk_by (N := N__law_same) (sc := defScope s__law_same) (by decide +kernel)) (fun _ _ _ _ _ => (pg_tupK (K := K) rfl rfl (pgs_cons (pg_name (i := 2) sc__law_same.nd rfl (.inl rfl)) (pgs_cons (pg_name (i := 3) sc__law_same.nd rfl (.inl rfl)) pgs_nil)))) (fun _ _ _ _ _ => pts_nil) (fun _ _ _ _ _ => (pe_call G__law_same (hr.mono (by decide)) (by rfl) T.g__law_same T.F__law_same.kp T.b__law_same .nil pass0 (pa_cons (pv 2) (pa_cons (pv 3) pa_nil))))) pa_nil))))))) pss_nil)
    (pss_cons (ps_if (pt_cmpR op_isN (pv 1) pe_non (nomark _)) (pss_one (ps_ret (pe_cmpR op_isN (pv 0) pe_non (nomark _)))) pss_nil)
    (pss_cons (ps_if (pt_val (pe_callB call_isi (by rfl) T.m_isinstance bt_isinstance (pa_cons (pv 1) (pa_cons (pe_bltn (v := .ty "str") (by rfl) T.m_str bt_str rfl) pa_nil)))) (pss_one (ps_ret (pe_and (pe_callB call_isi (by rfl) T.m_isinstance bt_isinstance (pa_cons (pv 0) (pa_cons (pe_bltn (v := .ty "str") (by rfl) T.m_str bt_str rfl) pa_nil))) (pe_one (pe_cmpR op_eq (pv 0) (pv 1) (nomark _)))))) pss_nil)
    (pss_cons (ps_if (pt_val (pe_callB call_isi (by rfl) T.m_isinstance bt_isinstance (pa_cons (pv 1) (pa_cons (pe_bltn (v := .ty "bool") (by rfl) T.m_bool bt_bool rfl) pa_nil)))) (pss_one (ps_ret (pe_and (pe_callB call_isi (by rfl) T.m_isinstance bt_isinstance (pa_cons (pv 0) (pa_cons (pe_bltn (v := .ty "bool") (by rfl) T.m_bool bt_bool rfl) pa_nil))) (pe_one (pe_cmpR op_eq (pv 0) (pv 1) (nomark _)))))) pss_nil)
    (pss_one (ps_ret (pe_and (pe_callB call_isi (by rfl) T.m_isinstance bt_isinstance (pa_cons (pv 0) (pa_cons (pe_bltn (v := .ty "int") (by rfl) T.m_int bt_int rfl) pa_nil))) (pe_and (pe_not (pe_callB call_isi (by rfl) T.m_isinstance bt_isinstance (pa_cons (pv 0) (pa_cons (pe_bltn (v := .ty "bool") (by rfl) T.m_bool bt_bool rfl) pa_nil)))) (pe_one (pe_cmpR op_eq (pv 0) (pv 1) (nomark _))))))))))), ?_⟩
    rcases h with ⟨z, rfl, rfl⟩ | ⟨a, b, rs, rfl, rfl, ha, hb, hl⟩
    · refine ⟨.str z, rfl, (show 2 ≤ sizeLine by decide), fun tp np => ?_⟩
      have s1 : Same H (upd H tp (.tup [.ty "list", .ty "tuple"])) := same_upd np
      refine ⟨_, tp, _, _, _, _, rfl, upd_same, .cons (.ty "list") (.cons (.ty "tuple") .nil), .base (.str z), ks2, _, rfl, ?_⟩
      refine iteF ?_
      refine ⟨.str z, rfl, rfl, _, rfl, ?_⟩
      refine iteF ?_
      refine ⟨.str z, rfl, _, _, _, _, _, rfl, .ty "str", .base (.str z), kIn k_ss, _, rfl, ?_⟩
      refine iteT ?_
      refine ⟨.str z, rfl, _, _, _, _, _, rfl, .ty "str", .base (.str z), kIn k_ss, _, rfl, ?_⟩
      refine iteT ?_
      refine ⟨.str z, rfl, .str z, rfl, by simp [scal], ?_⟩
      rw [decide_eq_true rfl]
      exact q _ s1
    refine ⟨.ref b, rfl, (show 2 ≤ sizeLine by decide), fun tp np => ?_⟩
    have s1 : Same H (upd H tp (.tup [.ty "list", .ty "tuple"])) := same_upd np
    have ha1 := s1 _ _ ha
    have hb1 := s1 _ _ hb
    refine ⟨_, tp, _, _, _, _, rfl, upd_same, .cons (.ty "list") (.cons (.ty "tuple") .nil), .base (.tup hb1), kt2, _, rfl, ?_⟩
    generalize upd H tp (.tup [.ty "list", .ty "tuple"]) = H1 at *
    refine iteT ?_
    refine ⟨.ref a, rfl, _, _, _, _, _, rfl, .ty "list", .base (.tup ha1), kIn k_tl, .ref b, rfl, _, _, _, _, _, rfl, .ty "list", .base (.tup hb1), kIn k_tl, rfl, _, rfl, ?_⟩
    refine iteF ?_
    refine ⟨.ref a, rfl, _, _, _, _, _, rfl, .ty "tuple", .base (.tup ha1), kIn k_tt, .ref b, rfl, _, _, _, _, _, rfl, .ty "tuple", .base (.tup hb1), kIn k_tt, rfl, _, rfl, ?_⟩
    refine iteF ?_
    refine ⟨.ref a, rfl, a, _, rfl, .inr (SqT.mk ha1), .ref b, rfl, b, _, rfl, .inr (SqT.mk hb1), rfl, _, rfl, ?_⟩
    rw [decide_eq_true rfl]
    refine iteT ?_
    have hsl : sizeLine = 16777216 := by decide
    refine ⟨.ref a, rfl, .ref b, rfl, a, b, _, _, rfl, .inr ⟨SqT.mk ha1, SqT.mk hb1, fun D nD => ?_⟩⟩
    refine lc_it (walk_zipT (n := rs.length) (xs := rs.map V.int) (ys := rs.map V.int) (by rw [List.length_map, Nat.min_self])) (fun i H2 => Same H1 H2 ∧ H2 D = some (.lst ((List.replicate i true).map V.bl))) ⟨same_upd nD, upd_same⟩ (fun i H2 _ h2 => ⟨SqT.mk (h2.1 _ _ ha1), SqT.mk (h2.1 _ _ hb1)⟩) ?_ ?_
    · rintro i x H2 H3 hi ⟨s2, hD⟩ ⟨t, x1, x2, rfl, nt, rfl, e1, e2⟩
      have g : (rs.map V.int)[i]? = some (.int rs[i]) := by
        rw [List.getElem?_map, List.getElem?_eq_getElem hi]
        rfl
      have e1 : (rs.map V.int)[i]? = some x1 := e1
      have e2 : (rs.map V.int)[i]? = some x2 := e2
      rw [g] at e1 e2
      cases e1
      cases e2
      refine ⟨t, _, rfl, SqT.mk upd_same, rfl, _, _, rfl, _, _, rfl, rfl, rfl, yes_ite ?_⟩
      refine ⟨_, rfl, _, rfl, rs[i], rs[i], rfl, fun H4 s4 => ?_⟩
      have s24 : Same H2 H4 := (same_upd nt).trans s4
      refine ⟨_, s24 _ _ hD, by rw [List.length_map, List.length_replicate]; omega, same_newer (s2.trans s24) nD, ?_⟩
      rw [upd_same, List.replicate_succ', List.map_append, decide_eq_true rfl]
      rfl
    · rintro H2 ⟨s2, hD⟩
      refine ⟨D, List.replicate rs.length true, rfl, SqL.mk hD, ?_⟩
      rw [show (List.replicate rs.length true).all id = true by rw [List.all_replicate]; simp]
      exact q _ (s1.trans s2)
/-! what is due of two and three rows -/
theorem cut3V (x y z : V) : cutV [x, y, z] none (some 3) = [x, y, z] := rfl
theorem cut2V (x y z : V) : cutV [x, y, z] none (some 2) = [x, y] := rfl
theorem met2 (x y : Int) : (PyProof.Rows.firstMet (fun i => [x, y].getD i 0) 2).length = if x = y then 1 else 2 := by
  unfold PyProof.Rows.firstMet
  simp only [List.range, List.range.loop, List.map, List.foldl, step_dedup, List.getD_cons_zero, List.getD_cons_succ]
  by_cases e : x = y
  · simp [e]
  · simp [e]
theorem met3 (x y z : Int) : (PyProof.Rows.firstMet (fun i => [x, y, z].getD i 0) 3).length = 1 ↔ x = y ∧ x = z := by
  unfold PyProof.Rows.firstMet
  simp only [List.range, List.range.loop, List.map, List.foldl, step_dedup, List.getD_cons_zero, List.getD_cons_succ]
  by_cases e : x = y <;> by_cases e2 : x = z <;> by_cases e3 : y = z <;> simp_all
theorem met3_pos (x y z : Int) : 1 ≤ (PyProof.Rows.firstMet (fun i => [x, y, z].getD i 0) 3).length := by
  unfold PyProof.Rows.firstMet
  simp only [List.range, List.range.loop, List.map, List.foldl, step_dedup, List.getD_cons_zero, List.getD_cons_succ]
  by_cases e : x = y <;> by_cases e2 : x = z <;> by_cases e3 : y = z <;> simp_all
namespace Wd
def rws (w : Wd) (a b c : Addr) (rs ss ts : List Int) : List (Addr × List Int) := match w with
  | pick => [(a, rs), (b, ss), (c, ts)]
  | _ => [(a, rs), (b, ss)]
theorem rws_len (w : Wd) (a b c : Addr) (rs ss ts : List Int) : (w.rws a b c rs ss ts).length ≤ 3 := by
  cases w <;> simp [rws]
theorem rws_met (w : Wd) (a b c : Addr) (rs ss ts : List Int) : (1 < (((PyProof.Rows.firstMet (fun i => ((w.rws a b c rs ss ts).map fun q => ((q.2.length : Nat) : Int)).getD i 0) ((w.rws a b c rs ss ts).map fun q => ((q.2.length : Nat) : Int)).length).length : Nat) : Int)) ↔ ¬ w.fit rs ss ts := by
  have two : ∀ w : Wd, w ≠ pick → ((1 : Int) < ((PyProof.Rows.firstMet (fun i => [((rs.length : Nat) : Int), ((ss.length : Nat) : Int)].getD i 0) 2).length : Nat) ↔ ¬ w.fit rs ss ts) := fun w hw => by
    rw [met2]
    constructor
    · intro h z
      rw [if_pos (by rw [z.1])] at h
      omega
    · intro h
      rw [if_neg (fun z => h ⟨by omega, fun y => absurd y hw⟩)]
      decide
  cases w with
  | both => exact two .both (by intro z; cases z)
  | either => exact two .either (by intro z; cases z)
  | oneof => exact two .oneof (by intro z; cases z)
  | pick =>
    show (1 : Int) < ((PyProof.Rows.firstMet (fun i => [((rs.length : Nat) : Int), ((ss.length : Nat) : Int), ((ts.length : Nat) : Int)].getD i 0) 3).length : Nat) ↔ _
    have a := met3 (rs.length : Nat) (ss.length : Nat) (ts.length : Nat)
    have b := met3_pos (rs.length : Nat) (ss.length : Nat) (ts.length : Nat)
    constructor
    · intro h z
      have := a.mpr ⟨by rw [z.1], by rw [z.2 rfl]⟩
      omega
    · intro h
      have : ¬ _ := fun e => h (by
        have z := a.mp e
        exact ⟨by omega, fun _ => by omega⟩)
      omega
theorem tbl_len (w : Wd) : w.tbl.length ≤ sizeLine := by
  cases w <;> decide +kernel
theorem tab (w : Wd) (x y z : Int) (hx : x = 0 ∨ x = 1) (hy : y = 0 ∨ y = 1) (hz : z = 0 ∨ z = 1) (h : w ≠ pick → z = 0) (u : Int) (hu : w = pick → u = z) : ∃ c, atI w.tbl.cps.toList (4 * x + 2 * y + z) = some c ∧ PySem.intText? ⟨#[c]⟩ = some (w.op x y u) ∧ (⟨#[c]⟩ : Str).length ≤ 640 := by
  cases w with
  | both =>
    obtain rfl := h (by intro z; cases z)
    rw [show Wd.both.op x y u = Wd.both.op x y 0 from rfl]
    rcases hx with rfl | rfl <;> rcases hy with rfl | rfl <;> exact ⟨_, rfl, by decide +kernel, by decide +kernel⟩
  | either =>
    obtain rfl := h (by intro z; cases z)
    rw [show Wd.either.op x y u = Wd.either.op x y 0 from rfl]
    rcases hx with rfl | rfl <;> rcases hy with rfl | rfl <;> exact ⟨_, rfl, by decide +kernel, by decide +kernel⟩
  | oneof =>
    obtain rfl := h (by intro z; cases z)
    rw [show Wd.oneof.op x y u = Wd.oneof.op x y 0 from rfl]
    rcases hx with rfl | rfl <;> rcases hy with rfl | rfl <;> exact ⟨_, rfl, by decide +kernel, by decide +kernel⟩
  | pick =>
    obtain rfl := hu rfl
    rcases hx with rfl | rfl <;> rcases hy with rfl | rfl <;> rcases hz with rfl | rfl <;> exact ⟨_, rfl, by decide +kernel, by decide +kernel⟩
end Wd
theorem bits_at0 {rs : List Int} (h : Bits rs) (i : Nat) : rs.getD i 0 = 0 ∨ rs.getD i 0 = 1 := by
  by_cases z : i < rs.length
  · rw [List.getD_eq_getElem?_getD, List.getElem?_eq_getElem z]
    exact h _ (List.getElem_mem z)
  · rw [List.getD_eq_getElem?_getD, List.getElem?_eq_none (by omega)]
    exact .inl rfl
theorem Wd.look (w : Wd) (a b c : Addr) {rs ss ts : List Int} (ra : Bits rs) (rb : Bits ss) (rc : Bits ts) (i : Nat) : ∃ x y z k, (((w.rws a b c rs ss ts).map fun q => V.int (q.2.getD i 0)) ++ [.int 0])[0]? = some (.int x) ∧ (((w.rws a b c rs ss ts).map fun q => V.int (q.2.getD i 0)) ++ [.int 0])[1]? = some (.int y) ∧ (((w.rws a b c rs ss ts).map fun q => V.int (q.2.getD i 0)) ++ [.int 0])[2]? = some (.int z) ∧ atI w.tbl.cps.toList (4 * x + 2 * y + z) = some k ∧ PySem.intText? ⟨#[k]⟩ = some (w.op (rs.getD i 0) (ss.getD i 0) (ts.getD i 0)) ∧ (⟨#[k]⟩ : Str).length ≤ 640 ∧ (x = 0 ∨ x = 1) ∧ (y = 0 ∨ y = 1) := by
  have hx := bits_at0 ra i
  have hy := bits_at0 rb i
  have hz := bits_at0 rc i
  cases w with
  | pick =>
    obtain ⟨k, h1, h2, h3⟩ := Wd.tab .pick _ _ _ hx hy hz (fun z => absurd rfl z) _ (fun _ => rfl)
    exact ⟨_, _, _, k, rfl, rfl, rfl, h1, h2, h3, hx, hy⟩
  | both =>
    obtain ⟨k, h1, h2, h3⟩ := Wd.tab .both _ _ 0 hx hy (.inl rfl) (fun _ => rfl) (ts.getD i 0) (fun z => by cases z)
    exact ⟨_, _, 0, k, rfl, rfl, rfl, h1, h2, h3, hx, hy⟩
  | either =>
    obtain ⟨k, h1, h2, h3⟩ := Wd.tab .either _ _ 0 hx hy (.inl rfl) (fun _ => rfl) (ts.getD i 0) (fun z => by cases z)
    exact ⟨_, _, 0, k, rfl, rfl, rfl, h1, h2, h3, hx, hy⟩
  | oneof =>
    obtain ⟨k, h1, h2, h3⟩ := Wd.tab .oneof _ _ 0 hx hy (.inl rfl) (fun _ => rfl) (ts.getD i 0) (fun z => by cases z)
    exact ⟨_, _, 0, k, rfl, rfl, rfl, h1, h2, h3, hx, hy⟩
abbrev kS (z : Str) : Key := .inr z
theorem Wd.tblD (w : Wd) : valV (mergeK [] [(kS "both", V.str "00000011"), (kS "either", V.str "00111111"), (kS "oneof", V.str "00111100"), (kS "pick", V.str "01010011")]) (kS w.s) = some (.str w.tbl) := by
  cases w <;> decide +kernel
def sp__law_due (_ : PySem.W.Frag) : Sp := fun vs H Q _ => ∃ (w : Wd) (l a b c : Addr) (rs ss ts : List Int), vs = [.str w.s, .ref l] ∧ H l = some (.lst [.ref a, .ref b, .ref c]) ∧ R3 H a b c rs ss ts ∧ rs.length ≤ 100000 ∧ ss.length ≤ 100000 ∧ ts.length ≤ 100000 ∧
  (w.fit rs ss ts → ∀ H' p, Same H H' → H' p = some (.tup ((w.due rs ss ts).map V.int)) → Q (.ref p) H') ∧ (¬ w.fit rs ss ts → ∀ H', Same H H' → Q (.str "unlike") H')
theorem ok__law_due (T : Defs K mg) (TT : Tabs T base) : FnOk P w K mg base CX0 1 T.f__law_due T.fd__law_due ["_law_word", "_law_rows"] (sp__law_due K) := by
  refine T.F__law_due.ok sc__law_due (fun vs H Q E h => ?_) (fun cdv A outer s H vs Q E hr h => ?_)
  · obtain ⟨wd, l, a, b, c, rs, ss, ts, rfl, hl, h3, l1, l2, l3, q1, q2⟩ := h
    rfl
  · obtain ⟨wd, l, a, b, c, rs, ss, ts, rfl, hl, h3, l1, l2, l3, q1, q2⟩ := h
    refine ⟨_, PSs.nox (pss_cons (ps_set (i := 2) sc__law_due.nd rfl (.inl rfl) (pe_slice sl_list (pv 1) po_none (po_some (pe_ifExp (pt_cmpR op_eq (pv 0) pe_str (nomark _)) pe_int pe_int))))
    (pss_cons (ps_if (pt_cmpR op_gt (pe_lenSetN (by rfl) T.m_len (by rfl) T.m_set (pe_lc (own := [("_law_row_here", 7)]) (g := gName 7) (tt := tYes) rfl sc__law_due.nd (pi_list (pv 2)) (blkOk_by (N := N__law_due) (sc := defScope s__law_due) (by decide +kernel)) (fun _ _ _ _ _ => (pg_name (i := 7) sc__law_due.nd rfl (.inl rfl))) (fun _ _ _ _ _ => pts_nil) (fun _ _ _ _ _ => (pe_callB (lenK (K := K) rfl) (by rfl) T.m_len bt_len (pa_cons (pv 7) pa_nil))))) pe_int (nomark _)) (pss_one (ps_ret pe_str)) pss_nil)
    (pss_cons (ps_set (i := 3) sc__law_due.nd rfl (.inl rfl) (pe_dget (u1 hr) (pe_disp (pps_cons pe_str pe_str (pps_cons pe_str pe_str (pps_cons pe_str pe_str (pps_cons pe_str pe_str pps_nil)))) rfl rfl (by simp) (by decide)) (pv 0) (fun _ _ => rfl)))
    (pss_cons (ps_set (i := 4) sc__law_due.nd rfl (.inl rfl) (pe_lst pa_nil))
    (pss_cons ((ps_for PassesOwn.never rfl (pi_range1 (by rfl) T.m_range (pa_cons (pe_callB call_len_seq (by rfl) T.m_len bt_len (pa_cons (pe_ix ix_list (pv 2) pe_int (fun _ _ => rfl)) pa_nil)) pa_nil)) (pg_name (i := 5) sc__law_due.nd rfl (.inr rfl)) (pss_cons (ps_set (i := 6) sc__law_due.nd rfl (.inl rfl) (pe_op op_cat (pe_lc (own := [("_law_row_here", 7)]) (g := gName 7) (tt := tYes) rfl sc__law_due.nd (pi_list (pv 2)) (blkOk_by (N := N__law_due) (sc := defScope s__law_due) (by decide +kernel)) (fun _ _ _ _ _ => (pg_name (i := 7) sc__law_due.nd rfl (.inl rfl))) (fun _ _ _ _ _ => pts_nil) (fun _ _ _ _ _ => (pe_ix (ixtK (K := K) rfl) (pv 7) (pv 5) (fun _ _ => rfl)))) (pe_lst (pa_cons pe_int pa_nil))))
    (pss_one (ps_expr (pe_bm PySem.F.plainAttrs_list PySem.F.slot_list_append PySem.F.type_list_append mt_append (pv 4) (pa_cons (pe_callTy call_int_str (by rfl) T.m_int bt_int (pa_cons (pe_ix ix_str (pv 3) (pe_op op_add (pe_op op_add (pe_op op_mul pe_int (pe_ix ix_list (pv 6) pe_int (fun _ _ => rfl))) (pe_op op_mul pe_int (pe_ix ix_list (pv 6) pe_int (fun _ _ => rfl)))) (pe_ix ix_list (pv 6) pe_int (fun _ _ => rfl))) (fun _ _ => rfl)) pa_nil)) pa_nil)))))))
    (pss_one (ps_ret (pe_callTy call_tuple_of (by rfl) T.m_tuple bt_tuple (pa_cons (pv 4) pa_nil))))))))), ?_⟩
    have hsl : sizeLine = 16777216 := by decide
    refine seq_via (fun σ F => ∃ p, σ = [some (.str wd.s), some (.ref l), some (.ref p), none, none, none, none, none] ∧ Same H F ∧ F p = some (.lst ((wd.rws a b c rs ss ts).map fun q => V.ref q.1))) (fun N key => ?_) ?_
    · refine ⟨.ref l, rfl, ?_⟩
      by_cases e : wd = .pick
      · subst e
        refine ⟨_, rfl, rfl, _, rfl, ite2 (fun _ => ?_) (fun z => absurd (decide_eq_true rfl) z)⟩
        refine ⟨3, rfl, l, _, rfl, SqL.mk hl, fun p np => ?_⟩
        rw [cut3V]
        exact key _ _ ⟨p, rfl, same_upd np, upd_same⟩
      · refine ⟨_, rfl, rfl, _, rfl, ite2 (fun z => absurd (V.str.inj (of_decide_eq_true z)) ?_) (fun _ => ?_)⟩
        · cases wd with
          | pick => exact absurd rfl e
          | _ => decide +kernel
        refine ⟨2, rfl, l, _, rfl, SqL.mk hl, fun p np => ?_⟩
        rw [cut2V]
        refine key _ _ ⟨p, rfl, same_upd np, ?_⟩
        cases wd with
        | pick => exact absurd rfl e
        | _ => exact upd_same
    rintro σ F ⟨p, rfl, sF, hp⟩
    have h3F := h3.sam (Sam.of sF)
    generalize hW : wd.rws a b c rs ss ts = W at hp
    have W3 : W.length ≤ 3 := by
      rw [← hW]
      exact wd.rws_len a b c rs ss ts
    have WF : ∀ q, q ∈ W → F q.1 = some (.tup (q.2.map V.int)) ∧ q.2.length ≤ 100000 ∧ Bits q.2 := by
      intro q hq
      have : q = (a, rs) ∨ q = (b, ss) ∨ q = (c, ts) := by
        rw [← hW] at hq
        cases wd <;> simp only [Wd.rws, List.mem_cons, List.not_mem_nil, or_false] at hq
        · exact hq.imp id .inl
        · exact hq.imp id .inl
        · exact hq.imp id .inl
        · exact hq
      rcases this with rfl | rfl | rfl
      · exact ⟨h3F.a, l1, h3F.ra⟩
      · exact ⟨h3F.b, l2, h3F.rb⟩
      · exact ⟨h3F.c, l3, h3F.rc⟩
    have W0 : W[0]? = some (a, rs) := by
      rw [← hW]
      cases wd <;> rfl
    refine ⟨.ref p, rfl, p, rfl, ⟨_, SqL.mk hp⟩, fun D nD => ?_⟩
    refine lc_list (xs := W.map fun q => V.ref q.1) (fun i G => Same F G ∧ G D = some (.lst (((W.take i).map fun q => ((q.2.length : Nat) : Int)).map V.int))) ⟨same_upd nD, upd_same⟩ (fun i G _ h => SqL.mk (h.1 _ _ hp)) (fun i x G hx h => ?_) (fun G h => ?_)
    · obtain ⟨sG, hD⟩ := h
      rw [List.getElem?_map] at hx
      obtain ⟨q, hq, rfl⟩ := Option.map_eq_some_iff.mp hx
      have wf := WF q (List.mem_of_getElem? hq)
      refine ⟨rfl, yes_ite ?_⟩
      refine ⟨.ref q.1, rfl, q.1, _, rfl, .inr (SqT.mk (sG _ _ wf.1)), ?_⟩
      rw [List.length_map]
      refine ⟨_, hD, by rw [List.length_map, List.length_map, List.length_take]; omega, same_newer sG nD, ?_⟩
      rw [upd_same, List.take_add_one, hq, Option.toList_some, List.map_append, List.map_append]
      rfl
    obtain ⟨sG, hD⟩ := h
    rw [List.length_map, List.take_length] at hD
    refine ⟨D, _, rfl, SqL.mk hD, by rw [List.length_map]; omega, ?_⟩
    have mt := wd.rws_met a b c rs ss ts
    rw [hW] at mt
    refine ⟨_, _, rfl, rfl, _, rfl, ite2 (fun e => q2 (mt.mp (of_decide_eq_true e)) G (sF.trans sG)) (fun e => ?_)⟩
    have ft : wd.fit rs ss ts := Classical.byContradiction fun z => e (decide_eq_true (mt.mpr z))
    clear e mt
    -- the table
    intro t nt
    have s1 := same_upd nt (o := .dK [])
    have ht := upd_same (H := G) (a := t) (o := .dK [])
    refine ⟨ht, [(kS "both", .str "00000011"), (kS "either", .str "00111111"), (kS "oneof", .str "00111100"), (kS "pick", .str "01010011")], rfl, (show 4 ≤ 15 by decide), ?_⟩
    have s2 : Same G (upd (upd G t (.dK [])) t (.dK (mergeK [] [(kS "both", V.str "00000011"), (kS "either", .str "00111111"), (kS "oneof", .str "00111100"), (kS "pick", .str "01010011")]))) := same_newer s1 nt
    refine ⟨_, rfl, t, .str wd.tbl, rfl, wd.tblD ▸ DGet.k (k := kS wd.s) upd_same, ?_⟩
    generalize upd (upd G t (.dK [])) t (.dK (mergeK [] [(kS "both", V.str "00000011"), (kS "either", .str "00111111"), (kS "oneof", .str "00111100"), (kS "pick", .str "01010011")])) = X at s2 ⊢
    clear s1 ht
    have sX := sG.trans s2
    refine ⟨Nat.zero_le _, fun L nL => ?_⟩
    have s3 := same_upd nL (o := .lst [])
    have sXL := sX.trans s3
    refine ⟨.ref p, rfl, p, _, 0, _, rfl, rfl, SqL.mk (sXL _ _ hp), atI_nat (j := 0) (by rw [List.getElem?_map, W0]; rfl), a, _, rfl, .inr (SqT.mk (sXL _ _ h3F.a)), ?_⟩
    rw [List.length_map]
    refine ⟨_, rfl, by omega, by omega, for_range (fun i σ Y => ∃ y5 y6, σ = [some (.str wd.s), some (.ref l), some (.ref p), some (.str wd.tbl), some (.ref L), y5, y6, none] ∧ Same X Y ∧ Y L = some (.lst (((List.range i).map fun i => wd.op (rs.getD i 0) (ss.getD i 0) (ts.getD i 0)).map V.int))) ⟨none, none, rfl, s3, upd_same⟩ ?_ ?_⟩
    rotate_left
    · rintro σ Y ⟨y5, y6, rfl, sY, hL⟩
      rw [Int.toNat_natCast] at hL
      refine ⟨.ref L, rfl, L, _, rfl, .inl ⟨SqL.mk hL, fun o no => q1 ft _ o (sF.trans (sX.trans (sY.trans (same_upd no)))) upd_same⟩⟩
    rintro i σ Y hi ⟨y5, y6, rfl, sY, hL⟩
    rw [Int.toNat_natCast] at hi
    have sXY := sX.trans sY
    refine ⟨.ref p, rfl, p, rfl, ⟨_, SqL.mk (sXY _ _ hp)⟩, fun E nE => ?_⟩
    have all : ∀ q, q ∈ W → i < q.2.length := by
      intro q hq
      rw [← hW] at hq
      have f1 := ft.1
      cases wd with
      | pick =>
        have f2 := ft.2 rfl
        simp only [Wd.rws, List.mem_cons, List.not_mem_nil, or_false] at hq
        rcases hq with rfl | rfl | rfl <;> dsimp only <;> omega
      | _ =>
        simp only [Wd.rws, List.mem_cons, List.not_mem_nil, or_false] at hq
        rcases hq with rfl | rfl <;> dsimp only <;> omega
    refine lc_list (xs := W.map fun q => V.ref q.1) (fun j Z => Same Y Z ∧ Z E = some (.lst ((W.take j).map fun q => V.int (q.2.getD i 0)))) ⟨same_upd nE, upd_same⟩ (fun j Z _ h => SqL.mk (h.1 _ _ (sXY _ _ hp))) (fun j x Z hx h => ?_) (fun Z h => ?_)
    · obtain ⟨sZ, hE⟩ := h
      rw [List.getElem?_map] at hx
      obtain ⟨q, hq, rfl⟩ := Option.map_eq_some_iff.mp hx
      have wf := WF q (List.mem_of_getElem? hq)
      have il := all q (List.mem_of_getElem? hq)
      refine ⟨rfl, yes_ite ?_⟩
      refine ⟨.ref q.1, rfl, _, rfl, q.1, _, _, .int (q.2.getD i 0), rfl, rfl, SqT.mk ((sXY.trans sZ) _ _ wf.1), ?_, ?_⟩
      · rw [Int.zero_add]
        refine atI_nat ?_
        rw [List.getElem?_map, List.getElem?_eq_getElem il, List.getD_eq_getElem?_getD, List.getElem?_eq_getElem il]
        rfl
      refine ⟨_, hE, by rw [List.length_map, List.length_take]; omega, same_newer sZ nE, ?_⟩
      rw [upd_same, List.take_add_one, hq, Option.toList_some, List.map_append]
      rfl
    obtain ⟨sZ, hE⟩ := h
    rw [List.length_map, List.take_length] at hE
    refine ⟨(show 1 ≤ sizeLine by decide), fun o no => ?_⟩
    have z1 := same_upd no (o := .lst [.int 0])
    refine ⟨E, o, _, _, rfl, rfl, z1 _ _ hE, upd_same, by rw [List.length_map]; show _ + 1 ≤ _; omega, fun u nu => ?_⟩
    have z2 := z1.trans (same_upd nu (o := .lst ((W.map fun q => V.int (q.2.getD i 0)) ++ [.int 0])))
    have hu := upd_same (H := upd Z o (.lst [.int 0])) (a := u) (o := .lst ((W.map fun q => V.int (q.2.getD i 0)) ++ [.int 0]))
    generalize upd (upd Z o (.lst [.int 0])) u (.lst ((W.map fun q => V.int (q.2.getD i 0)) ++ [.int 0])) = U at z2 hu ⊢
    have sU := sZ.trans z2
    have hLU := sU _ _ hL
    obtain ⟨x, y, z, k, e0, e1, e2, e3, e4, e5, bx, by'⟩ := wd.look a b c h3.ra h3.rb h3.rc i
    rw [hW] at e0 e1 e2
    refine ⟨.ref L, rfl, .inl ⟨rfl, _, SqL.mk hLU⟩, ?_⟩
    refine ⟨_, rfl, .ref u, rfl, u, _, 0, _, rfl, rfl, SqL.mk hu, atI_nat (j := 0) e0, _, _, rfl, rfl, .inl ⟨by decide, by decide⟩, .ref u, rfl, u, _, 1, _, rfl, rfl, SqL.mk hu, atI_nat (j := 1) e1, _, _, rfl, rfl, .inl ⟨by decide, by decide⟩, _, _, rfl, rfl, .ref u, rfl, u, _, 2, _, rfl, rfl, SqL.mk hu, atI_nat (j := 2) e2, _, _, rfl, rfl, ?_⟩
    refine ⟨wd.tbl, _, k, rfl, rfl, wd.tbl_len, e3, ⟨#[k]⟩, _, rfl, e4, e5, ?_⟩
    refine ⟨L, _, _, rfl, rfl, hLU, by rw [List.length_map, List.length_map, List.length_range]; omega, ?_⟩
    refine ⟨_, _, rfl, same_newer (sY.trans sU) (by
      have := nL
      exact this), ?_⟩
    rw [upd_same, List.range_succ, List.map_append, List.map_append]
    rfl
theorem shS : SeqAt.shaped (.str "unlike") = true := by
  show (PyData.canLay0 (.str "unlike") && decide (PyData.depth (.str "unlike") ≤ 64)) = true
  have h1 : PyData.strOk "unlike" = true := by decide +kernel
  simp [PyData.canLay0, PyData.depth, h1]
theorem fork_long {K : PySem.W.Frag} {c : Bool} {P : Prop} [Decidable P] {Q : VK} {E : XK} {σ : L2.St} {H3 H4 : Hp} {b : Addr} {i : Nat} (hσ : σ[i]? = some (some (.ref b))) (B4 : Bx H4 b 1) (b4 : But b H3 H4)
    (key : ∀ (H5 : Hp) (m : Nat), But b H3 H5 → Bx H5 b 5 → 1 ≤ m → m ≤ 4096 → Q (.int (m : Nat)) H5) : if P then tC (.int 4096) σ H4 Q else tCall (sp__law_long K) [] E (tCons (tVar i) tNil) σ H4 Q :=
  ite2 (fun _ => key H4 4096 b4 (B4.mono (by omega)) (by decide) (by decide)) fun _ => ⟨.ref b, hσ, b, 1, rfl, B4, by omega, fun H5 m b5 B5 m1 m2 => key H5 m (b4.trans b5) (B5.mono (by omega)) m1 (by omega)⟩
/-- a row drawn -/
structure RwOk (H : Hp) (q : Addr × List Int) : Prop where
  h : H q.1 = some (.tup (q.2.map V.int))
  b : Bits q.2
  l1 : 1 ≤ q.2.length
  l2 : q.2.length ≤ 4096
def RwsAt (H : Hp) (L : Addr) (as : List (Addr × List Int)) : Prop := H L = some (.lst (as.map fun q => V.ref q.1)) ∧ ∀ q, q ∈ as → RwOk H q
theorem RwOk.keep {H H' : Hp} {q : Addr × List Int} (h : RwOk H q) (k : ∀ t xs, H t = some (.tup xs) → H' t = some (.tup xs)) : RwOk H' q := ⟨k _ _ h.h, h.b, h.l1, h.l2⟩
def RwI (b D : Addr) (X : Hp) (n i : Nat) (G : Hp) : Prop := ∃ as : List (Addr × List Int), as.length = i ∧ RwsAt G D as ∧ But b X G ∧ Bx G b (n + 5000 * i)
theorem RwI.step {b D p : Addr} {X G G2 : Hp} {n i : Nat} {rs : List Int} {acc : List V} (h : RwI b D X n i G) (nD : X D = none) (nDb : D ≠ b) (c2 : But b G G2) (B2 : Bx G2 b (n + 5000 * (i + 1))) (hp : RwOk G2 (p, rs)) (hD : G2 D = some (.lst acc)) : RwI b D X n (i + 1) (upd G2 D (.lst (acc ++ [.ref p]))) := by
  obtain ⟨as, la, ⟨hd, has⟩, cG, BG⟩ := h
  have e := c2 _ _ nDb hd
  rw [hD] at e
  have e := HO.lst.inj (Option.some.inj e)
  subst e
  have keep : ∀ t xs, G2 t = some (.tup xs) → (upd G2 D (.lst ((as.map fun q => V.ref q.1) ++ [.ref p]))) t = some (.tup xs) := fun t xs e => by
    rw [upd_ne (ne_of e hD (fun z => by cases z))]
    exact e
  refine ⟨as ++ [(p, rs)], by rw [List.length_append, la]; rfl, ⟨by rw [upd_same, List.map_append]; rfl, fun q hq => ?_⟩, but_newer (cG.trans c2) nD, B2.other nDb⟩
  rcases List.mem_append.mp hq with z | z
  · exact (has q z).keep fun t xs e => keep t xs (c2 _ _ (BG.ne_tup e) e)
  · rw [List.mem_singleton.mp z]
    exact hp.keep keep
theorem one_less {x : Int} (h : x = 0 ∨ x = 1) : (if decide (V.int x = V.int 0) = true then (1 : Int) else 0) = 1 - x := by
  rcases h with rfl | rfl <;> decide
theorem zip_self {u : Int → Int → Int} (hu : ∀ x, x = 0 ∨ x = 1 → u x x = x) : ∀ {rs : List Int}, Bits rs → List.zipWith u rs rs = rs
  | [], _ => rfl
  | x :: r, h => by
    rw [List.zipWith_cons_cons, hu x (h x List.mem_cons_self), zip_self hu fun y hy => h y (List.mem_cons_of_mem _ hy)]
theorem wd_of {k : Nat} {x : V} (h : ([V.str "both", .str "either", .str "oneof", .str "pick"] : List V)[k]? = some x) : ∃ wd : Wd, x = .str wd.s := by
  match k, h with
  | 0, h => exact ⟨.both, (Option.some.inj h).symm⟩
  | 1, h => exact ⟨.either, (Option.some.inj h).symm⟩
  | 2, h => exact ⟨.oneof, (Option.some.inj h).symm⟩
  | 3, h => exact ⟨.pick, (Option.some.inj h).symm⟩
  | k + 4, h => cases h
def sp_law {K : PySem.W.Frag} {mg : Str → Option Value} (T : Defs K mg) : Sp := fun vs H Q _ => ∃ (a : Addr) (ns : List Int), vs = [.ref a] ∧ SqL K H a (ns.map V.int) ∧ ns.length ≤ 63 ∧ (GxR.TabG H T.P_turned ∧ GxR.TabG H T.P_both ∧ GxR.TabG H T.P_either ∧ GxR.TabG H T.P_oneof ∧ GxR.TabG H T.P_pick ∧ True) ∧ ∀ H', Q (.bl true) H'
theorem ok_law (T : Defs K mg) (TT : Tabs T base) : FnOk P w K mg base CX0 4 T.f_law T.fd_law ["_law_script"] (sp_law T) := by
  have G__law_folded : FnOk P w K mg base CX0 1 T.f__law_folded T.fd__law_folded ["_law_script", "_law_many"] (sp__law_folded K) := ok__law_folded T TT
  have G__law_box : FnOk P w K mg base CX0 1 T.f__law_box T.fd__law_box ["_law_script", "_law_k"] (sp__law_box K) := ok__law_box T TT
  have G__law_take : FnOk P w K mg base CX0 1 T.f__law_take T.fd__law_take ["_law_box_here", "_law_many"] (sp__law_take K) := ok__law_take T TT
  have G__law_long : FnOk P w K mg base CX0 2 T.f__law_long T.fd__law_long ["_law_box_here"] (sp__law_long K) := ok__law_long T TT
  have G__law_row : FnOk P w K mg base CX0 2 T.f__law_row T.fd__law_row ["_law_box_here", "_law_long_here"] (sp__law_row K) := ok__law_row T TT
  have G__law_same : FnOk P w K mg base CX0 2 T.f__law_same T.fd__law_same ["_law_found", "_law_due_here"] (sp__law_same K) := ok__law_same T TT
  have G_turned : FnOk P w K mg base CX0 1 T.f_turned T.fd_turned ["row"] (sp_turned T) := ok_turned T TT
  have G__law_done : FnOk P w K mg base CX0 3 T.f__law_done T.fd__law_done ["_law_word", "_law_rows"] (sp__law_done T) := ok__law_done T TT
  have G__law_due : FnOk P w K mg base CX0 1 T.f__law_due T.fd__law_due ["_law_word", "_law_rows"] (sp__law_due K) := ok__law_due T TT
  have G_both : FnOk P w K mg base (L2.CX P w) 2 T.f_both T.fd_both ["one", "other"] (sp_both T) := ok_both T TT
  refine T.F_law.ok sc_law (fun vs H Q E h => ?_) (fun cdv A outer s H vs Q E hr h => ?_)
  · obtain ⟨a, ns, rfl, hS, hlen, ⟨g1, g2, g3, g4, g5, _⟩, q⟩ := h
    rfl
  · obtain ⟨a, ns, rfl, hS, hlen, ⟨g1, g2, g3, g4, g5, _⟩, q⟩ := h
    refine ⟨_, PSs.nox (pss_cons (ps_set (i := 1) sc_law.nd rfl (.inl rfl) (pe_call G__law_folded (hr.mono (by decide)) (by rfl) T.g__law_folded T.F__law_folded.kp T.b__law_folded .nil pass0 (pa_cons (pv 0) (pa_cons pe_int pa_nil))))
    (pss_cons ((ps_for PassesOwn.never rfl (pi_range1 (by rfl) T.m_range (pa_cons (pe_callB (call_max2 rfl) (by rfl) T.m_max bt_max (pa_cons pe_int (pa_cons (pe_callB call_len_seq (by rfl) T.m_len bt_len (pa_cons (pv 1) pa_nil)) pa_nil))) pa_nil)) (pg_name (i := 2) sc_law.nd rfl (.inl rfl)) (pss_cons (ps_set (i := 3) sc_law.nd rfl (.inr rfl) (pe_call G__law_box (hr.mono (by decide)) (by rfl) T.g__law_box T.F__law_box.kp T.b__law_box .nil pass0 (pa_cons (pv 1) (pa_cons (pv 2) pa_nil))))
    (pss_cons (ps_set (i := 4) sc_law.nd rfl (.inl rfl) (pe_cmpR op_eq (pe_call G__law_take (hr.mono (by decide)) (by rfl) T.g__law_take T.F__law_take.kp T.b__law_take .nil pass0 (pa_cons (pv 3) (pa_cons pe_int pa_nil))) pe_int (nomark _)))
    (pss_cons (ps_set (i := 5) sc_law.nd rfl (.inr rfl) (pe_ifExp (PW.pt (pw_and (pt_val (pv 4)) (pw_and1 (pt_cmpR op_eq (pv 2) pe_int (nomark _))))) pe_int (pe_call G__law_long (hr.mono (by decide)) (by rfl) T.g__law_long T.F__law_long.kp T.b__law_long .nil pass0 (pa_cons (pv 3) pa_nil))))
    (pss_cons (ps_setLc (i := 6) (own := [("_law_turn", 12)]) (g := gName 12) (tt := tYes) rfl sc_law.nd rfl rfl (sw_true rfl rfl rfl (by decide +kernel)) (pi_range1 (by rfl) T.m_range (pa_cons pe_int pa_nil)) (blkOk_by (N := N_law) (sc := defScope s_law) (by decide +kernel)) (fun _ _ _ _ _ => (pg_name (i := 12) sc_law.nd rfl (.inl rfl))) (fun _ _ _ _ _ => pts_nil) (fun _ _ _ _ _ => (pe_call G__law_row (hr.mono (by decide)) (by rfl) T.g__law_row T.F__law_row.kp T.b__law_row .nil pass0 (pa_cons (pv 3) (pa_cons (pv 5) pa_nil)))))
    (pss_cons (ps_expr (pe_bm PySem.F.plainAttrs_list PySem.F.slot_list_append PySem.F.type_list_append mt_append (pv 6) (pa_cons (pe_call G__law_row (hr.mono (by decide)) (by rfl) T.g__law_row T.F__law_row.kp T.b__law_row .nil pass0 (pa_cons (pv 3) (pa_cons (pe_ix ix_list (pe_lst (pa_cons pe_int (pa_cons (pe_callB (call_min2 rfl) (by rfl) T.m_min bt_min (pa_cons pe_int (pa_cons (pe_op op_add (pv 5) pe_int) pa_nil))) (pa_cons (pe_call G__law_long (hr.mono (by decide)) (by rfl) T.g__law_long T.F__law_long.kp T.b__law_long .nil pass0 (pa_cons (pv 3) pa_nil)) pa_nil)))) (pe_call G__law_take (hr.mono (by decide)) (by rfl) T.g__law_take T.F__law_take.kp T.b__law_take .nil pass0 (pa_cons (pv 3) (pa_cons pe_int pa_nil))) (fun _ _ => rfl)) pa_nil))) pa_nil)))
    (pss_cons (ps_if (pt_cmpR op_eq (pe_call G__law_take (hr.mono (by decide)) (by rfl) T.g__law_take T.F__law_take.kp T.b__law_take .nil pass0 (pa_cons (pv 3) (pa_cons pe_int pa_nil))) pe_int (nomark _)) (pss_one (ps_asg (pe_ix ix_list (pv 6) pe_int (fun _ _ => rfl)) (pg_sub (pv 6) pe_int set_list))) pss_nil)
    (pss_one ((ps_for PassesOwn.never rfl (pi_range1 (by rfl) T.m_range (pa_cons pe_int pa_nil)) (pg_name (i := 7) sc_law.nd rfl (.inl rfl)) (pss_cons (ps_if (pt_not (pt_val (pe_call G__law_same (hr.mono (by decide)) (by rfl) T.g__law_same T.F__law_same.kp T.b__law_same .nil pass0 (pa_cons (pe_call G_turned (hr.mono (by decide)) (by rfl) T.g_turned T.F_turned.kp T.b_turned .nil pass0 (pa_cons (pe_ix ix_list (pv 6) (pv 7) (fun _ _ => rfl)) pa_nil)) (pa_cons (pe_callTy call_tuple_of (by rfl) T.m_tuple bt_tuple (pa_cons (pe_lc (own := [("_law_bit", 13)]) (g := gName 13) (tt := tYes) rfl sc_law.nd (pi_tup (pe_ix ix_list (pv 6) (pv 7) (fun _ _ => rfl))) (blkOk_by (N := N_law) (sc := defScope s_law) (by decide +kernel)) (fun _ _ _ _ _ => (pg_name (i := 13) sc_law.nd rfl (.inl rfl))) (fun _ _ _ _ _ => pts_nil) (fun _ _ _ _ _ => (pe_callTy call_int1 (by rfl) T.m_int bt_int (pa_cons (pe_cmpR op_eq (pv 13) pe_int (nomark _)) pa_nil)))) pa_nil)) pa_nil))))) (pss_one (ps_ret pe_bl)) pss_nil)
    (pss_one ((ps_for PassesOwn.never rfl (pi_range1 (by rfl) T.m_range (pa_cons pe_int pa_nil)) (pg_name (i := 8) sc_law.nd rfl (.inl rfl)) (pss_cons (ps_set (i := 9) sc_law.nd rfl (.inl rfl) (pe_lst (pa_cons (pe_ix ix_list (pv 6) (pv 7) (fun _ _ => rfl)) (pa_cons (pe_ix ix_list (pv 6) (pv 8) (fun _ _ => rfl)) (pa_cons (pe_ix ix_list (pv 6) (pe_call G__law_take (hr.mono (by decide)) (by rfl) T.g__law_take T.F__law_take.kp T.b__law_take .nil pass0 (pa_cons (pv 3) (pa_cons pe_int pa_nil))) (fun _ _ => rfl)) pa_nil)))))
    (pss_one ((ps_for PassesOwn.never rfl (pi_tup (pe_tup (pa_cons pe_str (pa_cons pe_str (pa_cons pe_str (pa_cons pe_str pa_nil)))))) (pg_name (i := 10) sc_law.nd rfl (.inl rfl)) (pss_cons (ps_set (i := 11) sc_law.nd rfl (.inl rfl) (pe_call G__law_done (hr.mono (by decide)) (by rfl) T.g__law_done T.F__law_done.kp T.b__law_done .nil pass0 (pa_cons (pv 10) (pa_cons (pv 9) pa_nil))))
    (pss_cons (ps_if (pt_not (pt_val (pe_call G__law_same (hr.mono (by decide)) (by rfl) T.g__law_same T.F__law_same.kp T.b__law_same .nil pass0 (pa_cons (pv 11) (pa_cons (pe_call G__law_due (hr.mono (by decide)) (by rfl) T.g__law_due T.F__law_due.kp T.b__law_due .nil pass0 (pa_cons (pv 10) (pa_cons (pv 9) pa_nil))) pa_nil))))) (pss_one (ps_ret pe_bl)) pss_nil)
    (pss_one (ps_if (PW.pt (pw_and (pt_cmpR op_eq (pv 10) pe_str (nomark _)) (pw_and (pt_cmpR (op_neD hr.units) (pv 11) pe_str (nomark _)) (pw_and1 (pt_not (pt_val (pe_call G__law_same (hr.mono (by decide)) (by rfl) T.g__law_same T.F__law_same.kp T.b__law_same .nil pass0 (pa_cons (pe_call G_both (hr.mono (by decide)) (by rfl) T.g_both T.F_both.kp T.b_both .nil passL (pa_cons (pv 11) (pa_cons (pv 11) pa_nil))) (pa_cons (pv 11) pa_nil))))))))) (pss_one (ps_ret pe_bl)) pss_nil)))))))))))))))))))))))
    (pss_one (ps_ret pe_bl)))), ?_⟩
    have tH : Tb5 T H := ⟨g1, g2, g3, g4, g5⟩
    clear g1 g2 g3 g4 g5
    have hsl : sizeLine = 16777216 := by decide
    refine ⟨.ref a, rfl, a, ns, 4, rfl, hS, hlen, by decide, by decide, fun H1 c cs s1 nc hc lc => ?_⟩
    have t1 := tH.sam (Sam.of s1)
    have hn : (if (((cs.map V.int).length : Nat) : Int) > 2 then (((cs.map V.int).length : Nat) : Int) else 2) ≤ 4 ∧ 0 ≤ (if (((cs.map V.int).length : Nat) : Int) > 2 then (((cs.map V.int).length : Nat) : Int) else 2) := by
      rw [List.length_map]
      split <;> omega
    refine ⟨.ref c, rfl, c, _, rfl, .inl (SqL.mk hc), _, _, rfl, _, rfl, by omega, by omega, for_range (fun i σ H2 => ∃ y2 y3 y4 y5 y6 y7 y8 y9 y10 y11, σ = [some (.ref a), some (.ref c), y2, y3, y4, y5, y6, y7, y8, y9, y10, y11, none, none] ∧ Sam H1 H2) ⟨none, none, none, none, none, none, none, none, none, none, rfl, Sam.refl H1⟩ ?_ ?_⟩
    rotate_left
    · rintro σ H2 ⟨y2, y3, y4, y5, y6, y7, y8, y9, y10, y11, rfl, s2⟩
      exact q _
    rintro i σ H2 hi ⟨y2, y3, y4, y5, y6, y7, y8, y9, y10, y11, rfl, s2⟩
    have hi2 : i < 1000 := by omega
    refine ⟨.ref c, rfl, .int (0 + (i : Int)), rfl, c, cs, i, by rw [Int.zero_add]; rfl, SqL.mk (s2.lst hc), hi2, fun H3 b s3 nb hB => ?_⟩
    have nb1 : H1 b = none := s2.free nb
    have s13 := s2.trans (Sam.of s3)
    have t3 := t1.sam s13
    -- how long
    refine ⟨.ref b, rfl, b, 32, 0, rfl, hB, by decide, by decide, by omega, fun H4 r4 b4 B4 l4 u4 => ⟨rfl, ?_⟩⟩
    generalize decide (V.int r4 = V.int 31) = gr
    refine nx_via (fun σ F => ∃ L : Nat, σ = [some (.ref a), some (.ref c), some (.int (0 + (i : Int))), some (.ref b), some (.bl gr), some (.int (L : Nat)), y6, y7, y8, y9, y10, y11, none, none] ∧ But b H3 F ∧ Bx F b 5 ∧ 1 ≤ L ∧ L ≤ 4096) (fun N key => ?_) ?_
    · refine ⟨_, rfl, gr, rfl, ?_⟩
      have long : tCall (sp__law_long K) [] E (tCons (tVar 3) tNil) [some (.ref a), some (.ref c), some (.int (0 + (i : Int))), some (.ref b), some (.bl gr), y5, y6, y7, y8, y9, y10, y11, none, none] H4 (fun x H' => N (([some (.ref a), some (.ref c), some (.int (0 + (i : Int))), some (.ref b), some (.bl gr), y5, y6, y7, y8, y9, y10, y11, none, none] : L2.St).set 5 (some x)) H') := ⟨.ref b, rfl, b, 1, rfl, B4, by omega, fun H5 m b5 B5 m1 m2 => key _ _ ⟨m, rfl, b4.trans b5, B5.mono (by omega), m1, by omega⟩⟩
      cases gr with
      | true =>
        refine iteT ⟨_, rfl, rfl, _, rfl, ite2 (fun _ => key _ _ ⟨4096, rfl, b4, B4.mono (by omega), by decide, by decide⟩) (fun _ => long)⟩
      | false => exact iteF (iteF long)
    rintro σ F ⟨L, rfl, cF, BF, L1, L2'⟩
    clear B4 b4 l4 u4
    -- the rows
    refine ⟨3, rfl, by decide, by decide, fun D nD => ?_⟩
    have nDb : D ≠ b := ne_new BF nD
    refine lc_range (RwI b D F 5) ⟨[], rfl, ⟨upd_same, fun _ z => (by cases z)⟩, (But.refl b F).new nD, BF.new nD⟩ (fun j G hj h => ?_) (fun G h => ?_)
    · obtain ⟨as, la, ⟨hD, has⟩, cG, BG⟩ := id h
      have hj3 : j < 3 := by
        have : (3 : Int).toNat = 3 := rfl
        omega
      refine ⟨rfl, yes_ite ?_⟩
      refine ⟨.ref b, rfl, .int (L : Nat), rfl, b, L, _, rfl, BG, L1, L2', by omega, fun G2 p rs c2 B2 hp lp bp => ?_⟩
      exact ⟨_, c2 _ _ nDb hD, by rw [List.length_map]; omega, h.step nD nDb c2 (B2.mono (by omega)) ⟨hp, bp, by show 1 ≤ rs.length; omega, by show rs.length ≤ 4096; omega⟩ (c2 _ _ nDb hD)⟩
    have h : RwI b D F 5 3 G := h
    -- one of another length
    have h0 := h
    obtain ⟨as, la, ⟨hD, has⟩, cG, BG⟩ := h
    refine ⟨.ref D, rfl, .inl ⟨rfl, _, SqL.mk hD⟩, .ref b, rfl, _, rfl, _, _, rfl, rfl, _, _, rfl, ?_⟩
    refine ⟨.ref b, rfl, b, _, rfl, BG, by omega, fun G1 m c1 B1 m1 m2 => ⟨(show 3 ≤ sizeLine by decide), fun lm nlm => ?_⟩⟩
    have u1 := same_upd nlm (o := .lst [.int 1, .int (if (L : Int) + 1 < 4095 then (L : Int) + 1 else 4095), .int (m : Nat)])
    have hlm := upd_same (H := G1) (a := lm) (o := .lst [.int 1, .int (if (L : Int) + 1 < 4095 then (L : Int) + 1 else 4095), .int (m : Nat)])
    have nlmb : lm ≠ b := ne_new B1 nlm
    generalize upd G1 lm (.lst [.int 1, .int (if (L : Int) + 1 < 4095 then (L : Int) + 1 else 4095), .int (m : Nat)]) = G2 at u1 hlm ⊢
    refine ⟨.ref b, rfl, b, 3, _, rfl, B1.same u1, by decide, by decide, by omega, fun G3 r c3 B3 l3 u3 => ?_⟩
    obtain ⟨w', ew, hw⟩ := at_menu (Pr := fun v => 1 ≤ v ∧ v ≤ 4096) (xs := [1, if (L : Int) + 1 < 4095 then (L : Int) + 1 else 4095, (m : Nat)]) (r := r) l3 u3 (fun x hx => by
      simp only [List.mem_cons, List.not_mem_nil, or_false] at hx
      rcases hx with rfl | rfl | rfl
      · decide
      · split <;> omega
      · omega)
    obtain ⟨w', rfl⟩ := nat_of (show 0 ≤ w' by omega)
    refine ⟨lm, _, _, _, rfl, rfl, SqL.mk (c3 _ _ nlmb hlm), ew, b, w', _, rfl, B3, by omega, by omega, by omega, fun G4 p rs c4 B4 hp lp bp => ?_⟩
    have c14 : But b G G4 := c1.trans ((same_but u1).trans (c3.trans c4))
    have hD4 := c14 _ _ nDb hD
    have R4 : RwI b D F 10000 4 (upd G4 D (.lst (as.map (fun q => V.ref q.1) ++ [.ref p]))) := by
      have h1 : RwI b D F 10000 3 G := ⟨as, la, ⟨hD, has⟩, cG, BG.mono (by omega)⟩
      exact h1.step nD nDb c14 (B4.mono (by omega)) ⟨hp, bp, by show 1 ≤ rs.length; omega, by show rs.length ≤ 4096; omega⟩ hD4
    refine ⟨D, _, _, rfl, rfl, hD4, by rw [List.length_map]; omega, ?_⟩
    generalize upd G4 D (.lst (as.map (fun q => V.ref q.1) ++ [.ref p])) = X at R4 ⊢
    clear h0 hD has cG BG B1 u1 hlm nlmb nlm c1 c3 c4 B3 B4 ew hw hp lp bp c14 hD4 la as l3 u3
    have nD3 : H3 D = none := by
      cases z : H3 D with
      | none => rfl
      | some o =>
        have := cF _ _ nDb z
        rw [nD] at this
        cases this
    -- twice the same one
    refine nx_via (fun σ Y => ∃ as : List (Addr × List Int), σ = [some (.ref a), some (.ref c), some (.int (0 + (i : Int))), some (.ref b), some (.bl gr), some (.int (L : Nat)), some (.ref D), y7, y8, y9, y10, y11, none, none] ∧ as.length = 4 ∧ RwsAt Y D as ∧ Bus b H3 Y ∧ Bx Y b 40000) (fun N key => ?_) ?_
    · obtain ⟨as, la, ⟨hD, has⟩, cX, BX⟩ := R4
      have BX : Bx X b 30000 := BX
      refine ⟨.ref b, rfl, b, 4, _, rfl, BX, by decide, by decide, by decide, fun X2 r2 c2 B2 l2 u2 => ⟨rfl, _, rfl, ite2 (fun _ => ?_) (fun _ => ?_)⟩⟩
      · have hD2 := c2 _ _ nDb hD
        obtain ⟨q0, h0⟩ : ∃ q0, as[0]? = some q0 := ⟨_, List.getElem?_eq_getElem (by omega)⟩
        refine ⟨.ref D, rfl, D, _, 0, _, rfl, rfl, SqL.mk hD2, atI_nat (j := 0) (by rw [List.getElem?_map, h0]; rfl), .ref D, rfl, D, _, 1, 1, rfl, rfl, hD2, ?_, ?_⟩
        · exact ixn (j := 1) (by rw [List.length_map]; omega)
        refine key _ _ ⟨as.set 1 q0, rfl, by rw [List.length_set, la], ⟨by rw [upd_same, List.map_set], fun q hq => ?_⟩, bus_newer (.of (cF.trans (cX.trans c2))) nD3, (B2.other nDb).mono (by omega)⟩
        have keep : ∀ t xs, X t = some (.tup xs) → (upd X2 D (.lst ((as.map fun q => V.ref q.1).set 1 (.ref q0.1)))) t = some (.tup xs) := fun t xs e => by
          have e2 := c2 _ _ (BX.ne_tup e) e
          rw [upd_ne (ne_of e2 hD2 (fun z => by cases z))]
          exact e2
        rcases List.mem_or_eq_of_mem_set hq with z | rfl
        · exact (has q z).keep keep
        · exact (has q (List.mem_of_getElem? h0)).keep keep
      · exact key _ _ ⟨as, rfl, la, ⟨c2 _ _ nDb hD, fun q hq => (has q hq).keep fun t xs e => c2 _ _ (BX.ne_tup e) e⟩, .of (cF.trans (cX.trans c2)), B2.mono (by omega)⟩
    rintro σ Y ⟨as, rfl, la, RY, bY, BY⟩
    have tY := t3.bus hB bY
    clear R4 cF BF nD nD3
    -- one row, two rows
    refine ⟨4, rfl, by decide, by decide, for_range (n := 4) (fun j σ G => ∃ z7 z8 z9 z10 z11, σ = [some (.ref a), some (.ref c), some (.int (0 + (i : Int))), some (.ref b), some (.bl gr), some (.int (L : Nat)), some (.ref D), z7, z8, z9, z10, z11, none, none] ∧ Bus b Y G ∧ Bx G b (40000 + 4 * j)) ⟨_, _, _, _, _, rfl, Bus.refl b Y, BY⟩ ?_ ?_⟩
    rotate_left
    · rintro σ G ⟨z7, z8, z9, z10, z11, rfl, bG, BG⟩
      exact ⟨_, _, _, _, _, _, _, _, _, _, rfl, bus_same nb1 s13 (bY.trans bG)⟩
    rintro j σ G hj ⟨z7, z8, z9, z10, z11, rfl, bG, BG⟩
    have hj4 : j < 4 := hj
    obtain ⟨qa, ha⟩ : ∃ qa, as[j]? = some qa := ⟨_, List.getElem?_eq_getElem (by omega)⟩
    have oka : ∀ {Z}, Bus b Y Z → RwOk Z qa := fun s => (RY.2 qa (List.mem_of_getElem? ha)).keep fun t xs e => s.tup BY e
    have hDZ : ∀ {Z}, Bus b Y Z → Z D = some (.lst (as.map fun q => V.ref q.1)) := fun s => s.lst nDb RY.1
    have aix : atI (as.map fun q => V.ref q.1) (0 + (j : Int)) = some (.ref qa.1) := by
      rw [Int.zero_add]
      exact atI_nat (by rw [List.getElem?_map, ha]; rfl)
    have okG := oka bG
    refine ⟨.ref D, rfl, .int (0 + (j : Int)), rfl, D, _, _, _, rfl, rfl, SqL.mk (hDZ bG), aix, qa.1, qa.2, rfl, okG.h, by have := okG.l2; omega, (tY.bus BY bG).t, fun G1 p1 x1 np1 hp1 => ?_⟩
    have b1 := bG.trans (.sam x1)
    have ok1 := oka b1
    refine ⟨.ref D, rfl, .int (0 + (j : Int)), rfl, D, _, _, _, rfl, rfl, SqL.mk (hDZ b1), aix, qa.1, rfl, ⟨_, SqT.mk ok1.h⟩, fun E nE => ?_⟩
    refine lc_tup (xs := qa.2.map V.int) (fun k G2 => Same G1 G2 ∧ G2 E = some (.lst (((trn qa.2).take k).map V.int))) ⟨same_upd nE, upd_same⟩ (fun k G2 _ h => SqT.mk (h.1 _ _ ok1.h)) (fun k x G2 hx h => ?_) (fun G2 h => ?_)
    · obtain ⟨s2', hE⟩ := h
      rw [List.getElem?_map] at hx
      obtain ⟨v, hv, rfl⟩ := Option.map_eq_some_iff.mp hx
      refine ⟨rfl, yes_ite ?_⟩
      refine ⟨.int v, rfl, rfl, .inr ⟨_, rfl, ?_⟩⟩
      rw [one_less (ok1.b v (List.mem_of_getElem? hv))]
      have lk := (List.getElem?_eq_some_iff.mp hv).1
      have l2 := ok1.l2
      refine ⟨_, hE, by rw [List.length_map, List.length_take, trn_len]; omega, same_newer s2' nE, ?_⟩
      rw [upd_same, List.take_add_one, show (trn qa.2)[k]? = some (1 - v) by unfold trn; rw [List.getElem?_map, hv]; rfl, Option.toList_some, List.map_append]
      rfl
    obtain ⟨s2', hE⟩ := h
    rw [List.length_map, show qa.2.length = (trn qa.2).length from (trn_len _).symm, List.take_length] at hE
    refine ⟨E, _, rfl, .inl ⟨SqL.mk hE, fun u nu => ?_⟩⟩
    have s3' := same_upd nu (o := .tup ((trn qa.2).map V.int))
    refine ⟨_, _, rfl, .inr ⟨p1, u, trn qa.2, rfl, rfl, s3' _ _ (s2' _ _ hp1), upd_same, by rw [trn_len]; have := okG.l2; omega⟩, fun G3 s4' => ⟨_, rfl, iteF ?_⟩⟩
    have bG3 : Bus b Y G3 := b1.trans (.sam (Sam.of (s2'.trans (s3'.trans s4'))))
    have BG3 : Bx G3 b (40000 + 4 * j) := BG.sam (x1.trans (Sam.of (s2'.trans (s3'.trans s4'))))
    clear okG x1 b1 ok1 hE nE s2' s3' s4' np1 hp1 bG BG
    refine ⟨4, rfl, by decide, by decide, for_range (n := 4) (fun k σ G => ∃ z8 z9 z10 z11, σ = [some (.ref a), some (.ref c), some (.int (0 + (i : Int))), some (.ref b), some (.bl gr), some (.int (L : Nat)), some (.ref D), some (.int (0 + (j : Int))), z8, z9, z10, z11, none, none] ∧ Bus b Y G ∧ Bx G b (40000 + 4 * j + k)) ⟨_, _, _, _, rfl, bG3, BG3⟩ ?_ ?_⟩
    rotate_left
    · rintro σ G ⟨z8, z9, z10, z11, rfl, bG, BG⟩
      exact ⟨_, _, _, _, _, rfl, bG, BG⟩
    rintro k σ G hk ⟨z8, z9, z10, z11, rfl, bG, BG⟩
    have hk4 : k < 4 := hk
    obtain ⟨qb, hb⟩ : ∃ qb, as[k]? = some qb := ⟨_, List.getElem?_eq_getElem (by omega)⟩
    have bix : atI (as.map fun q => V.ref q.1) (0 + (k : Int)) = some (.ref qb.1) := by
      rw [Int.zero_add]
      exact atI_nat (by rw [List.getElem?_map, hb]; rfl)
    refine ⟨.ref D, rfl, .int (0 + (j : Int)), rfl, D, _, _, _, rfl, rfl, SqL.mk (hDZ bG), aix, .ref D, rfl, .int (0 + (k : Int)), rfl, D, _, _, _, rfl, rfl, SqL.mk (hDZ bG), bix, .ref D, rfl, .ref b, rfl, b, 4, _, rfl, BG, by decide, by decide, by omega, fun G1 r c1 B1 l1 u1 => ?_⟩
    obtain ⟨r, rfl⟩ := nat_of l1
    obtain ⟨qc, hc'⟩ : ∃ qc, as[r]? = some qc := ⟨_, List.getElem?_eq_getElem (by omega)⟩
    have b1 := bG.trans (.of c1)
    refine ⟨D, _, _, _, rfl, rfl, SqL.mk (hDZ b1), atI_nat (by rw [List.getElem?_map, hc']; rfl), (show 3 ≤ sizeLine by decide), fun M nM => ?_⟩
    have x2 := same_upd nM (o := .lst [.ref qa.1, .ref qb.1, .ref qc.1])
    have hM := upd_same (H := G1) (a := M) (o := .lst [.ref qa.1, .ref qb.1, .ref qc.1])
    have B2 := B1.same x2
    have b2 := b1.trans (.sam (Sam.of x2))
    generalize upd G1 M (.lst [.ref qa.1, .ref qb.1, .ref qc.1]) = G2 at x2 hM B2 b2 ⊢
    have oka2 := oka b2
    have okb2 : RwOk G2 qb := (RY.2 qb (List.mem_of_getElem? hb)).keep fun t xs e => b2.tup BY e
    have okc2 : RwOk G2 qc := (RY.2 qc (List.mem_of_getElem? hc')).keep fun t xs e => b2.tup BY e
    have R2 : R3 G2 qa.1 qb.1 qc.1 qa.2 qb.2 qc.2 := ⟨oka2.h, okb2.h, okc2.h, oka2.b, okb2.b, okc2.b⟩
    have t2 := tY.bus BY b2
    have la2 := oka2.l2
    have lb2 := okb2.l2
    have lc2 := okc2.l2
    clear bG BG c1 B1 b1 x2 nM oka2 okb2 okc2
    refine ⟨(show 4 ≤ sizeLine by decide), fun wt nwt => ⟨wt, rfl, ⟨_, SqT.mk upd_same⟩, ?_⟩⟩
    have x3 := same_upd nwt (o := .tup [.str "both", .str "either", .str "oneof", .str "pick"])
    have hwt := upd_same (H := G2) (a := wt) (o := .tup [.str "both", .str "either", .str "oneof", .str "pick"])
    have B3 := B2.same x3
    have b3 := b2.trans (.sam (Sam.of x3))
    have hM3 := x3 _ _ hM
    have R3' := R2.sam (Sam.of x3)
    have t3' := t2.sam (Sam.of x3)
    generalize upd G2 wt (.tup [.str "both", .str "either", .str "oneof", .str "pick"]) = G3 at x3 hwt B3 b3 hM3 R3' t3' ⊢
    clear x3 hM R2 t2 b2 B2
    refine for_tup (xs := [.str "both", .str "either", .str "oneof", .str "pick"]) (fun m σ Z => ∃ z10 z11, σ = [some (.ref a), some (.ref c), some (.int (0 + (i : Int))), some (.ref b), some (.bl gr), some (.int (L : Nat)), some (.ref D), some (.int (0 + (j : Int))), some (.int (0 + (k : Int))), some (.ref M), z10, z11, none, none] ∧ Sam G3 Z) ⟨_, _, rfl, Sam.refl G3⟩ ?_ ?_ ?_
    · rintro m σ Z _ ⟨z10, z11, rfl, sZ⟩
      exact SqT.mk (sZ.tup hwt)
    rotate_left
    · rintro σ Z ⟨z10, z11, rfl, sZ⟩
      exact ⟨_, _, _, _, rfl, b3.trans (.sam sZ), (B3.sam sZ).mono (by omega)⟩
    rintro m x σ Z hx ⟨z10, z11, rfl, sZ⟩
    obtain ⟨wd, rfl⟩ := wd_of hx
    have RZ' := R3'.sam sZ
    have ldue : (wd.due qa.2 qb.2 qc.2).length = qa.2.length := rwf_len _ _
    refine ⟨_, rfl, .ref M, rfl, wd, M, qa.1, qb.1, qc.1, qa.2, qb.2, qc.2, rfl, sZ.lst hM3, RZ', t3'.sam sZ, fun ft Z1 p s1' hp => ?_, fun nf Z1 s1' => ?_⟩
    · have sZ1 := sZ.trans s1'
      refine ⟨.ref p, rfl, _, rfl, .ref M, rfl, wd, M, qa.1, qb.1, qc.1, qa.2, qb.2, qc.2, rfl, sZ1.lst hM3, R3'.sam sZ1, by omega, by omega, by omega, fun _ Z2 u s2' hu => ?_, fun nf => absurd ft nf⟩
      refine ⟨_, _, rfl, .inr ⟨p, u, _, rfl, rfl, s2' _ _ hp, hu, by omega⟩, fun Z3 s3' => ⟨_, rfl, iteF ?_⟩⟩
      have sZ3 := sZ1.trans (Sam.of (s2'.trans s3'))
      have hp3 := s3' _ _ (s2' _ _ hp)
      refine ⟨_, rfl, rfl, _, rfl, ite2 (fun e => ?_) (fun _ => iteF ⟨_, _, rfl, sZ3⟩)⟩
      have e : wd = .both := by
        have e := V.str.inj (of_decide_eq_true e)
        cases wd with
        | both => rfl
        | _ => exact absurd e (by decide +kernel)
      subst e
      have bd : Bits (Wd.both.due qa.2 qb.2 qc.2) := rwf_bits fun x _ => by
        have h1 := bits_at0 RZ'.ra x
        have h2 := bits_at0 RZ'.rb x
        show qa.2.getD x 0 * qb.2.getD x 0 = 0 ∨ qa.2.getD x 0 * qb.2.getD x 0 = 1
        rcases h1 with h1 | h1 <;> rcases h2 with h2 | h2 <;> rw [h1, h2] <;> decide
      refine ⟨.ref p, rfl, .tuple ((Wd.both.due qa.2 qb.2 qc.2).map .int), .str "unlike", .tup (SqT.mk hp3) (dp_ints _), .str _, sh_ints _, shS, _, rfl, iteT ?_⟩
      refine ⟨.ref p, rfl, .ref p, rfl, p, p, _, _, rfl, hp3, hp3, .inl ⟨rfl, bd, bd, (t3'.sam sZ3).b, fun Z4 p2 s4' np2 hp2 => ?_⟩⟩
      rw [zip_self (fun x hx => by rcases hx with rfl | rfl <;> rfl) bd] at hp2
      refine ⟨.ref p, rfl, _, _, rfl, .inr ⟨p2, p, _, rfl, rfl, hp2, s4'.tup hp3, by omega⟩, fun Z5 s5' => ⟨_, rfl, iteF ?_⟩⟩
      exact ⟨_, _, rfl, sZ3.trans (s4'.trans (Sam.of s5'))⟩
    · have sZ1 := sZ.trans s1'
      refine ⟨.str "unlike", rfl, _, rfl, .ref M, rfl, wd, M, qa.1, qb.1, qc.1, qa.2, qb.2, qc.2, rfl, sZ1.lst hM3, R3'.sam sZ1, by omega, by omega, by omega, fun ft => absurd ft nf, fun _ Z2 s2' => ?_⟩
      refine ⟨_, _, rfl, .inl ⟨_, rfl, rfl⟩, fun Z3 s3' => ⟨_, rfl, iteF ?_⟩⟩
      have sZ3 := sZ1.trans (Sam.of (s2'.trans s3'))
      refine ⟨_, rfl, rfl, _, rfl, ite2 (fun e => ?_) (fun _ => iteF ⟨_, _, rfl, sZ3⟩)⟩
      refine ⟨.str "unlike", rfl, .str "unlike", .str "unlike", .str _, .str _, shS, shS, _, rfl, ?_⟩
      rw [show (!PyData.eqv (.str "unlike") (.str "unlike")) = false by decide +kernel]
      exact iteF (iteF ⟨_, _, rfl, sZ3⟩)
end
def d_refuse_unlike : He.DefD := ⟨("refuse_unlike", none), "refuse_unlike", "refuse_unlike", defArgs s_refuse_unlike, defBody s_refuse_unlike, defScope s_refuse_unlike, [], []⟩
def d_turned : He.DefD := ⟨("turned", none), "turned", "turned", defArgs s_turned, defBody s_turned, defScope s_turned, [], []⟩
def d_both : He.DefD := ⟨("both", none), "both", "both", defArgs s_both, defBody s_both, defScope s_both, [], []⟩
def d_either : He.DefD := ⟨("either", none), "either", "either", defArgs s_either, defBody s_either, defScope s_either, [], []⟩
def d_oneof : He.DefD := ⟨("oneof", none), "oneof", "oneof", defArgs s_oneof, defBody s_oneof, defScope s_oneof, [], []⟩
def d_pick : He.DefD := ⟨("pick", none), "pick", "pick", defArgs s_pick, defBody s_pick, defScope s_pick, [], []⟩
def d__law_box : He.DefD := ⟨("_law_box", none), "_law_box", "_law_box", defArgs s__law_box, defBody s__law_box, defScope s__law_box, [], []⟩
def d__law_take : He.DefD := ⟨("_law_take", none), "_law_take", "_law_take", defArgs s__law_take, defBody s__law_take, defScope s__law_take, [], []⟩
def d__law_folded : He.DefD := ⟨("_law_folded", none), "_law_folded", "_law_folded", defArgs s__law_folded, defBody s__law_folded, defScope s__law_folded, [], []⟩
def d__law_row : He.DefD := ⟨("_law_row", none), "_law_row", "_law_row", defArgs s__law_row, defBody s__law_row, defScope s__law_row, [], []⟩
def d__law_long : He.DefD := ⟨("_law_long", none), "_law_long", "_law_long", defArgs s__law_long, defBody s__law_long, defScope s__law_long, [], []⟩
def d__law_same : He.DefD := ⟨("_law_same", none), "_law_same", "_law_same", defArgs s__law_same, defBody s__law_same, defScope s__law_same, [], []⟩
def d__law_done : He.DefD := ⟨("_law_done", none), "_law_done", "_law_done", defArgs s__law_done, defBody s__law_done, defScope s__law_done, [], []⟩
def d__law_due : He.DefD := ⟨("_law_due", none), "_law_due", "_law_due", defArgs s__law_due, defBody s__law_due, defScope s__law_due, [], []⟩
def d_law : He.DefD := ⟨("law", none), "law", "law", defArgs s_law, defBody s_law, defScope s_law, [], []⟩
def hfn : List He.DefD := [d_refuse_unlike, d_turned, d_both, d_either, d_oneof, d_pick, d__law_box, d__law_take, d__law_folded, d__law_row, d__law_long, d__law_same, d__law_done, d__law_due, d_law]
def hfa : List He.Fa := [.glo "refuse_unlike", .glo "turned", .glo "both", .glo "either", .glo "oneof", .glo "pick", .glo "_law_box", .glo "_law_take", .glo "_law_folded", .glo "_law_row", .glo "_law_long", .glo "_law_same", .glo "_law_done", .glo "_law_due", .glo "law", .free "ValueError", .free "abs", .free "all", .free "bool", .free "divmod", .free "enumerate", .free "int", .free "isinstance", .free "len", .free "list", .free "max", .free "min", .free "range", .free "set", .free "str", .free "tuple", .free "zip", .glo "OnesError", .glo "Unlike", .glo "NoSuch", .glo "NoOne", .glo "NoRound", .glo "BadText", .glo "BadSheet", .exc "Unlike", .exm "Unlike" "OnesError" true]
def htf : List He.Defn := [("turned", none), ("both", none), ("either", none), ("oneof", none), ("pick", none)]
abbrev Hex (K : PySem.W.Frag) : Prop := (PySem.W.findIn K (.ref (He.ga K "Unlike")) "__getattribute__" = some (some (.builtin "BaseException.__getattribute__"))) ∧ (PySem.W.findIn K (.ref (He.ga K "Unlike")) "__getattr__" = some none) ∧ (PySem.W.subIn K (.ref (He.ga K "Unlike")) (.type "BaseException") = some true) ∧ (PySem.W.hasDictIn K (He.ga K "Unlike") = true) ∧ (PySem.W.findIn K (.ref (He.ga K "Unlike")) "__class__" = some (some (.builtin "object.__class__"))) ∧ (PySem.W.specialIn K (.builtin "object.__class__") "__get__" = some (some (.builtin "getset_descriptor.__get__"))) ∧ (PySem.W.takesIn K (.builtin "object.__class__") = some true) ∧ (PySem.W.mroIn K (He.ga K "Unlike") (.type "object") = some true) ∧ (PySem.W.kitOne K (.ref (He.ga K "Unlike")) (.ref (He.ga K "OnesError")) = some true) ∧ (PySem.W.kitOne K (.ref (He.ga K "Unlike")) (.ref (He.ga K "Unlike")) = some true) ∧ (PySem.W.kitOne K (.ref (He.ga K "Unlike")) (.ref (He.ga K "NoSuch")) = some false) ∧ (PySem.W.kitOne K (.ref (He.ga K "Unlike")) (.ref (He.ga K "NoOne")) = some false) ∧ (PySem.W.kitOne K (.ref (He.ga K "Unlike")) (.ref (He.ga K "NoRound")) = some false) ∧ (PySem.W.kitOne K (.ref (He.ga K "Unlike")) (.ref (He.ga K "BadText")) = some false) ∧ (PySem.W.kitOne K (.ref (He.ga K "Unlike")) (.ref (He.ga K "BadSheet")) = some false) ∧ (PySem.W.kitOne K (.ref (He.ga K "Unlike")) (.type "ValueError") = some true)
instance (K : PySem.W.Frag) : Decidable (Hex K) := inferInstance
def hex : PySem.W.Frag → Bool := fun K => decide (Hex K)
abbrev R : PySem.W.OpenRow := PySem.W.OpenLaw.row PySem.Challenge.rw_shareones_k04_deeds_of_rows
abbrev hk : PySem.W.Hook := He.hookX 4 hfa hfn [] htf hex
def ob (s : PySem.W.SharedT) : He.AlX := He.obsX 4 hfa hfn [] htf hex (HandSHeadRun.getT s)
theorem ob_eq (s : PySem.W.SharedT) : ob s = hk.obs s.abs := He.obsX_eq (HandSHeadRun.getT_eq s)
def loose : List Str := "refuse_unlike" :: "turned" :: "both" :: "either" :: "oneof" :: "pick" :: "_law_box" :: "_law_take" :: "_law_folded" :: "_law_row" :: "_law_long" :: "_law_same" :: "_law_done" :: "_law_due" :: "OnesError" :: "Unlike" :: "NoSuch" :: "NoOne" :: "NoRound" :: "BadText" :: "BadSheet" :: []
theorem run (w : World) : HandSHeadRun.RunEq R (PySem.W.view R.prog [24]) hk ob 6000 loose w := by
  intro os
  kernel_rfl
theorem codeAt {K : PySem.W.Frag} {p : He.Defn} : CodeAt K (He.fAd K p) (He.cT K p).1 := fun oc od fd osl lk b e => (He.codeOf_eq lk e).symm
theorem facts {l : PySem.W.OpenLaw} {w : World} {K : PySem.W.Frag} {h : Heap} {mg : Str → Option Value} {f : Addr} (X : K.In h) (G : h.Ns mainGlobals mg) (hfa_ : mg ("law" : Str) = some (.ref f)) (cc : He.SaysX hfa hfn [] htf hex w h K) :
    LamX.LawAtS l w K CX0 4 63 "_law_script" mg f h := by
  have c : He.SaysD hfa hfn K := congrArg (fun z : He.AlT => z.1) cc.t
  obtain ⟨fd_refuse_unlike, F_refuse_unlike⟩ := c.def_ 0 (d := d_refuse_unlike) rfl
  obtain ⟨fd_turned, F_turned⟩ := c.def_ 1 (d := d_turned) rfl
  obtain ⟨fd_both, F_both⟩ := c.def_ 2 (d := d_both) rfl
  obtain ⟨fd_either, F_either⟩ := c.def_ 3 (d := d_either) rfl
  obtain ⟨fd_oneof, F_oneof⟩ := c.def_ 4 (d := d_oneof) rfl
  obtain ⟨fd_pick, F_pick⟩ := c.def_ 5 (d := d_pick) rfl
  obtain ⟨fd__law_box, F__law_box⟩ := c.def_ 6 (d := d__law_box) rfl
  obtain ⟨fd__law_take, F__law_take⟩ := c.def_ 7 (d := d__law_take) rfl
  obtain ⟨fd__law_folded, F__law_folded⟩ := c.def_ 8 (d := d__law_folded) rfl
  obtain ⟨fd__law_row, F__law_row⟩ := c.def_ 9 (d := d__law_row) rfl
  obtain ⟨fd__law_long, F__law_long⟩ := c.def_ 10 (d := d__law_long) rfl
  obtain ⟨fd__law_same, F__law_same⟩ := c.def_ 11 (d := d__law_same) rfl
  obtain ⟨fd__law_done, F__law_done⟩ := c.def_ 12 (d := d__law_done) rfl
  obtain ⟨fd__law_due, F__law_due⟩ := c.def_ 13 (d := d__law_due) rfl
  obtain ⟨fd_law, F_law⟩ := c.def_ 14 (d := d_law) rfl
  have e := hfa_.symm.trans (He.glo_ok X G (c.fact 14 (f := .glo "law") rfl))
  cases e
  have b := FunD.bindsA (ps := ["_law_script"]) F_law fun _ _ _ _ _ _ us hl => match us, hl with | [_], _ => rfl
  have hm : Hex K := of_decide_eq_true cc.more
  obtain ⟨h0, h1, h2, h3, h4, h5, h6, h7, h8, h9, h10, h11, h12, h13, h14, h15⟩ := hm
  let T : Defs K mg := ⟨_, fd_refuse_unlike, F_refuse_unlike, (He.glo_ok X G (c.fact 0 (f := .glo "refuse_unlike") rfl)), (FunD.bindsN F_refuse_unlike fun _ _ _ _ _ _ us hl => match us, hl with | [_], _ => rfl), _, fd_turned, F_turned, (He.glo_ok X G (c.fact 1 (f := .glo "turned") rfl)), (FunD.bindsN F_turned fun _ _ _ _ _ _ us hl => match us, hl with | [_], _ => rfl), _, fd_both, F_both, (He.glo_ok X G (c.fact 2 (f := .glo "both") rfl)), (FunD.bindsN F_both fun _ _ _ _ _ _ us hl => match us, hl with | [_, _], _ => rfl), _, fd_either, F_either, (He.glo_ok X G (c.fact 3 (f := .glo "either") rfl)), (FunD.bindsN F_either fun _ _ _ _ _ _ us hl => match us, hl with | [_, _], _ => rfl), _, fd_oneof, F_oneof, (He.glo_ok X G (c.fact 4 (f := .glo "oneof") rfl)), (FunD.bindsN F_oneof fun _ _ _ _ _ _ us hl => match us, hl with | [_, _], _ => rfl), _, fd_pick, F_pick, (He.glo_ok X G (c.fact 5 (f := .glo "pick") rfl)), (FunD.bindsN F_pick fun _ _ _ _ _ _ us hl => match us, hl with | [_, _, _], _ => rfl), _, fd__law_box, F__law_box, (He.glo_ok X G (c.fact 6 (f := .glo "_law_box") rfl)), (FunD.bindsN F__law_box fun _ _ _ _ _ _ us hl => match us, hl with | [_, _], _ => rfl), _, fd__law_take, F__law_take, (He.glo_ok X G (c.fact 7 (f := .glo "_law_take") rfl)), (FunD.bindsN F__law_take fun _ _ _ _ _ _ us hl => match us, hl with | [_, _], _ => rfl), _, fd__law_folded, F__law_folded, (He.glo_ok X G (c.fact 8 (f := .glo "_law_folded") rfl)), (FunD.bindsN F__law_folded fun _ _ _ _ _ _ us hl => match us, hl with | [_, _], _ => rfl), _, fd__law_row, F__law_row, (He.glo_ok X G (c.fact 9 (f := .glo "_law_row") rfl)), (FunD.bindsN F__law_row fun _ _ _ _ _ _ us hl => match us, hl with | [_, _], _ => rfl), _, fd__law_long, F__law_long, (He.glo_ok X G (c.fact 10 (f := .glo "_law_long") rfl)), (FunD.bindsN F__law_long fun _ _ _ _ _ _ us hl => match us, hl with | [_], _ => rfl), _, fd__law_same, F__law_same, (He.glo_ok X G (c.fact 11 (f := .glo "_law_same") rfl)), (FunD.bindsN F__law_same fun _ _ _ _ _ _ us hl => match us, hl with | [_, _], _ => rfl), _, fd__law_done, F__law_done, (He.glo_ok X G (c.fact 12 (f := .glo "_law_done") rfl)), (FunD.bindsN F__law_done fun _ _ _ _ _ _ us hl => match us, hl with | [_, _], _ => rfl), _, fd__law_due, F__law_due, (He.glo_ok X G (c.fact 13 (f := .glo "_law_due") rfl)), (FunD.bindsN F__law_due fun _ _ _ _ _ _ us hl => match us, hl with | [_, _], _ => rfl), _, fd_law, F_law, (He.glo_ok X G (c.fact 14 (f := .glo "law") rfl)), (FunD.bindsN F_law fun _ _ _ _ _ _ us hl => match us, hl with | [_], _ => rfl), (He.cT K ("turned", none)).1, (He.cT K ("turned", none)).2, codeAt, (He.cT K ("both", none)).1, (He.cT K ("both", none)).2, codeAt, (He.cT K ("either", none)).1, (He.cT K ("either", none)).2, codeAt, (He.cT K ("oneof", none)).1, (He.cT K ("oneof", none)).2, codeAt, (He.cT K ("pick", none)).1, (He.cT K ("pick", none)).2, codeAt, _, (He.glo_ok X G (c.fact 32 (f := .glo "OnesError") rfl)), _, (He.glo_ok X G (c.fact 33 (f := .glo "Unlike") rfl)), _, (He.glo_ok X G (c.fact 34 (f := .glo "NoSuch") rfl)), _, (He.glo_ok X G (c.fact 35 (f := .glo "NoOne") rfl)), _, (He.glo_ok X G (c.fact 36 (f := .glo "NoRound") rfl)), _, (He.glo_ok X G (c.fact 37 (f := .glo "BadText") rfl)), _, (He.glo_ok X G (c.fact 38 (f := .glo "BadSheet") rfl)), (He.exc_ok (c.fact 39 (f := .exc "Unlike") rfl)).1, (He.exc_ok (c.fact 39 (f := .exc "Unlike") rfl)).2.1, (He.exc_ok (c.fact 39 (f := .exc "Unlike") rfl)).2.2.1, (He.exc_ok (c.fact 39 (f := .exc "Unlike") rfl)).2.2.2, ⟨h0, h1, h2, h3, h4, h5, h6, h7⟩, (He.exm_ok (c.fact 40 (f := .exm "Unlike" "OnesError" true) rfl)), h8, h9, h10, h11, h12, h13, h14, h15, (He.free_ok X G (c.fact 15 (f := .free "ValueError") rfl)), (He.free_ok X G (c.fact 16 (f := .free "abs") rfl)), (He.free_ok X G (c.fact 17 (f := .free "all") rfl)), (He.free_ok X G (c.fact 18 (f := .free "bool") rfl)), (He.free_ok X G (c.fact 19 (f := .free "divmod") rfl)), (He.free_ok X G (c.fact 20 (f := .free "enumerate") rfl)), (He.free_ok X G (c.fact 21 (f := .free "int") rfl)), (He.free_ok X G (c.fact 22 (f := .free "isinstance") rfl)), (He.free_ok X G (c.fact 23 (f := .free "len") rfl)), (He.free_ok X G (c.fact 24 (f := .free "list") rfl)), (He.free_ok X G (c.fact 25 (f := .free "max") rfl)), (He.free_ok X G (c.fact 26 (f := .free "min") rfl)), (He.free_ok X G (c.fact 27 (f := .free "range") rfl)), (He.free_ok X G (c.fact 28 (f := .free "set") rfl)), (He.free_ok X G (c.fact 29 (f := .free "str") rfl)), (He.free_ok X G (c.fact 30 (f := .free "tuple") rfl)), (He.free_ok X G (c.fact 31 (f := .free "zip") rfl))⟩
  refine ⟨fd_law, htf.map (He.cT K), sp_law T, fun p hp => ?_, fun p hp => ?_, fun p hp => ?_, fun s v => b s [v] rfl, fun H a ns hl _ hH hS => ⟨a, ns, rfl, hS, hl, ?_, fun _ => rfl⟩, fun base _ _ TB => ok_law T ?_⟩
  · obtain ⟨q, hq, rfl⟩ := List.mem_map.mp hp
    exact cc.empty q hq
  · obtain ⟨q, hq, rfl⟩ := List.mem_map.mp hp
    exact cc.out q hq
  · obtain ⟨q, hq, rfl⟩ := List.mem_map.mp hp
    exact PySem.W.codeHd_of_K X (cc.hd q hq)
  · exact ⟨⟨#[], hH _ (List.mem_map.mpr ⟨_, List.mem_cons_self, rfl⟩), trip0⟩, ⟨#[], hH _ (List.mem_map.mpr ⟨_, (List.mem_cons_of_mem _ List.mem_cons_self), rfl⟩), trip0⟩, ⟨#[], hH _ (List.mem_map.mpr ⟨_, (List.mem_cons_of_mem _ (List.mem_cons_of_mem _ List.mem_cons_self)), rfl⟩), trip0⟩, ⟨#[], hH _ (List.mem_map.mpr ⟨_, (List.mem_cons_of_mem _ (List.mem_cons_of_mem _ (List.mem_cons_of_mem _ List.mem_cons_self))), rfl⟩), trip0⟩, ⟨#[], hH _ (List.mem_map.mpr ⟨_, (List.mem_cons_of_mem _ (List.mem_cons_of_mem _ (List.mem_cons_of_mem _ (List.mem_cons_of_mem _ List.mem_cons_self)))), rfl⟩), trip0⟩, trivial⟩
  · exact ⟨⟨(TB _ (List.mem_map.mpr ⟨_, List.mem_cons_self, rfl⟩)).code, (TB _ (List.mem_map.mpr ⟨_, List.mem_cons_self, rfl⟩)).bm, (TB _ (List.mem_map.mpr ⟨_, List.mem_cons_self, rfl⟩)).gP⟩, ⟨(TB _ (List.mem_map.mpr ⟨_, (List.mem_cons_of_mem _ List.mem_cons_self), rfl⟩)).code, (TB _ (List.mem_map.mpr ⟨_, (List.mem_cons_of_mem _ List.mem_cons_self), rfl⟩)).bm, (TB _ (List.mem_map.mpr ⟨_, (List.mem_cons_of_mem _ List.mem_cons_self), rfl⟩)).gP⟩, ⟨(TB _ (List.mem_map.mpr ⟨_, (List.mem_cons_of_mem _ (List.mem_cons_of_mem _ List.mem_cons_self)), rfl⟩)).code, (TB _ (List.mem_map.mpr ⟨_, (List.mem_cons_of_mem _ (List.mem_cons_of_mem _ List.mem_cons_self)), rfl⟩)).bm, (TB _ (List.mem_map.mpr ⟨_, (List.mem_cons_of_mem _ (List.mem_cons_of_mem _ List.mem_cons_self)), rfl⟩)).gP⟩, ⟨(TB _ (List.mem_map.mpr ⟨_, (List.mem_cons_of_mem _ (List.mem_cons_of_mem _ (List.mem_cons_of_mem _ List.mem_cons_self))), rfl⟩)).code, (TB _ (List.mem_map.mpr ⟨_, (List.mem_cons_of_mem _ (List.mem_cons_of_mem _ (List.mem_cons_of_mem _ List.mem_cons_self))), rfl⟩)).bm, (TB _ (List.mem_map.mpr ⟨_, (List.mem_cons_of_mem _ (List.mem_cons_of_mem _ (List.mem_cons_of_mem _ List.mem_cons_self))), rfl⟩)).gP⟩, ⟨(TB _ (List.mem_map.mpr ⟨_, (List.mem_cons_of_mem _ (List.mem_cons_of_mem _ (List.mem_cons_of_mem _ (List.mem_cons_of_mem _ List.mem_cons_self)))), rfl⟩)).code, (TB _ (List.mem_map.mpr ⟨_, (List.mem_cons_of_mem _ (List.mem_cons_of_mem _ (List.mem_cons_of_mem _ (List.mem_cons_of_mem _ List.mem_cons_self)))), rfl⟩)).bm, (TB _ (List.mem_map.mpr ⟨_, (List.mem_cons_of_mem _ (List.mem_cons_of_mem _ (List.mem_cons_of_mem _ (List.mem_cons_of_mem _ List.mem_cons_self)))), rfl⟩)).gP⟩⟩
end Fq
open PySem PySem.W PySem.Calls PyProof.Rows
set_option maxHeartbeats 0 in
theorem PySem.Challenge.cw_shareones_k04_deeds_of_rows_holds : PySem.Challenge.rw_shareones_k04_deeds_of_rows.Holds := by
  w_on; o_law
  refine HandSHeadRun.head_any (r := OpenLaw.row PySem.Challenge.rw_shareones_k04_deeds_of_rows) (q := view (OpenLaw.row PySem.Challenge.rw_shareones_k04_deeds_of_rows).prog [24]) (H := Fq.hk) (ob := Fq.ob) (M := 6000) (loose := Fq.loose) (d := HandSHeadRun.topDef (OpenLaw.row PySem.Challenge.rw_shareones_k04_deeds_of_rows).prog 24) (kwd := []) Fq.ob_eq
    (by kernel_rfl) (fun s => by kernel_rfl) Fq.run (by kernel_rfl) (by kernel_rfl) (by kernel_rfl) (by rfl) (by first | assumption | decide +kernel) (by decide +kernel) ⟨rfl, rfl, rfl, rfl, rfl, by decide +kernel⟩ ?hw ?hc
  case hw => w_witness2
  case hc =>
    refine LamX.walk_ofTsE (l := PySem.Challenge.rw_shareones_k04_deeds_of_rows) (n := 63) (k := 4) (x := "_law_script") (CX := fun _ => L2.CX0) rfl (by decide) (by kernel_rfl) ⟨rfl, by decide, by decide⟩ ?F (fun _ _ _ _ _ z => z)
    intro w mg fa h Y G hmg0
    obtain ⟨K, KX, c⟩ := Y
    have hmg : mg ("law" : PySem.Str) = some (.ref fa) := by
      have e : (HandSHeadRun.topDef (OpenLaw.row PySem.Challenge.rw_shareones_k04_deeds_of_rows).prog 24).name = ("law" : PySem.Str) := by kernel_rfl
      rw [← e]
      exact hmg0
    exact ⟨K, KX, Fq.facts KX G hmg c⟩
