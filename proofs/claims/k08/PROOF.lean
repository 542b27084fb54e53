import PyProof.Rows.All
import Wide.All
import OpenK.AllK
import Wide.FinOn
import KE.KStateDown
import Lean
import HandS.ForMost
import HandS.Wide
import HandS.WideBits
import HandS.IsInst
import HandS.Walk
import HandS.Evl
import HandS.Style
import HandS.NoneIn
import HandS.Defaults
import HandS.Head0
import HandS.Head1
import HandS.Head2
import HandS.HeadEnd
import HandS.HeadHook1
import HandS.HeadHook2
import HandS.AnyAll
import HandS.Comp
import HandS.Conv
import HandS.Deep
import HandS.Dict
import HandS.DictComp
import HandS.EndTab
import HandS.Exc
import HandS.ExcIs
import HandS.ExcOwn
import HandS.Flow
import HandS.GenBody
import HandS.GenList
import HandS.GenOver
import HandS.HeadHook3
import HandS.HeadHook4
import HandS.HeadWalk
import HandS.Iter
import HandS.More
import HandS.Set
import HandS.SetBool
import HandS.SetFor
import HandS.Small
import HandS.SortInts
import HandS.SortKw
import HandS.Strs
import HandS.Style
import HandS.TryOnly
import HandS.TupAny
import HandS.TupMul
import HandS.WordsExc
import HandS.Zip
import KE.DataMinMax
import KE.GoesEnum
import KE.GoesMore
import KE.GoesSet
import KE.GoesZip
import KE.KDictWalk
import KE.KNest
import PyProof.ConsumeS
import PyProof.GenArm
import PyProof.GenComp
import PyProof.GenCompT
import PyProof.GenQ
import PyProof.ReprLen
import PyProof.ReprRoads
import PyProof.Rows.MatchSeqLen
import PyProof.RulesMatch
import PyProof.RulesMatchSeq
import PyProof.TupleOfGen
import PySem.Challenge.RW_shareones_k08_rows_that_meet_so_often
set_option Elab.async false
set_option pp.maxSteps 250
set_option linter.all false
set_option maxRecDepth 100000
set_option maxHeartbeats 4000000
namespace Fq
open PySem PySem.Spec PyProof.Rows L2
section
variable {P : Program} {w : World} {K : PySem.W.Frag} {mg : Str → Option Value} {base : Heap}
def topS (i : Nat) : Stmt := PySem.Challenge.pw_shareones_k08_rows_that_meet_so_often.main.body.getD i (.Pass ⟨0, 0, 0, 0⟩)
abbrev FnP (K : PySem.W.Frag) (x : Str) (st : Stmt) (f : Addr) (fd : FuncData) : Prop := FunD K x x (defArgs st) (defBody st) (defScope st) [] [] f fd
abbrev s_is_number : Stmt := topS 9
abbrev N_is_number : List Str := ["thing"]
theorem sc_is_number : FnScope N_is_number ["thing"] (defScope s_is_number) := ⟨rfl, rfl, rfl, by decide +kernel, rfl, by decide +kernel, by decide +kernel⟩
abbrev s_is_within : Stmt := topS 10
abbrev N_is_within : List Str := ["thing", "least", "greatest"]
theorem sc_is_within : FnScope N_is_within ["thing", "least", "greatest"] (defScope s_is_within) := ⟨rfl, rfl, rfl, by decide +kernel, rfl, by decide +kernel, by decide +kernel⟩
abbrev s_is_bit : Stmt := topS 13
abbrev N_is_bit : List Str := ["thing"]
theorem sc_is_bit : FnScope N_is_bit ["thing"] (defScope s_is_bit) := ⟨rfl, rfl, rfl, by decide +kernel, rfl, by decide +kernel, by decide +kernel⟩
abbrev s_is_row : Stmt := topS 14
abbrev N_is_row : List Str := ["thing", "bit"]
theorem sc_is_row : FnScope N_is_row ["thing"] (defScope s_is_row) := ⟨rfl, rfl, rfl, by decide +kernel, rfl, by decide +kernel, by decide +kernel⟩
abbrev s_refuse_unlike : Stmt := topS 15
abbrev N_refuse_unlike : List Str := ["rows", "row"]
theorem sc_refuse_unlike : FnScope N_refuse_unlike ["rows"] (defScope s_refuse_unlike) := ⟨rfl, rfl, rfl, by decide +kernel, rfl, by decide +kernel, by decide +kernel⟩
abbrev s_ones : Stmt := topS 16
abbrev N_ones : List Str := ["row"]
theorem sc_ones : FnScope N_ones ["row"] (defScope s_ones) := ⟨rfl, rfl, rfl, by decide +kernel, rfl, by decide +kernel, by decide +kernel⟩
abbrev s_both : Stmt := topS 17
abbrev N_both : List Str := ["one", "other", "a", "b"]
theorem sc_both : FnScope N_both ["one", "other"] (defScope s_both) := ⟨rfl, rfl, rfl, by decide +kernel, rfl, by decide +kernel, by decide +kernel⟩
abbrev s_overlap : Stmt := topS 19
abbrev N_overlap : List Str := ["one", "other"]
theorem sc_overlap : FnScope N_overlap ["one", "other"] (defScope s_overlap) := ⟨rfl, rfl, rfl, by decide +kernel, rfl, by decide +kernel, by decide +kernel⟩
abbrev s_overlap_ends : Stmt := topS 20
abbrev N_overlap_ends : List Str := ["n", "a", "b"]
theorem sc_overlap_ends : FnScope N_overlap_ends ["n", "a", "b"] (defScope s_overlap_ends) := ⟨rfl, rfl, rfl, by decide +kernel, rfl, by decide +kernel, by decide +kernel⟩
abbrev s_leaning_rows : Stmt := topS 21
abbrev N_leaning_rows : List Str := ["n", "a", "b", "met", "least", "greatest", "one", "other"]
theorem sc_leaning_rows : FnScope N_leaning_rows ["n", "a", "b", "met"] (defScope s_leaning_rows) := ⟨rfl, rfl, rfl, by decide +kernel, rfl, by decide +kernel, by decide +kernel⟩
abbrev s_shows_rows : Stmt := topS 22
abbrev N_shows_rows : List Str := ["n", "a", "b", "met", "thing", "one", "other"]
theorem sc_shows_rows : FnScope N_shows_rows ["n", "a", "b", "met", "thing"] (defScope s_shows_rows) := ⟨rfl, rfl, rfl, by decide +kernel, rfl, by decide +kernel, by decide +kernel⟩
abbrev s__law_box : Stmt := topS 24
abbrev N__law_box : List Str := ["_law_script", "_law_k", "_law_cell"]
theorem sc__law_box : FnScope N__law_box ["_law_script", "_law_k"] (defScope s__law_box) := ⟨rfl, rfl, rfl, by decide +kernel, rfl, by decide +kernel, by decide +kernel⟩
abbrev s__law_take : Stmt := topS 25
abbrev N__law_take : List Str := ["_law_box_here", "_law_many", "_law_found", "_law_once"]
theorem sc__law_take : FnScope N__law_take ["_law_box_here", "_law_many"] (defScope s__law_take) := ⟨rfl, rfl, rfl, by decide +kernel, rfl, by decide +kernel, by decide +kernel⟩
abbrev s__law_folded : Stmt := topS 26
abbrev N__law_folded : List Str := ["_law_script", "_law_many", "_law_cells", "_law_k", "_law_cell"]
theorem sc__law_folded : FnScope N__law_folded ["_law_script", "_law_many"] (defScope s__law_folded) := ⟨rfl, rfl, rfl, by decide +kernel, rfl, by decide +kernel, by decide +kernel⟩
abbrev s__law_told : Stmt := topS 27
abbrev N__law_told : List Str := ["_law_n", "_law_a", "_law_b", "_law_met", "_law_found", "_law_caught", "error", "_law_others"]
theorem sc__law_told : FnScope N__law_told ["_law_n", "_law_a", "_law_b", "_law_met"] (defScope s__law_told) := ⟨rfl, rfl, rfl, by decide +kernel, rfl, by decide +kernel, by decide +kernel⟩
abbrev s__law_due : Stmt := topS 28
abbrev N__law_due : List Str := ["_law_n", "_law_a", "_law_b", "_law_met", "_law_thing", "_law_row", "_law_one", "_law_other", "_law_bit", "_law_place"]
theorem sc__law_due : FnScope N__law_due ["_law_n", "_law_a", "_law_b", "_law_met", "_law_thing"] (defScope s__law_due) := ⟨rfl, rfl, rfl, by decide +kernel, rfl, by decide +kernel, by decide +kernel⟩
abbrev s__law_made : Stmt := topS 29
abbrev N__law_made : List Str := ["_law_box_here", "_law_n", "_law_a", "_law_b", "_law_met", "_law_kinds", "_law_at", "_law_mixed", "_law_kind"]
theorem sc__law_made : FnScope N__law_made ["_law_box_here", "_law_n", "_law_a", "_law_b", "_law_met"] (defScope s__law_made) := ⟨rfl, rfl, rfl, by decide +kernel, rfl, by decide +kernel, by decide +kernel⟩
abbrev s__law_otherwise : Stmt := topS 30
abbrev N__law_otherwise : List Str := ["_law_box_here", "_law_pair", "_law_way", "_law_which", "_law_row", "_law_at", "_law_other"]
theorem sc__law_otherwise : FnScope N__law_otherwise ["_law_box_here", "_law_pair"] (defScope s__law_otherwise) := ⟨rfl, rfl, rfl, by decide +kernel, rfl, by decide +kernel, by decide +kernel⟩
abbrev s_law : Stmt := topS 31
abbrev N_law : List Str := ["_law_script", "_law_cells", "_law_k", "_law_box_here", "_law_great", "_law_n", "_law_a", "_law_b", "_law_least", "_law_most", "_law_met", "_law_told_here", "_law_near", "_law_thing", "_law_found", "_law_pair", "_law_turn"]
theorem sc_law : FnScope N_law ["_law_script"] (defScope s_law) := ⟨rfl, rfl, rfl, by decide +kernel, rfl, by decide +kernel, by decide +kernel⟩
/-- the code object of the def at f is the one at c -/
def CodeAt (K : PySem.W.Frag) (f c : Addr) : Prop := ∀ (oc : Value) (od : Option Addr) (fd : FuncData) (osl : Array (Option Value)), K.lookup f = some ⟨oc, od, .func fd, osl⟩ → ∀ b, fd.code = .ref b → b = c
theorem okC {P : Program} {w : World} {K : PySem.W.Frag} {mg : Str → Option Value} {base : Heap} {x : Str} {st : Stmt} {f c : Addr} {fd : FuncData} {N ps : List Str} {k : Nat} {sp : Sp} (F : FnP K x st f fd) (hc : CodeAt K f c) (S : FnScope N ps (defScope st)) (len : ∀ vs H Q E, sp vs H Q E → vs.length = ps.length)
    (hb : ∀ (A : Around) (outer : List Env) (s : Shared) (H : Hp) (vs : List V) (Q : VK) (E : XK), Room k (A.deeper (envOfC x (defScope st) s.heap.objs.size f (.ref c))) → sp vs H Q E →
      ∃ t, PSs (cxOf CX0 P w K mg base N x (defScope st) f (.ref c) A outer s H E) (defBody st) t ∧ t { nx := fun _ H' => Q .non H', rt := Q } (L2.start N vs) H) : FnOk P w K mg base CX0 (k + 1) f fd ps sp := by
  obtain ⟨oc, od, dV, kV, doc, pm, an, cdv, ct, osl, rfl, lk, hcd, _, _⟩ := F.ex
  obtain ⟨b, rfl⟩ := He.codeIn_ref hcd
  have e := hc oc od _ osl lk b rfl
  subst e
  exact fn_of lk hcd S len hb
theorem okX {P : Program} {w : World} {K : PySem.W.Frag} {mg : Str → Option Value} {base : Heap} {x : Str} {st : Stmt} {f : Addr} {fd : FuncData} {N ps : List Str} {k : Nat} {sp : Sp} (F : FnP K x st f fd) (S : FnScope N ps (defScope st)) (len : ∀ vs H Q E, sp vs H Q E → vs.length = ps.length)
    (hb : ∀ (cdv : Value) (A : Around) (outer : List Env) (s : Shared) (H : Hp) (vs : List V) (Q : VK) (E : XK), Room k (A.deeper (envOfC x (defScope st) s.heap.objs.size f cdv)) → sp vs H Q E →
      ∃ t, PSs (cxOf (L2.CX P w) P w K mg base N x (defScope st) f cdv A outer s H E) (defBody st) t ∧ t { nx := fun _ H' => Q .non H', rt := Q } (L2.start N vs) H) : FnOk P w K mg base (L2.CX P w) (k + 1) f fd ps sp := by
  obtain ⟨oc, od, dV, kV, doc, pm, an, cdv, ct, osl, rfl, lk, hcd, _, _⟩ := F.ex
  exact fn_of lk hcd S len fun A outer s H vs Q E hr h => hb cdv A outer s H vs Q E hr h
theorem okXC {P : Program} {w : World} {K : PySem.W.Frag} {mg : Str → Option Value} {base : Heap} {x : Str} {st : Stmt} {f c : Addr} {fd : FuncData} {N ps : List Str} {k : Nat} {sp : Sp} (F : FnP K x st f fd) (hc : CodeAt K f c) (S : FnScope N ps (defScope st)) (len : ∀ vs H Q E, sp vs H Q E → vs.length = ps.length)
    (hb : ∀ (A : Around) (outer : List Env) (s : Shared) (H : Hp) (vs : List V) (Q : VK) (E : XK), Room k (A.deeper (envOfC x (defScope st) s.heap.objs.size f (.ref c))) → sp vs H Q E →
      ∃ t, PSs (cxOf (L2.CX P w) P w K mg base N x (defScope st) f (.ref c) A outer s H E) (defBody st) t ∧ t { nx := fun _ H' => Q .non H', rt := Q } (L2.start N vs) H) : FnOk P w K mg base (L2.CX P w) (k + 1) f fd ps sp := by
  obtain ⟨oc, od, dV, kV, doc, pm, an, cdv, ct, osl, rfl, lk, hcd, _, _⟩ := F.ex
  obtain ⟨b, rfl⟩ := He.codeIn_ref hcd
  have e := hc oc od _ osl lk b rfl
  subst e
  exact fn_of lk hcd S len hb
theorem pe_globI {X : Cx} {x : Str} {i : Int} {pos : Pos} (hg : Gl X x) (hm : ∃ t, X.mg x = some (.int i t)) (hd : (x == ("__debug__" : Str)) = false := by decide) : PE X (.Name x pos) (tC (.int i)) := by
  obtain ⟨t, h⟩ := hm
  exact pe_glob hg h ⟨_, rfl⟩ hd
structure Defs (K : PySem.W.Frag) (mg : Str → Option Value) where
  f_is_number : Addr
  fd_is_number : FuncData
  F_is_number : FnP K "is_number" s_is_number f_is_number fd_is_number
  g_is_number : mg "is_number" = some (.ref f_is_number)
  b_is_number : Binds K fd_is_number ["thing"] []
  f_is_within : Addr
  fd_is_within : FuncData
  F_is_within : FnP K "is_within" s_is_within f_is_within fd_is_within
  g_is_within : mg "is_within" = some (.ref f_is_within)
  b_is_within : Binds K fd_is_within ["thing", "least", "greatest"] []
  f_is_bit : Addr
  fd_is_bit : FuncData
  F_is_bit : FnP K "is_bit" s_is_bit f_is_bit fd_is_bit
  g_is_bit : mg "is_bit" = some (.ref f_is_bit)
  b_is_bit : Binds K fd_is_bit ["thing"] []
  f_is_row : Addr
  fd_is_row : FuncData
  F_is_row : FnP K "is_row" s_is_row f_is_row fd_is_row
  g_is_row : mg "is_row" = some (.ref f_is_row)
  b_is_row : Binds K fd_is_row ["thing"] []
  f_refuse_unlike : Addr
  fd_refuse_unlike : FuncData
  F_refuse_unlike : FnP K "refuse_unlike" s_refuse_unlike f_refuse_unlike fd_refuse_unlike
  g_refuse_unlike : mg "refuse_unlike" = some (.ref f_refuse_unlike)
  b_refuse_unlike : Binds K fd_refuse_unlike ["rows"] []
  f_ones : Addr
  fd_ones : FuncData
  F_ones : FnP K "ones" s_ones f_ones fd_ones
  g_ones : mg "ones" = some (.ref f_ones)
  b_ones : Binds K fd_ones ["row"] []
  f_both : Addr
  fd_both : FuncData
  F_both : FnP K "both" s_both f_both fd_both
  g_both : mg "both" = some (.ref f_both)
  b_both : Binds K fd_both ["one", "other"] []
  f_overlap : Addr
  fd_overlap : FuncData
  F_overlap : FnP K "overlap" s_overlap f_overlap fd_overlap
  g_overlap : mg "overlap" = some (.ref f_overlap)
  b_overlap : Binds K fd_overlap ["one", "other"] []
  f_overlap_ends : Addr
  fd_overlap_ends : FuncData
  F_overlap_ends : FnP K "overlap_ends" s_overlap_ends f_overlap_ends fd_overlap_ends
  g_overlap_ends : mg "overlap_ends" = some (.ref f_overlap_ends)
  b_overlap_ends : Binds K fd_overlap_ends ["n", "a", "b"] []
  f_leaning_rows : Addr
  fd_leaning_rows : FuncData
  F_leaning_rows : FnP K "leaning_rows" s_leaning_rows f_leaning_rows fd_leaning_rows
  g_leaning_rows : mg "leaning_rows" = some (.ref f_leaning_rows)
  b_leaning_rows : Binds K fd_leaning_rows ["n", "a", "b", "met"] []
  f_shows_rows : Addr
  fd_shows_rows : FuncData
  F_shows_rows : FnP K "shows_rows" s_shows_rows f_shows_rows fd_shows_rows
  g_shows_rows : mg "shows_rows" = some (.ref f_shows_rows)
  b_shows_rows : Binds K fd_shows_rows ["n", "a", "b", "met", "thing"] []
  f__law_box : Addr
  fd__law_box : FuncData
  F__law_box : FnP K "_law_box" s__law_box f__law_box fd__law_box
  g__law_box : mg "_law_box" = some (.ref f__law_box)
  b__law_box : Binds K fd__law_box ["_law_script", "_law_k"] []
  f__law_take : Addr
  fd__law_take : FuncData
  F__law_take : FnP K "_law_take" s__law_take f__law_take fd__law_take
  g__law_take : mg "_law_take" = some (.ref f__law_take)
  b__law_take : Binds K fd__law_take ["_law_box_here", "_law_many"] []
  f__law_folded : Addr
  fd__law_folded : FuncData
  F__law_folded : FnP K "_law_folded" s__law_folded f__law_folded fd__law_folded
  g__law_folded : mg "_law_folded" = some (.ref f__law_folded)
  b__law_folded : Binds K fd__law_folded ["_law_script", "_law_many"] []
  f__law_told : Addr
  fd__law_told : FuncData
  F__law_told : FnP K "_law_told" s__law_told f__law_told fd__law_told
  g__law_told : mg "_law_told" = some (.ref f__law_told)
  b__law_told : Binds K fd__law_told ["_law_n", "_law_a", "_law_b", "_law_met"] []
  f__law_due : Addr
  fd__law_due : FuncData
  F__law_due : FnP K "_law_due" s__law_due f__law_due fd__law_due
  g__law_due : mg "_law_due" = some (.ref f__law_due)
  b__law_due : Binds K fd__law_due ["_law_n", "_law_a", "_law_b", "_law_met", "_law_thing"] []
  f__law_made : Addr
  fd__law_made : FuncData
  F__law_made : FnP K "_law_made" s__law_made f__law_made fd__law_made
  g__law_made : mg "_law_made" = some (.ref f__law_made)
  b__law_made : Binds K fd__law_made ["_law_box_here", "_law_n", "_law_a", "_law_b", "_law_met"] []
  f__law_otherwise : Addr
  fd__law_otherwise : FuncData
  F__law_otherwise : FnP K "_law_otherwise" s__law_otherwise f__law_otherwise fd__law_otherwise
  g__law_otherwise : mg "_law_otherwise" = some (.ref f__law_otherwise)
  b__law_otherwise : Binds K fd__law_otherwise ["_law_box_here", "_law_pair"] []
  f_law : Addr
  fd_law : FuncData
  F_law : FnP K "law" s_law f_law fd_law
  g_law : mg "law" = some (.ref f_law)
  b_law : Binds K fd_law ["_law_script"] []
  c_is_row : Addr
  P_is_row : Addr
  k_is_row : CodeAt K f_is_row c_is_row
  c_both : Addr
  P_both : Addr
  k_both : CodeAt K f_both c_both
  C_OnesError : Addr
  g_OnesError : mg "OnesError" = some (.ref C_OnesError)
  C_Unlike : Addr
  g_Unlike : mg "Unlike" = some (.ref C_Unlike)
  C_NoSuch : Addr
  g_NoSuch : mg "NoSuch" = some (.ref C_NoSuch)
  C_NoOne : Addr
  g_NoOne : mg "NoOne" = some (.ref C_NoOne)
  C_NoRound : Addr
  g_NoRound : mg "NoRound" = some (.ref C_NoRound)
  C_BadText : Addr
  g_BadText : mg "BadText" = some (.ref C_BadText)
  C_BadSheet : Addr
  g_BadSheet : mg "BadSheet" = some (.ref C_BadSheet)
  xi_NoSuch : PySem.W.excIn K C_NoSuch He.veBase "ValueError.__new__" = true
  xk_NoSuch : PySem.W.keepIn K (.ref C_NoSuch) = true
  xs_NoSuch : PySem.W.subIn K (.ref C_NoSuch) (.type "BaseException") = some true
  xt_NoSuch : PySem.W.typeIn K (.ref C_NoSuch) = some (.type "type")
  xc_NoSuch : ExcC K C_NoSuch
  xm_NoSuch : PySem.W.exmOne K (.ref C_NoSuch) (.ref C_OnesError) = some true
  xo_NoSuch_OnesError : PySem.W.kitOne K (.ref C_NoSuch) (.ref C_OnesError) = some true
  xo_NoSuch_Unlike : PySem.W.kitOne K (.ref C_NoSuch) (.ref C_Unlike) = some false
  xo_NoSuch_NoSuch : PySem.W.kitOne K (.ref C_NoSuch) (.ref C_NoSuch) = some true
  xo_NoSuch_NoOne : PySem.W.kitOne K (.ref C_NoSuch) (.ref C_NoOne) = some false
  xo_NoSuch_NoRound : PySem.W.kitOne K (.ref C_NoSuch) (.ref C_NoRound) = some false
  xo_NoSuch_BadText : PySem.W.kitOne K (.ref C_NoSuch) (.ref C_BadText) = some false
  xo_NoSuch_BadSheet : PySem.W.kitOne K (.ref C_NoSuch) (.ref C_BadSheet) = some false
  xv_NoSuch : PySem.W.kitOne K (.ref C_NoSuch) (.type "ValueError") = some true
  m_ValueError : mg "ValueError" = none
  m_abs : mg "abs" = none
  m_all : mg "all" = none
  m_any : mg "any" = none
  m_bool : mg "bool" = none
  m_divmod : mg "divmod" = none
  m_enumerate : mg "enumerate" = none
  m_int : mg "int" = none
  m_isinstance : mg "isinstance" = none
  m_len : mg "len" = none
  m_list : mg "list" = none
  m_max : mg "max" = none
  m_min : mg "min" = none
  m_range : mg "range" = none
  m_sum : mg "sum" = none
  m_tuple : mg "tuple" = none
  m_zip : mg "zip" = none
  i_LONGEST : ∃ t, mg "LONGEST" = some (.int 4096 t)
structure Tabs {K : PySem.W.Frag} {mg : Str → Option Value} (T : Defs K mg) (base : Heap) : Prop where
  t_is_row : GxR.TabB base mg T.c_is_row T.P_is_row
  t_both : GxR.TabB base mg T.c_both T.P_both
theorem bt_ValueError : bootBuiltins "ValueError" = some (.type "ValueError") := by decide +kernel
theorem bt_abs : bootBuiltins "abs" = some (.builtin "abs") := by decide +kernel
theorem bt_all : bootBuiltins "all" = some (.builtin "all") := by decide +kernel
theorem bt_any : bootBuiltins "any" = some (.builtin "any") := by decide +kernel
theorem bt_bool : bootBuiltins "bool" = some (.type "bool") := by decide +kernel
theorem bt_divmod : bootBuiltins "divmod" = some (.builtin "divmod") := by decide +kernel
theorem bt_enumerate : bootBuiltins "enumerate" = some (.type "enumerate") := by decide +kernel
theorem bt_int : bootBuiltins "int" = some (.type "int") := by decide +kernel
theorem bt_isinstance : bootBuiltins "isinstance" = some (.builtin "isinstance") := by decide +kernel
theorem bt_len : bootBuiltins "len" = some (.builtin "len") := by decide +kernel
theorem bt_list : bootBuiltins "list" = some (.type "list") := by decide +kernel
theorem bt_max : bootBuiltins "max" = some (.builtin "max") := by decide +kernel
theorem bt_min : bootBuiltins "min" = some (.builtin "min") := by decide +kernel
theorem bt_range : bootBuiltins "range" = some (.type "range") := by decide +kernel
theorem bt_sum : bootBuiltins "sum" = some (.builtin "sum") := by decide +kernel
theorem bt_tuple : bootBuiltins "tuple" = some (.type "tuple") := by decide +kernel
theorem bt_zip : bootBuiltins "zip" = some (.type "zip") := by decide +kernel
def frT (t b : Int) : Int := (b.sign * t) / (Int.gcd t b : Int)
def frB (t b : Int) : Int := (b.natAbs : Int) / (Int.gcd t b : Int)
theorem fr_ex (t : Int) {b : Int} (hb : b ≠ 0) : ∃ (g : Nat) (x y : Int), 0 < g ∧ Int.gcd t b = g ∧ t = (g : Int) * x ∧ b = (g : Int) * y ∧ y ≠ 0 ∧ Int.gcd x y = 1 := by
  have hg : 0 < Int.gcd t b := Int.gcd_pos_of_ne_zero_right t hb
  obtain ⟨x, hx⟩ := Int.gcd_dvd_left t b
  obtain ⟨y, hy⟩ := Int.gcd_dvd_right t b
  refine ⟨Int.gcd t b, x, y, hg, rfl, hx, hy, fun e => hb (by rw [hy, e, Int.mul_zero]), ?_⟩
  generalize eg : Int.gcd t b = g at hg hx hy
  have e : g = g * Int.gcd x y := by
    rw [← eg]
    conv => lhs; rw [hx, hy, Int.gcd_mul_left]
    rw [Int.natAbs_natCast, eg]
  exact Nat.eq_of_mul_eq_mul_left hg (by rw [← e, Nat.mul_one])
theorem sgn {b : Int} {g : Nat} {y : Int} (hg : 0 < g) (hb : b = (g : Int) * y) : b.sign = y.sign := by
  rw [hb, Int.sign_mul, Int.sign_eq_one_of_pos (by omega), Int.one_mul]
theorem fr_vals {t b : Int} {g : Nat} {x y : Int} (hg : 0 < g) (eg : Int.gcd t b = g) (ht : t = (g : Int) * x) (hb : b = (g : Int) * y) : frT t b = y.sign * x ∧ frB t b = (y.natAbs : Int) := by
  have g0 : (g : Int) ≠ 0 := by omega
  constructor
  · unfold frT
    rw [eg, sgn hg hb, ht, show y.sign * ((g : Int) * x) = (g : Int) * (y.sign * x) by rw [Int.mul_left_comm]]
    exact Int.mul_ediv_cancel_left _ g0
  · unfold frB
    rw [eg, hb, Int.natAbs_mul, Int.natAbs_natCast, Int.natCast_mul]
    exact Int.mul_ediv_cancel_left _ g0
theorem sgn_abs {y : Int} (hy : y ≠ 0) : y.sign.natAbs = 1 := Int.natAbs_sign_of_ne_zero hy
theorem fr_pos (t : Int) {b : Int} (hb : b ≠ 0) : 0 < frB t b := by
  obtain ⟨g, x, y, hg, eg, ht, hy, hy0, h1⟩ := fr_ex t hb
  rw [(fr_vals hg eg ht hy).2]
  omega
theorem fr_gcd (t : Int) {b : Int} (hb : b ≠ 0) : Int.gcd (frT t b) (frB t b) = 1 := by
  obtain ⟨g, x, y, hg, eg, ht, hy, hy0, h1⟩ := fr_ex t hb
  rw [(fr_vals hg eg ht hy).1, (fr_vals hg eg ht hy).2]
  show Nat.gcd (y.sign * x).natAbs ((y.natAbs : Int)).natAbs = 1
  rw [Int.natAbs_mul, sgn_abs hy0, Nat.one_mul, Int.natAbs_natCast]
  exact h1
theorem fr_eq (t : Int) {b : Int} (hb : b ≠ 0) : frT t b * b = t * frB t b := by
  obtain ⟨g, x, y, hg, eg, ht, hy, hy0, h1⟩ := fr_ex t hb
  rw [(fr_vals hg eg ht hy).1, (fr_vals hg eg ht hy).2]
  rw [ht, hy]
  have e : y * y.sign = (y.natAbs : Int) := Int.mul_sign_self y
  rw [← e]
  simp only [Int.mul_comm, Int.mul_left_comm, Int.mul_assoc]
theorem fr_absT (t : Int) {b : Int} (hb : b ≠ 0) : (frT t b).natAbs ≤ t.natAbs := by
  obtain ⟨g, x, y, hg, eg, ht, hy, hy0, h1⟩ := fr_ex t hb
  rw [(fr_vals hg eg ht hy).1, ht, Int.natAbs_mul, sgn_abs hy0, Nat.one_mul, Int.natAbs_mul, Int.natAbs_natCast]
  exact Nat.le_mul_of_pos_left _ hg
theorem fr_absB (t : Int) {b : Int} (hb : b ≠ 0) : (frB t b).natAbs ≤ b.natAbs := by
  obtain ⟨g, x, y, hg, eg, ht, hy, hy0, h1⟩ := fr_ex t hb
  rw [(fr_vals hg eg ht hy).2, hy, Int.natAbs_mul, Int.natAbs_natCast, Int.natAbs_natCast]
  exact Nat.le_mul_of_pos_left _ hg
theorem fr_negT (t b : Int) : frT (-t) (-b) = frT t b := by
  unfold frT
  rw [Int.sign_neg, Int.neg_mul_neg, Int.gcd_neg, Int.neg_gcd]
theorem fr_negB (t b : Int) : frB (-t) (-b) = frB t b := by
  unfold frB
  rw [Int.natAbs_neg, Int.gcd_neg, Int.neg_gcd]
/-- what the program's two ways reckon -/
theorem fd_pos {g : Nat} {x : Int} (hg : 0 < g) : ((g : Int) * x).fdiv (g : Int) = x := by
  rw [Int.fdiv_eq_ediv_of_nonneg _ (by omega)]
  exact Int.mul_ediv_cancel_left _ (by omega)
theorem fd_neg {g : Nat} {x : Int} (hg : 0 < g) : ((g : Int) * x).fdiv (-(g : Int)) = -x := by
  rw [show (g : Int) * x = -(g : Int) * (-x) by rw [Int.neg_mul_neg]]
  exact Int.mul_fdiv_cancel_left _ (by omega)
theorem fr_lt (t : Int) {b : Int} (hb : b < 0) : t.fdiv (-(Int.gcd t b : Int)) = frT t b ∧ b.fdiv (-(Int.gcd t b : Int)) = frB t b := by
  obtain ⟨g, x, y, hg, eg, ht, hy, hy0, h1⟩ := fr_ex t (show b ≠ 0 by omega)
  rw [(fr_vals hg eg ht hy).1, (fr_vals hg eg ht hy).2, eg]
  have yn : y < 0 := by
    rw [hy] at hb
    exact Int.neg_of_mul_neg_right hb (by omega)
  constructor
  · conv => lhs; rw [ht]
    rw [fd_neg hg, Int.sign_eq_neg_one_of_neg yn]
    omega
  · conv => lhs; rw [hy]
    rw [fd_neg hg]
    omega
theorem fr_ge (t : Int) {b : Int} (hb : 0 < b) : t.fdiv (Int.gcd t b : Int) = frT t b ∧ b.fdiv (Int.gcd t b : Int) = frB t b := by
  obtain ⟨g, x, y, hg, eg, ht, hy, hy0, h1⟩ := fr_ex t (show b ≠ 0 by omega)
  rw [(fr_vals hg eg ht hy).1, (fr_vals hg eg ht hy).2, eg]
  have yn : 0 < y := by
    rw [hy] at hb
    exact Int.pos_of_mul_pos_right hb (by omega)
  constructor
  · conv => lhs; rw [ht]
    rw [fd_pos hg, Int.sign_eq_one_of_pos yn]
    omega
  · conv => lhs; rw [hy]
    rw [fd_pos hg]
    omega
/-! sizes -/
def S (n : Nat) (x : Int) : Prop := x.natAbs < 2 ^ n
theorem S.mono {n m : Nat} {x : Int} (h : S n x) (l : n ≤ m) : S m x := Nat.lt_of_lt_of_le h (Nat.pow_le_pow_right (by decide) l)
theorem S.mul {n m : Nat} {x y : Int} (h : S n x) (k : S m y) : S (n + m) (x * y) := by
  unfold S at *
  rw [Int.natAbs_mul, Nat.pow_add]
  exact Nat.mul_lt_mul'' h k
theorem S.add {n : Nat} {x y : Int} (h : S n x) (k : S n y) : S (n + 1) (x + y) := by
  unfold S at *
  rw [Nat.pow_succ]
  omega
theorem S.sub {n : Nat} {x y : Int} (h : S n x) (k : S n y) : S (n + 1) (x - y) := by
  unfold S at *
  rw [Nat.pow_succ]
  omega
theorem S.frT {n : Nat} {t b : Int} (h : S n t) (hb : b ≠ 0) : S n (frT t b) := Nat.lt_of_le_of_lt (fr_absT t hb) h
theorem S.frB {n : Nat} {t b : Int} (h : S n b) (hb : b ≠ 0) : S n (frB t b) := Nat.lt_of_le_of_lt (fr_absB t hb) h
theorem abs_eq (i : Int) : (if i < 0 then -i else i) = (i.natAbs : Int) := by
  split <;> omega
/-! the same rules with the written part by its name: for the inside of comprehensions -/
theorem pg_tupK {X : Cx} {K : PySem.W.Frag} {es : List Expr} {k n : Nat} {pos : Pos} {t : TGs} (h : X.K = K) (hc : X.calm = true) (hg : PGs X es t) (hn : (assignEach es X.env).length = n := by rfl) (hst : (assignEach es X.env).findIdx? (·.1) = none := by rfl) : PG X (.Tuple es k pos) (gTup K n t) := by
  subst h
  exact pg_tup hc hg hn hst
theorem isiK {X : Cx} {K : PySem.W.Frag} (h : X.K = K) : CallR X (.builtin "isinstance") (rIsi K) := by
  subst h
  exact call_isi
theorem ixlK {X : Cx} {K : PySem.W.Frag} (h : X.K = K) : IxR X (rIxL K) := by
  subst h
  exact ix_list
theorem ixtK {X : Cx} {K : PySem.W.Frag} (h : X.K = K) : IxR X (rIxT K) := by
  subst h
  exact ix_tup
theorem lenK {X : Cx} {K : PySem.W.Frag} (h : X.K = K) : CallR X (.builtin "len") (fun xs H Q => ∃ p ys, xs = [.ref p] ∧ (SqL K H p ys ∨ SqT K H p ys) ∧ Q (.int ys.length) H) := by
  subst h
  exact call_len_seq
theorem sumK {X : Cx} {K : PySem.W.Frag} (h : X.K = K) (hc : X.calm = true) : CallR X (.builtin "sum") (rSum K) := by
  subst h
  exact cr_sum hc
theorem yes_ite {σ : L2.St} {H : Hp} {A B : Hp → Prop} (h : A H) : tYes σ H (fun b H3 => if b = true then A H3 else B H3) := by
  show if true = true then A H else B H
  rw [if_pos rfl]
  exact h
/-! heaps -/
theorem same_upd {H : Hp} {p : Addr} {o : HO} (h : H p = none) : Same H (upd H p o) := fun b x e => by
  rw [upd_ne (ne_of_none e h)]
  exact e
def But (p : Addr) (H H' : Hp) : Prop := ∀ b o, b ≠ p → H b = some o → H' b = some o
theorem But.trans {p : Addr} {H H1 H2 : Hp} (a : But p H H1) (b : But p H1 H2) : But p H H2 := fun c o n e => b c o n (a c o n e)
theorem But.refl (p : Addr) (H : Hp) : But p H H := fun _ _ _ e => e
theorem But.put {p : Addr} {H H' : Hp} {o : HO} (a : But p H H') : But p H (L2.upd H' p o) := fun c x n e => by
  rw [upd_ne n]
  exact a c x n e
theorem same_but {p : Addr} {H H' : Hp} (a : Same H H') : But p H H' := fun c x _ e => a c x e
theorem But.new {p q : Addr} {H H' : Hp} {o : HO} (a : But p H H') (n : H' q = none) : But p H (upd H' q o) := fun c x hn e => by
  have e2 := a c x hn e
  rw [upd_ne (ne_of_none e2 n)]
  exact e2
/-- objects made since H may change: what H has stays -/
theorem same_newer {H H' : Hp} {q : Addr} {o : HO} (a : Same H H') (n : H q = none) : Same H (upd H' q o) := fun c x e => by
  rw [upd_ne (ne_of_none e n)]
  exact a c x e
theorem But.same {p : Addr} {H H1 H2 : Hp} (n : H p = none) (a : Same H H1) (b : But p H1 H2) : Same H H2 := fun c x e =>
  b c x (ne_of_none e n) (a c x e)
/-- the box: a rest, a begin, how often -/
def Bx (H : Hp) (p : Addr) (n : Nat) : Prop := ∃ a b c : Int, H p = some (.lst [.int a, .int b, .int c]) ∧ 0 ≤ a ∧ 0 ≤ b ∧ b < 2147483647 ∧ 0 ≤ c ∧ c ≤ n
theorem Bx.same {H H' : Hp} {p : Addr} {n : Nat} (h : Bx H p n) (s : Same H H') : Bx H' p n := by
  obtain ⟨a, b, c, hp, r⟩ := h
  exact ⟨a, b, c, s _ _ hp, r⟩
theorem Bx.mono {H : Hp} {p : Addr} {n m : Nat} (h : Bx H p n) (l : n ≤ m) : Bx H p m := by
  obtain ⟨a, b, c, hp, h1, h2, h3, h4, h5⟩ := h
  exact ⟨a, b, c, hp, h1, h2, h3, h4, by omega⟩
theorem Bx.new {H : Hp} {p q : Addr} {n : Nat} {o : HO} (h : Bx H p n) (nq : H q = none) : Bx (L2.upd H q o) p n := h.same (same_upd nq)
theorem Bx.ne_tup {H : Hp} {p q : Addr} {n : Nat} {xs : List V} (h : Bx H p n) (e : H q = some (.tup xs)) : q ≠ p := by
  obtain ⟨a, b, c, hp, _⟩ := h
  exact ne_of e hp (fun z => by cases z)
/-- an item of a menu of numbers -/
theorem at_menu {Pr : Int → Prop} {xs : List Int} {r : Int} (h0 : 0 ≤ r) (h1 : r < xs.length) (hx : ∀ x, x ∈ xs → Pr x) : ∃ v, atI (xs.map V.int) r = some (V.int v) ∧ Pr v := by
  obtain ⟨j, rfl⟩ := Int.eq_ofNat_of_zero_le h0
  have hj : j < xs.length := by omega
  refine ⟨xs[j], atI_nat (by rw [List.getElem?_map, List.getElem?_eq_getElem hj]; rfl), hx _ (List.getElem_mem hj)⟩
theorem SqL.mk {K : PySem.W.Frag} {H : Hp} {a : Addr} {xs : List V} (h : H a = some (.lst xs)) : SqL K H a xs := .inl (.inl h)
theorem SqT.mk {K : PySem.W.Frag} {H : Hp} {a : Addr} {xs : List V} (h : H a = some (.tup xs)) : SqT K H a xs := .inl (.inl h)
theorem same_tup {K : PySem.W.Frag} {H H' : Hp} {a : Addr} {xs : List V} (e : Same H H') (h : SqT K H a xs) : SqT K H' a xs := by
  rcases h with (h | ⟨o, h⟩) | h
  · exact .inl (.inl (e _ _ h))
  · exact .inl (.inr ⟨o, e _ _ h⟩)
  · exact .inr h
theorem ixn {n j : Nat} (hj : j < n) : ixN n (j : Int) = some j := by
  unfold ixN
  rw [if_pos (by omega), if_pos (by omega)]
  simp
theorem cdivP {a m : Int} (h0 : 0 < m) (h1 : m < 2 ^ 60) : CDivP a m := ⟨h0, PyProof.noPylong_of_log2 (wide_div (i := a) (b := 60) h0 (by omega) (by decide) (by decide)).2⟩
theorem i01 {c : Prop} [Decidable c] : -(2 ^ 64) < (if c then (1 : Int) else 0) ∧ (if c then (1 : Int) else 0) < 2 ^ 64 := by
  split <;> decide
theorem i01n {c : Prop} [Decidable c] : 0 ≤ (if c then (1 : Int) else 0) := by
  split <;> decide
theorem absn (i : Int) : 0 ≤ (if i < 0 then -i else i) := by
  split <;> omega
/-! the box of a cell -/
def sp__law_box (K : PySem.W.Frag) : Sp := fun vs H Q _ => ∃ (a : Addr) (ns : List Int) (k : Nat), vs = [.ref a, .int (k : Nat)] ∧ SqL K H a (ns.map V.int) ∧ k < 1000 ∧
  ∀ H' p, Same H H' → H p = none → Bx H' p 0 → Q (.ref p) H'
theorem ok__law_box (T : Defs K mg) (TT : Tabs T base) : FnOk P w K mg base CX0 1 T.f__law_box T.fd__law_box ["_law_script", "_law_k"] (sp__law_box K) := by
  refine T.F__law_box.ok sc__law_box (fun vs H Q E h => ?_) (fun cdv A outer s H vs Q E hr h => ?_)
  · obtain ⟨a, ns, k, rfl, hS, hk, q⟩ := h
    rfl
  · obtain ⟨a, ns, k, rfl, hS, hk, q⟩ := h
    refine ⟨_, PSs.nox (pss_cons (ps_set (i := 2) sc__law_box.nd rfl (.inl rfl) pe_int)
    (pss_cons (ps_if (pt_cmpR op_lt (pv 1) (pe_callB call_len_seq (by rfl) T.m_len bt_len (pa_cons (pv 0) pa_nil)) (nomark _)) (pss_one (ps_set (i := 2) sc__law_box.nd rfl (.inl rfl) (pe_ix ix_list (pv 0) (pv 1) (fun _ _ => rfl)))) pss_nil)
    (pss_one (ps_ret (pe_lst (pa_cons (pe_op op_mul (pe_callB call_abs (by rfl) T.m_abs bt_abs (pa_cons (pv 2) pa_nil)) (pe_callTy call_int1 (by rfl) T.m_int bt_int (pa_cons (pe_cmpR op_ge (pe_callB call_abs (by rfl) T.m_abs bt_abs (pa_cons (pv 2) pa_nil)) (pe_op op_pow pe_int pe_int) (nomark _)) pa_nil))) (pa_cons (pe_op op_mod (pe_op op_add (pv 2) (pe_op op_mul (pe_op op_mul pe_int (pv 1)) (pv 1))) pe_int) (pa_cons pe_int pa_nil)))))))), ?_⟩
    refine ⟨.int k, rfl, .ref a, rfl, a, _, rfl, .inl hS, _, _, rfl, rfl, _, rfl, ite2 (fun e => ?_) (fun e => ?_)⟩
    · have hl : (k : Int) < ((ns.map V.int).length : Nat) := of_decide_eq_true e
      rw [List.length_map] at hl
      have hj : k < ns.length := by omega
      refine ⟨.ref a, rfl, .int k, rfl, a, _, _, .int ns[k], rfl, rfl, hS, atI_nat (by rw [List.getElem?_map, List.getElem?_eq_getElem hj]; rfl), ?_⟩
      refine ⟨_, rfl, _, rfl, _, rfl, _, rfl, _, _, rfl, rfl, ⟨by decide, by decide, by decide⟩, _, _, rfl, rfl, .inr ⟨_, rfl, _, _, rfl, rfl, .inr i01, _, rfl, .int k, rfl, _, _, rfl, rfl, .inl ⟨by decide, by decide⟩, .int k, rfl, _, _, rfl, rfl, .inr ⟨by omega, by omega⟩, _, _, rfl, rfl, _, _, rfl, rfl, (show (0 : Int) < 2147483647 by decide), (show 3 ≤ sizeLine by decide), fun p np => ?_⟩⟩
      refine q _ p (same_upd np) np ⟨_, _, _, upd_same, ?_, Int.emod_nonneg _ (by decide), Int.emod_lt_of_pos _ (by decide), Int.le_refl 0, Int.le_refl 0⟩
      exact Int.mul_nonneg (absn _) i01n
    · refine ⟨_, rfl, _, rfl, _, rfl, _, rfl, _, _, rfl, rfl, ⟨by decide, by decide, by decide⟩, _, _, rfl, rfl, .inr ⟨_, rfl, _, _, rfl, rfl, .inr i01, _, rfl, .int k, rfl, _, _, rfl, rfl, .inl ⟨by decide, by decide⟩, .int k, rfl, _, _, rfl, rfl, .inr ⟨by omega, by omega⟩, _, _, rfl, rfl, _, _, rfl, rfl, (show (0 : Int) < 2147483647 by decide), (show 3 ≤ sizeLine by decide), fun p np => ?_⟩⟩
      refine q _ p (same_upd np) np ⟨_, _, _, upd_same, ?_, Int.emod_nonneg _ (by decide), Int.emod_lt_of_pos _ (by decide), Int.le_refl 0, Int.le_refl 0⟩
      exact Int.mul_nonneg (absn _) i01n
/-! one number taken -/
def sp__law_take (K : PySem.W.Frag) : Sp := fun vs H Q _ => ∃ (p : Addr) (m : Int) (n : Nat), vs = [.ref p, .int m] ∧ Bx H p n ∧ 0 < m ∧ m < 2 ^ 60 ∧ n < 1000000000000 ∧
  ∀ H' r, But p H H' → Bx H' p (n + 1) → 0 ≤ r → r < m → Q (.int r) H'
theorem ok__law_take (T : Defs K mg) (TT : Tabs T base) : FnOk P w K mg base CX0 1 T.f__law_take T.fd__law_take ["_law_box_here", "_law_many"] (sp__law_take K) := by
  refine T.F__law_take.ok sc__law_take (fun vs H Q E h => ?_) (fun cdv A outer s H vs Q E hr h => ?_)
  · obtain ⟨p, m, n, rfl, ⟨a, b, c, hp, ha, hb, hb2, hc, hc2⟩, h0, h1, hn, q⟩ := h
    rfl
  · obtain ⟨p, m, n, rfl, ⟨a, b, c, hp, ha, hb, hb2, hc, hc2⟩, h0, h1, hn, q⟩ := h
    refine ⟨_, PSs.nox (pss_cons (ps_if (pt_cmpR op_gt (pe_ix ix_list (pv 0) pe_int (fun _ _ => rfl)) pe_int (nomark _)) (pss_cons (ps_asg (pe_callB call_divmodW (by rfl) T.m_divmod bt_divmod (pa_cons (pe_ix ix_list (pv 0) pe_int (fun _ _ => rfl)) (pa_cons (pv 1) pa_nil))) (pg_tup rfl (pgs_cons (pg_sub (pv 0) pe_int set_list) (pgs_cons (pg_name (i := 2) sc__law_take.nd rfl (.inl rfl)) pgs_nil))))
    (pss_one (ps_ret (pv 2)))) pss_nil)
    (pss_cons (ps_asg (pe_op op_add (pe_ix ix_list (pv 0) pe_int (fun _ _ => rfl)) pe_int) (pg_sub (pv 0) pe_int set_list))
    (pss_cons (ps_set (i := 3) sc__law_take.nd rfl (.inl rfl) (pe_op op_mod (pe_op op_pow (pe_op op_add (pe_ix ix_list (pv 0) pe_int (fun _ _ => rfl)) (pe_op op_mul pe_int (pe_ix ix_list (pv 0) pe_int (fun _ _ => rfl)))) pe_int) pe_int))
    (pss_one (ps_ret (pe_op op_mod (pe_op op_fdiv (pe_op op_mod (pe_op op_add (pe_op op_mul (pv 3) pe_int) (pe_op op_mul (pe_op op_mul (pe_ix ix_list (pv 0) pe_int (fun _ _ => rfl)) (pe_ix ix_list (pv 0) pe_int (fun _ _ => rfl))) pe_int)) pe_int) pe_int) (pv 1))))))), ?_⟩
    have SQ : SqL K H p [.int a, .int b, .int c] := SqL.mk hp
    refine ⟨.ref p, rfl, p, _, 0, _, rfl, rfl, SQ, atI_nat (j := 0) rfl, _, _, rfl, rfl, _, rfl, ite2 (fun e => ?_) (fun e => ?_)⟩
    · refine ⟨.ref p, rfl, p, _, 0, _, rfl, rfl, SQ, atI_nat (j := 0) rfl, .int m, rfl, a, m, rfl, cdivP h0 h1, fun t nt => ?_⟩
      have hp1 : (upd H t (.tup [.int (a / m), .int (a % m)])) p = some (.lst [.int a, .int b, .int c]) := by
        rw [upd_ne (ne_of_none hp nt)]
        exact hp
      refine ⟨t, _, rfl, SqT.mk upd_same, rfl, _, _, rfl, .ref p, rfl, p, _, 0, 0, rfl, rfl, hp1, rfl, _, _, rfl, rfl, _, rfl, ?_⟩
      refine q _ _ ((But.refl p H).new nt).put ⟨_, _, _, upd_same, Int.ediv_nonneg ha (by omega), hb, hb2, hc, by omega⟩ (Int.emod_nonneg _ (by omega)) (Int.emod_lt_of_pos _ h0)
    · refine ⟨.ref p, rfl, p, _, 2, _, rfl, rfl, SQ, atI_nat (j := 2) rfl, _, _, rfl, rfl, .ref p, rfl, p, _, 2, 2, rfl, rfl, hp, rfl, ?_⟩
      have SQ1 : SqL K (upd H p (.lst [.int a, .int b, .int (c + 1)])) p [.int a, .int b, .int (c + 1)] := SqL.mk upd_same
      refine ⟨.ref p, rfl, p, _, 1, _, rfl, rfl, SQ1, atI_nat (j := 1) rfl, .ref p, rfl, p, _, 2, _, rfl, rfl, SQ1, atI_nat (j := 2) rfl, _, _, rfl, rfl, .inl ⟨by decide, by decide⟩, _, _, rfl, rfl, _, _, rfl, rfl, ⟨by decide, by decide, by omega⟩, _, _, rfl, rfl, (show (0 : Int) < 2147483647 by decide), ?_⟩
      refine ⟨_, rfl, _, _, rfl, rfl, .inr ⟨by decide, by decide⟩, .ref p, rfl, p, _, 2, _, rfl, rfl, SQ1, atI_nat (j := 2) rfl, .ref p, rfl, p, _, 2, _, rfl, rfl, SQ1, atI_nat (j := 2) rfl, _, _, rfl, rfl, .inl ⟨by omega, by omega⟩, _, _, rfl, rfl, .inr ⟨by decide, by decide⟩, _, _, rfl, rfl, _, _, rfl, rfl, (show (0 : Int) < 2147483629 by decide), _, _, rfl, rfl, ⟨by decide, by decide⟩, .int m, rfl, _, _, rfl, rfl, h0, ?_⟩
      refine q _ _ (But.refl p H).put ⟨_, _, _, upd_same, ha, hb, hb2, by omega, by omega⟩ (Int.emod_nonneg _ (by omega)) (Int.emod_lt_of_pos _ h0)
/-! the folded cells -/
theorem cut_take (ns : List Int) (m : Nat) : cutV (ns.map V.int) none (some (m : Int)) = (ns.take m).map V.int := by
  unfold cutV
  rw [HT.sIx_none, HT.sIx_nat, List.drop_zero, List.length_map, Nat.sub_zero, ← List.map_take]
  congr 1
  by_cases h : m ≤ ns.length
  · rw [Nat.min_eq_left h]
  · rw [Nat.min_eq_right (by omega), List.take_length, List.take_of_length_le (by omega)]
theorem cut_rest (ns : List Int) (m k : Nat) : ∃ ms : List Int, cutV (ns.map V.int) (some (m : Int)) (some (k : Int)) = ms.map V.int ∧ (0 < ms.length → m < ns.length) ∧ ms.length ≤ ns.length := by
  unfold cutV
  rw [HT.sIx_nat, HT.sIx_nat, List.length_map]
  refine ⟨(ns.drop (min m ns.length)).take (min k ns.length - min m ns.length), ?_, fun h => ?_, ?_⟩
  · rw [List.map_take, List.map_drop]
  · rw [List.length_take, List.length_drop] at h
    omega
  · rw [List.length_take, List.length_drop]
    omega
def sp__law_folded (K : PySem.W.Frag) : Sp := fun vs H Q _ => ∃ (a : Addr) (ns : List Int) (m : Nat), vs = [.ref a, .int (m : Nat)] ∧ SqL K H a (ns.map V.int) ∧ ns.length ≤ 63 ∧ 0 < m ∧ m < 64 ∧
  ∀ H' p (cs : List Int), Same H H' → H p = none → H' p = some (.lst (cs.map V.int)) → cs.length ≤ m → Q (.ref p) H'
theorem ok__law_folded (T : Defs K mg) (TT : Tabs T base) : FnOk P w K mg base CX0 1 T.f__law_folded T.fd__law_folded ["_law_script", "_law_many"] (sp__law_folded K) := by
  refine T.F__law_folded.ok sc__law_folded (fun vs H Q E h => ?_) (fun cdv A outer s H vs Q E hr h => ?_)
  · obtain ⟨a, ns, m, rfl, hS, hlen, hm, hm2, q⟩ := h
    rfl
  · obtain ⟨a, ns, m, rfl, hS, hlen, hm, hm2, q⟩ := h
    refine ⟨_, PSs.nox (pss_cons (ps_set (i := 2) sc__law_folded.nd rfl (.inl rfl) (pe_callTy call_list_of (by rfl) T.m_list bt_list (pa_cons (pe_slice sl_list (pv 0) po_none (po_some (pv 1))) pa_nil)))
    (pss_cons ((ps_for PassesOwn.never rfl (pi_enum (by rfl) T.m_enumerate (pa_cons (pe_slice sl_list (pv 0) (po_some (pv 1)) (po_some pe_int)) pa_nil)) (pg_tup rfl (pgs_cons (pg_name (i := 3) sc__law_folded.nd rfl (.inl rfl)) (pgs_cons (pg_name (i := 4) sc__law_folded.nd rfl (.inl rfl)) pgs_nil))) (pss_one (ps_asg (pe_op op_add (pe_ix ix_list (pv 2) (pe_op op_mod (pv 3) (pv 1)) (fun _ _ => rfl)) (pe_op op_mul (pv 4) (pe_op op_add (pv 3) pe_int))) (pg_sub (pv 2) (pe_op op_mod (pv 3) (pv 1)) set_list)))))
    (pss_one (ps_ret (pv 2))))), ?_⟩
    refine ⟨.ref a, rfl, .int m, rfl, m, rfl, a, _, rfl, hS, fun c nc => ?_⟩
    rw [cut_take]
    have s1 : Same H (upd H c (.lst ((ns.take m).map V.int))) := same_upd nc
    refine ⟨c, _, rfl, .inl (SqL.mk upd_same), fun l nl => ?_⟩
    have s2 := s1.trans (same_upd nl (o := .lst ((ns.take m).map V.int)))
    refine ⟨.ref a, rfl, .int m, rfl, m, rfl, 63, rfl, a, _, rfl, s2.seq hS, fun d nd => ?_⟩
    obtain ⟨ms, em, hms, hms2⟩ := cut_rest ns m 63
    rw [show (63 : Int) = ((63 : Nat) : Int) from rfl, em]
    have nl0 : H l = none := s1.free nl
    have nd0 : H d = none := s2.free nd
    have ndl : l ≠ d := fun e => by
      rw [← e, upd_same] at nd
      cases nd
    refine ⟨d, _, rfl, SqL.mk upd_same, for_it (walk_enum (xs := ms.map V.int)) (fun i σ H3 => ∃ y3 y4, ∃ cs : List Int, σ = [some (.ref a), some (.int m), some (.ref l), y3, y4] ∧ Same H H3 ∧ H3 l = some (.lst (cs.map V.int)) ∧ cs.length = (ns.take m).length ∧ H3 d = some (.lst (ms.map V.int))) ⟨none, none, ns.take m, rfl, s2.trans (same_upd nd), ?_, rfl, upd_same⟩ ?_ ?_ ?_⟩
    · rw [upd_ne ndl, upd_same]
    · rintro i σ H3 hi ⟨y3, y4, cs, rfl, s3, hl, hc, hd⟩
      exact SqL.mk hd
    · rintro i x σ H3 H4 hi ⟨y3, y4, cs, rfl, s3, hl, hc, hd⟩ ⟨t, x1, x2, rfl, nt, rfl, e1, e2⟩
      rw [List.length_map] at hi
      have lm : m < ns.length := hms (by omega)
      have lc : cs.length = m := by
        rw [hc, List.length_take]
        omega
      have ex1 : x1 = .int (i : Nat) := (Option.some.inj e1).symm
      have ex2 : x2 = .int ms[i] := by
        have e2 : (ms.map V.int)[i]? = some x2 := e2
        rw [List.getElem?_map, List.getElem?_eq_getElem hi] at e2
        exact (Option.some.inj e2).symm
      subst ex1 ex2
      have hl1 : (upd H3 t (.tup [.int (i : Nat), .int ms[i]])) l = some (.lst (cs.map V.int)) := by
        rw [upd_ne (ne_of_none hl nt)]
        exact hl
      have him : i % m < cs.length := by
        rw [lc]
        exact Nat.mod_lt _ hm
      have eim : ((i : Int) % (m : Int)) = ((i % m : Nat) : Int) := by omega
      refine ⟨t, _, rfl, SqT.mk upd_same, rfl, _, _, rfl, _, _, rfl, rfl, ?_⟩
      refine ⟨.ref l, rfl, .int (i : Nat), rfl, .int m, rfl, _, _, rfl, rfl, (show (0 : Int) < (m : Int) by omega), l, _, _, .int cs[i % m], rfl, rfl, SqL.mk hl1, ?_, .int ms[i], rfl, .int (i : Nat), rfl, _, _, rfl, rfl, _, _, rfl, rfl, .inr ⟨by omega, by omega⟩, _, _, rfl, rfl, .ref l, rfl, .int (i : Nat), rfl, .int m, rfl, _, _, rfl, rfl, (show (0 : Int) < (m : Int) by omega), l, _, _, i % m, rfl, rfl, hl1, ?_, ?_⟩
      · rw [eim]
        exact atI_nat (by rw [List.getElem?_map, List.getElem?_eq_getElem him]; rfl)
      · rw [eim]
        exact ixn (by rw [List.length_map]; exact him)
      · refine ⟨_, _, cs.set (i % m) (cs[i % m] + ms[i] * ((i : Int) + 2)), rfl, same_newer (s3.trans (same_upd nt)) nl0, ?_, by rw [List.length_set, hc], ?_⟩
        · rw [upd_same, List.map_set]
        · rw [upd_ne ndl.symm, upd_ne (ne_of_none hd nt)]
          exact hd
    · rintro σ H3 ⟨y3, y4, cs, rfl, s3, hl, hc, hd⟩
      exact ⟨.ref l, rfl, q H3 l cs s3 nl0 hl (by rw [hc, List.length_take]; omega)⟩
/-- a tuple, or one of which the very object is known -/
def tupO : Option Obj → List V → HO
  | none, xs => .tup xs
  | some o, xs => .frz o (.tup xs)
theorem SqO {K : PySem.W.Frag} {H : Hp} {a : Addr} {ob : Option Obj} {xs : List V} (h : H a = some (tupO ob xs)) : SqT K H a xs := by
  cases ob with
  | none => exact SqT.mk h
  | some o => exact .inl (.inr ⟨o, h⟩)
def TupO (H : Hp) (a : Addr) (xs : List V) : Prop := ∃ ob, H a = some (tupO ob xs)
theorem TupO.sq {K : PySem.W.Frag} {H : Hp} {a : Addr} {xs : List V} (h : TupO H a xs) : SqT K H a xs := by
  obtain ⟨ob, e⟩ := h
  exact SqO e
theorem TupO.mk {H : Hp} {a : Addr} {xs : List V} (h : H a = some (.tup xs)) : TupO H a xs := ⟨none, h⟩
theorem TupO.same {H G : Hp} {a : Addr} {xs : List V} (h : TupO H a xs) (s : Same H G) : TupO G a xs := by
  obtain ⟨ob, e⟩ := h
  exact ⟨ob, s _ _ e⟩
theorem tupO_ne {ob : Option Obj} {xs : List V} {o : HO} (h1 : ∀ ys, o ≠ .tup ys) (h2 : ∀ b x, o ≠ .frz b x) : tupO ob xs ≠ o := by
  cases ob with
  | none => exact fun z => h1 _ z.symm
  | some b => exact fun z => h2 _ _ z.symm
theorem TupO.ne {H : Hp} {a b : Addr} {xs : List V} {o : HO} (h : TupO H a xs) (e : H b = some o) (h1 : ∀ ys, o ≠ .tup ys) (h2 : ∀ b x, o ≠ .frz b x) : a ≠ b := by
  obtain ⟨ob, ea⟩ := h
  exact ne_of ea e (tupO_ne h1 h2)
/-- a tuple whose object is known, and has no dict -/
def FzT (H : Hp) (a : Addr) (xs : List V) : Prop := ∃ ob : Obj, ob.dict = none ∧ ob.cls = .type "tuple" ∧ H a = some (tupO (some ob) xs)
theorem FzT.o {H : Hp} {a : Addr} {xs : List V} (h : FzT H a xs) : TupO H a xs := by
  obtain ⟨ob, _, _, e⟩ := h
  exact ⟨some ob, e⟩
theorem FzT.same {H G : Hp} {a : Addr} {xs : List V} (h : FzT H a xs) (s : Same H G) : FzT G a xs := by
  obtain ⟨ob, h1, h2, e⟩ := h
  exact ⟨ob, h1, h2, s _ _ e⟩
/-! generator expressions: the walked thing, the element, the generator at hand -/
def SrcOk (X : Cx) (P : Addr) (s1 : Shared) (xv : Value) (n : Nat) (Pf : Nat → Value → Prop) : Prop :=
  ∃ (o : Obj) (aux : List Addr) (Z : Nat → Heap → Prop),
    (∀ Q : Value → Shared → Prop, Q (.ref s1.heap.objs.size) { s1 with heap := s1.heap.push o } → wpAny (model X.prog X.w) X.A (pyIter xv) Q X.xe s1) ∧
    (∀ b ∈ aux, b < s1.heap.objs.size ∧ b ≠ P) ∧
    (∀ B : Around, B.handled = none → Walks X.prog X.w B s1.heap.objs.size (s1.heap.objs.size :: aux) [s1.heap.objs.size] n Pf Z) ∧ Z 0 (s1.heap.push o)
def EltOk (X : Cx) (P : Addr) (scope : Scope) (x : Str) (elt : Expr) (s1 : Shared) (Pf F : Nat → Value → Prop) : Prop :=
  ∀ (cenv : Env) (B : Around) (E2 : Value → Shared → Prop) (i : Nat) (v : Value) (s2 : Shared) (m2 : Str → Option Value), cenv.scope = scope → cenv.cells = cloFrom X.env.cells scope.names [] → cenv.globals = X.env.globals → cenv.builtins = builtinsNs →
    B.handled = none → Pf i v → s2.heap.Ns cenv.locals m2 → m2 x = some v → (∀ b o, b ≠ P → s1.heap.get? b = some o → s2.heap.get? b = some o) →
    wpAny (model X.prog X.w) B (eval elt cenv) (fun y s3 => F i y ∧ Keeps s2 s3) E2 s2
def AtHand (X : Cx) (pins : List (Addr × Obj)) (σ : L2.St) (H1 : Hp) (P : Addr) (n : Nat) (F : Nat → Value → Prop) (g : Addr) (s5 : Shared) : Prop :=
  ∃ (fp wr : List Addr) (G : Array GenState → Array GenState → Prop) (F' : Nat → Value → Prop) (Z : Nat → Shared → Prop),
    WalksS X.prog X.w X.A.in4 g fp wr G n F' Z ∧ (∀ j v, F' j v → F j v) ∧ Z 0 s5 ∧ (∀ b ∈ fp, b < s5.heap.objs.size) ∧ g ∈ fp ∧ (∀ i s9, Z i s9 → s9.TypeIs (.ref g) "generator") ∧
    ∀ s', Moved wr G s5 s' → ∃ H2, GxR.Tabbed P H1 H2 ∧ Inv X pins σ H2 s'
theorem gen_one {X : Cx} {pins : List (Addr × Obj)} {σ : L2.St} {s : Shared} {c P : Addr} {elt iter : Expr} {x : Str} {px gpos : Pos} {scope : Scope} {k : Nat} {W : Value → Shared → Prop}
    (hr : Room k X.A) (TB : GxR.TabB X.base X.mg c P) (hcode : X.env.code = .ref c) (S : GxR.GenS X.env scope x) (hs : ∀ v, genFold iter X.env v = pure v)
    (h : wpAny (model X.prog X.w) X.A (eval iter X.env) (fun xv s1 => ∃ (H1 : Hp) (ps : Array Value) (n : Nat) (Pf F : Nat → Value → Prop), Inv X pins σ H1 s1 ∧ H1 P = some (.tbl ps) ∧ TriplesOk ps.toList ∧ SrcOk X P s1 xv n Pf ∧
      EltOk X P scope x elt s1 Pf F ∧ ∀ g s5, AtHand X pins σ H1 P n F g s5 → W (.ref g) s5) X.xe s) :
    wpAny (model X.prog X.w) X.A (eval (.GeneratorExp elt [⟨.Name x px, iter, [], 0⟩] scope gpos) X.env) W X.xe s := by
  have deep := hr.dp
  refine wpAny_GeneratorExp_walksQ hr.hd S.co (closure_ok S.free) S.cell S.dot S.loc S.kind (by omega) (wpAny_mono h (fun xv s1 z => ?_) fun _ _ e => e) hs
  obtain ⟨H1, ps, n, Pf, F, J1, hP, trip, ⟨o, aux, Z, go, hau, wk, z0⟩, hel, fin⟩ := z
  refine go _ ?_
  have hPs : s1.heap.get? P = some { cls := .none, data := .fields ps } := J1.hok P _ hP
  have ltP : P < s1.heap.objs.size := Heap.lt_size hPs
  have hP2 : (s1.heap.push o).get? P = some { cls := .none, data := .fields ps } := Heap.get?_push_of_some _ hPs
  have cd : PySem.W.CodeHd (s1.heap.push o) c P := TB.code.keeps fun b u e => Heap.get?_push_of_some _ (J1.bk b u e)
  have lim : (s1.heap.push o).NoLimit := J1.nolimit.push o
  have szp : (s1.heap.push o).objs.size = s1.heap.objs.size + 1 := Heap.size_push ..
  have go2 : ∀ (code : Value) (h3 : Heap) (tk : Nat) (more : Array Value), Heap.ExtBut P (s1.heap.push o) h3 → (s1.heap.push o).objs.size ≤ h3.objs.size → h3.get? P = some { cls := .none, data := .fields (ps ++ more) } → TriplesOk (ps ++ more).toList →
      wpAny (model X.prog X.w) X.A (builtinsFor X.env.globals X.env.builtins) (fun bi s4 =>
        ∃ I0 fp wr n0 Pf0 Z0 pz F0, Value.ref s1.heap.objs.size = .ref I0 ∧ (∀ B : Around, B.handled = none → Walks X.prog X.w B I0 fp wr n0 Pf0 Z0) ∧ Z0 0 s4.heap ∧ (∀ b ∈ fp, b < s4.heap.objs.size) ∧ s4.heap.NoLimit ∧ cStatics ∉ wr ∧
          (∀ hq : Heap, (∀ b o, s4.heap.get? b = some o → hq.get? b = some o) →
            QuietGen X.prog X.w (genEnv scope (cloFrom X.env.cells scope.names []) s4.heap.objs.size code bi X.env) x [] elt (List.range s4.heap.objs.size) wr Pf0 pz F0 hq) ∧
          (∀ g h5 tk5 gs, gs.bare = true → s4.heap.objs.size < g → h5.objs.size = g + 1 → (∀ b o, s4.heap.get? b = some o → h5.get? b = some o) →
            WalksS X.prog X.w X.A.in4 g (g :: s4.heap.objs.size :: List.range s4.heap.objs.size) (s4.heap.objs.size :: wr) (GenOnlyQ s4.gens.size) (passing pz n0 0).length
              (fun j y => ∃ i, (passing pz n0 0)[j]? = some i ∧ F0 i y) (GenAt X.prog X.w X.A.in4 g s4.gens.size s4.heap.objs.size (List.range s4.heap.objs.size) wr pz n0 F0) →
            GenAt X.prog X.w X.A.in4 g s4.gens.size s4.heap.objs.size (List.range s4.heap.objs.size) wr pz n0 F0 0 { s4 with gens := s4.gens.push gs, toks := tk5, heap := h5 } →
            W (.ref g) { s4 with gens := s4.gens.push gs, toks := tk5, heap := h5 })) X.xe { s1 with heap := h3, toks := tk } := by
    intro code h3 tk more hx hsz hP3 trip3
    obtain ⟨bm, ob, e1, e2, e3, e4, e5, e6, e7, e8⟩ := TB.bm
    have keep3 : ∀ b u, b ≠ P → s1.heap.get? b = some u → h3.get? b = some u := fun b u hb e => hx b u hb (Heap.get?_push_of_some _ e)
    have stP : cStatics ≠ P := fun z => by
      obtain ⟨_, ⟨o1, es, ep, ho, hd, _⟩, _⟩ := J1.nolimit
      rw [z, hPs] at ho
      cases ho
      cases hd
    have stL : cStatics < s1.heap.objs.size := by
      obtain ⟨_, hns, _⟩ := J1.nolimit
      exact hns.lt
    have newP : s1.heap.objs.size ≠ P := Nat.ne_of_gt ltP
    refine wpAny_builtinsFor (m := X.mg) (by rw [J1.ok.glob]; exact ((J1.mod.glob.keeps J1.bk).push o).extBut hx TB.gP) e1 e2 (keep3 _ _ e4 (J1.bk _ _ e5)) e6 e7 e8 ?_
    refine ⟨s1.heap.objs.size, s1.heap.objs.size :: aux, [s1.heap.objs.size], n, Pf, Z, fun _ => true, F, rfl, wk, ?_, ?_, lim.extBut hx stP, ?_, ?_, ?_⟩
    · refine (wk X.A hr.hd).frame _ _ _ z0 fun b hb u e => hx b u (fun z => ?_) e
      rcases List.mem_cons.mp hb with z2 | z2
      · exact newP (z2.symm.trans z)
      · exact (hau b z2).2 z
    · intro b hb
      show b < h3.objs.size
      have up : s1.heap.objs.size < h3.objs.size := by omega
      rcases List.mem_cons.mp hb with z2 | z2
      · rw [z2]
        exact up
      · exact Nat.lt_trans (hau b z2).1 up
    · intro z
      rcases List.mem_cons.mp z with z2 | z2
      · exact Nat.ne_of_lt stL z2
      · cases z2
    · intro hq keepq
      refine ⟨fun B E2 i v s2 m2 hB hv hn hm hk => ?_, fun B E2 i v s2 m2 hB hv _ hn hm hk => ?_⟩
      · simp only [List.forIn_nil]
        exact wpAny_pure ⟨rfl, GxR.keeps_refl _⟩
      · refine hel _ B E2 i v s2 m2 rfl rfl rfl rfl hB hv hn hm fun b u hb e => ?_
        have lb := Heap.lt_size e
        have up : s1.heap.objs.size < h3.objs.size := by omega
        refine hk b (List.mem_range.mpr (Nat.lt_trans lb up)) (fun z => ?_) u (keepq b u (keep3 b u hb e))
        rcases List.mem_cons.mp z with z2 | z2
        · exact Nat.ne_of_lt lb z2
        · cases z2
    · intro g h5 tk5 gs hgb hag hsz5 hk5 W5 gat
      simp only [GxR.passing_true, List.length_range] at W5
      refine fin g _ ⟨_, _, _, _, _, W5, fun j v hv => ?_, gat, fun b hb => ?_, List.mem_cons_self, fun i s9 h9 => h9.1.typeIs, fun s' hm => ?_⟩
      · obtain ⟨i, hij, e⟩ := hv
        obtain ⟨_, ej⟩ := List.getElem?_eq_some_iff.mp hij
        rw [List.getElem_range] at ej
        subst ej
        exact e
      · show b < h5.objs.size
        have h8 : h3.objs.size < g := hag
        have h9 : h5.objs.size = g + 1 := hsz5
        have u1 : g < h5.objs.size := by
          rw [h9]
          exact Nat.lt_succ_self g
        have u2 : h3.objs.size < h5.objs.size := Nat.lt_trans h8 u1
        rcases List.mem_cons.mp hb with z | z
        · rw [z]
          exact u1
        · rcases List.mem_cons.mp z with z | z
          · rw [z]
            exact u2
          · exact Nat.lt_trans (show b < h3.objs.size from List.mem_range.mp z) u2
      · have old : ∀ b u, s1.heap.get? b = some u → b ∉ h3.objs.size :: [s1.heap.objs.size] := fun b u e hb => by
          have lb := Heap.lt_size e
          have up : s1.heap.objs.size < h3.objs.size := by omega
          rcases List.mem_cons.mp hb with z | z
          · exact Nat.ne_of_lt (Nat.lt_trans lb up) z
          · rcases List.mem_cons.mp z with z | z
            · exact Nat.ne_of_lt lb z
            · cases z
        have R := GxR.inv_tab (more := more) (h' := s'.heap) (g' := s'.gens) (d' := s'.drawn) (t' := s'.toks) J1 hP (fun b u hb e => hm.heap b u (old b u e) (hk5 b u (keep3 b u hb e)))
          (hm.heap P _ (old P _ hPs) (hk5 P _ hP3)) (AllBare.movedS (J1.bare.push hgb) hm)
        rw [GxR.sh_eta s1 s' hm.os] at R
        exact ⟨_, ⟨⟨ps ++ more, upd_same, trip3⟩, fun b hb => upd_ne hb⟩, R⟩
  refine ⟨lim, ?_⟩
  cases hf : codeAmong gpos ps.toList with
  | none =>
    refine wpAny_genexprCodeX hcode (cd.code hP2 trip) (cd.tab hP2) hf fun c' h' tk hx hge hlt hco' _ htab' _ => ?_
    obtain ⟨o1, vs, f1, tf, fl, tg, inF, tx, tt, op, _, _, _, _, _, _, _, _, _, htr, _⟩ := hco'
    exact go2 _ h' tk _ hx (Nat.le_trans hge (Nat.le_of_lt hlt)) htab'.2 htr
  | some cv =>
    refine wpAny_genexprCode_hit hcode (cd.code hP2 trip) hf ?_
    exact go2 cv (s1.heap.push o) s1.toks #[] (Heap.ExtBut.refl _ _) (Nat.le_refl _) (by rw [Array.append_empty]; exact hP2) (by rw [Array.append_empty]; exact trip)
/-! tuple(element for x in walked) -/
structure PSrc (X : Cx) (P : Addr) (iter : Expr) (ti : L2.St → Hp → (List V → Hp → Prop) → Prop) : Prop where
  run : ∀ (pins : List (Addr × Obj)) (s : Shared) (σ : L2.St) (H : Hp) (R : List V → Hp → Prop), Inv X pins σ H s → ti σ H (fun xs H1 => GxR.TabG H1 P ∧ R xs H1) →
    wpAny (model X.prog X.w) X.A (eval iter X.env) (fun xv s1 => ∃ (H1 : Hp) (xs : List V), Inv X pins σ H1 s1 ∧ GxR.TabG H1 P ∧ R xs H1 ∧ SrcOk X P s1 xv xs.length (fun i u => ∃ y, xs[i]? = some y ∧ RelV y u)) X.xe s
/-- where the element is reckoned: the generator's own frame -/
structure InGen (X : Cx) (P : Addr) (scope : Scope) (s1 : Shared) (cenv : Env) (B : Around) (s2 : Shared) (m2 : Str → Option Value) : Prop where
  sc : cenv.scope = scope
  cells : cenv.cells = cloFrom X.env.cells scope.names []
  glob : cenv.globals = X.env.globals
  blt : cenv.builtins = builtinsNs
  hd : B.handled = none
  ns : s2.heap.Ns cenv.locals m2
  keep : ∀ b o, b ≠ P → s1.heap.get? b = some o → s2.heap.get? b = some o
structure PElt (X : Cx) (P : Addr) (scope : Scope) (x : Str) (elt : Expr) (te : L2.St → Hp → V → V → Prop) : Prop where
  run : ∀ (pins : List (Addr × Obj)) (s1 : Shared) (σ : L2.St) (H : Hp), Inv X pins σ H s1 → GxR.TabG H P → ∀ (cenv : Env) (B : Around) (E2 : Value → Shared → Prop) (s2 : Shared) (m2 : Str → Option Value) (v y : V) (u : Value),
    InGen X P scope s1 cenv B s2 m2 → RelV v u → te σ H v y → m2 x = some u → wpAny (model X.prog X.w) B (eval elt cenv) (fun z s3 => RelV y z ∧ Keeps s2 s3) E2 s2
def tTupG (P : Addr) (ti : L2.St → Hp → (List V → Hp → Prop) → Prop) (te : L2.St → Hp → V → V → Prop) : TE := fun σ H Q => ti σ H fun xs H1 => GxR.TabG H1 P ∧ xs.length ≤ sizeLine ∧ ∃ ys : List V, ys.length = xs.length ∧
  (∀ (i : Nat) (x : V), xs[i]? = some x → ∃ y, ys[i]? = some y ∧ te σ H1 x y) ∧ ∀ H2 p, GxR.Tabbed P H1 H2 → H2 p = none → Q (.ref p) (upd H2 p (.tup ys))
theorem vals_of : ∀ (ys : List V) (us : List Value), us.length = ys.length → (∀ (j : Nat) (u : Value), us[j]? = some u → ∃ y, ys[j]? = some y ∧ RelV y u) → Vals ys us
  | [], [], _, _ => .nil
  | y :: ys, u :: us, hl, h => by
    obtain ⟨y1, e1, r1⟩ := h 0 u rfl
    cases e1
    exact .cons r1 (vals_of ys us (by simpa using hl) fun j v hj => h (j + 1) v hj)
theorem pe_tupG {X : Cx} {c P : Addr} {elt iter : Expr} {x : Str} {px p pos gpos : Pos} {scope : Scope} {ti : L2.St → Hp → (List V → Hp → Prop) → Prop} {te : L2.St → Hp → V → V → Prop} {k : Nat}
    (hr : Room k X.A) (hg : Gl X "tuple") (hm : X.mg "tuple" = none) (hb : bootBuiltins "tuple" = some (.type "tuple")) (TB : GxR.TabB X.base X.mg c P) (hcode : X.env.code = .ref c) (S : GxR.GenS X.env scope x)
    (hi : PSrc X P iter ti) (hel : PElt X P scope x elt te) (hs : ∀ v, genFold iter X.env v = pure v)
    (he : starEach [.GeneratorExp elt [⟨.Name x px, iter, [], 0⟩] scope gpos] X.env = (false, eval (.GeneratorExp elt [⟨.Name x px, iter, [], 0⟩] scope gpos) X.env) :: starEach [] X.env := by rfl) :
    PE X (.Call (.Name "tuple" p) [.GeneratorExp elt [⟨.Name x px, iter, [], 0⟩] scope gpos] [] pos) (tTupG P ti te) := by
  refine ⟨fun pins s σ H Q I h => ?_⟩
  refine wpAny_Call_Name_kw (ld_blt I hg hm hb ?_)
  refine PyProof.Rows.callWith_type1 ?_ he (by rfl)
  rw [he]
  show wpAny _ _ (spliced ((false, eval (.GeneratorExp elt [⟨.Name x px, iter, [], 0⟩] scope gpos) X.env) :: backTo pos (starEach [] X.env))) _ _ s
  have h2 : ti σ H fun xs H1 => GxR.TabG H1 P ∧ (xs.length ≤ sizeLine ∧ ∃ ys : List V, ys.length = xs.length ∧ (∀ (i : Nat) (x : V), xs[i]? = some x → ∃ y, ys[i]? = some y ∧ te σ H1 x y) ∧ ∀ H2 p, GxR.Tabbed P H1 H2 → H2 p = none → Q (.ref p) (upd H2 p (.tup ys))) := h
  refine Calls.spliced_cons (gen_one (pins := pins) (σ := σ) hr TB hcode S hs (wpAny_mono (hi.run pins s σ H _ I h2) (fun xv s1 z => ?_) fun _ _ e => e))
  obtain ⟨H1, xs, J, ⟨ps, hP, trip⟩, ⟨lx, ys, ly, hys, q⟩, src⟩ := z
  refine ⟨H1, ps, xs.length, _, fun i u => ∃ y, ys[i]? = some y ∧ RelV y u, J, hP, trip, src, ?_, fun g s5 at5 => ?_⟩
  · intro cenv B E2 i v s2 m2 h1 h3 h4 h5 h6 hv h7 h8 h9
    obtain ⟨w1, ew, rw1⟩ := hv
    obtain ⟨y, ey, ty⟩ := hys i w1 ew
    exact wpAny_mono (hel.run pins s1 σ H1 J ⟨ps, hP, trip⟩ cenv B E2 s2 m2 w1 y v ⟨h1, h3, h4, h5, h6, h7, h9⟩ rw1 ty h8) (fun z s3 r => ⟨⟨y, ey, r.1⟩, r.2⟩) fun _ _ e => e
  · refine Calls.spliced_nil ?_
    obtain ⟨fp, wr, G, F', Z, W5, im, z0, hfp, hgf, hT, hinv⟩ := at5
    refine PySem.call_tuple_gen (n := xs.length) W5.in4_3 hT z0 hfp hgf (fun s' acc mv it => ?_) lx
    obtain ⟨H2, tb, J2⟩ := hinv s' mv
    have vs : Vals ys acc.toList := vals_of ys acc.toList (by rw [Array.length_toList, it.1, ly]) fun j u hj => im j u (it.2 j u (by simpa using hj))
    refine ⟨.ref s'.heap.objs.size, _, J2.laid (t' := s'.toks) (o := .tup ys) (fun b ob e => Heap.get?_push_of_some _ e) (Nat.le_refl _) ⟨by omega, acc.toList, vs, ?_⟩, rfl, q H2 _ tb (J2.hok.fresh (Nat.le_refl _))⟩
    have ea : acc.toList.toArray = acc := by simp
    rw [ea]
    exact IsTup.new _ _
/-- range(e) -/
theorem src_range {X : Cx} {P : Addr} {a : Expr} {ta : TA} {p pos : Pos} (hg : Gl X "range") (hm : X.mg "range" = none) (ha : PA X [a] ta) (hs : starEach [a] X.env = [(false, eval a X.env)] := by rfl) :
    PSrc X P (.Call (.Name "range" p) [a] [] pos) (fun σ H R => ta σ H fun vs H1 => ∃ n : Nat, vs = [.int (n : Nat)] ∧ n ≤ sizeLine ∧ R ((List.range n).map fun i => V.int (i : Nat)) H1) := by
  refine ⟨fun pins s σ H R I h => ?_⟩
  refine Call_ (ld_blt I hg hm boot_range (PyProof.Rows.callWith_type1 (thn (ha.run pos pins s σ H _ I h) fun us s1 ⟨vs, H1, J, r1, q1⟩ => ?_) hs rfl))
  obtain ⟨n, rfl, hn, tg, q⟩ := q1
  cases r1 with
  | cons r rr =>
    cases rr
    obtain ⟨t, rfl⟩ := r
    have hsl : sizeLine = 16777216 := by decide
    refine call_range_1 ⟨H1, _, J.kept fun b o e => Heap.get?_push_of_some _ e, tg, q, ?_⟩
    refine ⟨_, [], fun i h => IsRangeIter h (s1.heap.push { cls := .type "range", data := .fields #[.int 0 s1.toks, .int (n : Nat) t, .int 1 (s1.toks + 1)] }).objs.size ((0 : Int) + (i : Nat) * 1) ((n : Int) - (i : Nat)) 1, fun Q hQ => wpAny_pyIter_range (IsRange.new ..) (small_one (by omega) (by omega) (by omega) (by omega)) hQ, fun b hb => (by cases hb), fun B hB => ?_, ?_⟩
    · rw [List.length_map, List.length_range]
      have W0 := Walks.range (prog := X.prog) (w := X.w) (A := B) hB (s1.heap.push { cls := .type "range", data := .fields #[.int 0 s1.toks, .int (n : Nat) t, .int 1 (s1.toks + 1)] }).objs.size 0 1 n
      exact W0.mono_item fun i v hi hv => by
        obtain ⟨t2, rfl⟩ := hv
        refine ⟨.int (i : Nat), ?_, t2, by rw [Int.zero_add, Int.mul_one]⟩
        rw [List.getElem?_map, List.getElem?_range hi]
        rfl
    · show IsRangeIter _ _ ((0 : Int) + ((0 : Nat) : Int) * 1) ((n : Int) - ((0 : Nat) : Int)) 1
      have e2 : (n : Int) - ((0 : Nat) : Int) = Builtin.Range.rangeSize 0 (n : Int) 1 := by
        rw [rangeSize_one]
        split <;> omega
      rw [e2]
      exact Heap.get?_push_size _ rfl
theorem gs_free {cells : List (Str × Addr)} {names : List (Str × NameKind)} (h : (names.all fun y => y.2 != .free || (cells.lookup y.1).isSome) = true) : ∀ y ∈ names, y.2 = .free → ∃ c, cells.lookup y.1 = some c := fun y hy e => by
  have q := List.all_eq_true.mp h y hy
  rw [e] at q
  exact Option.isSome_iff_exists.mp (by simpa using q)
/-! elements -/
section
variable {X : Cx} {pins : List (Addr × Obj)} {σ : L2.St} {H : Hp} {s1 s2 : Shared} {P c : Addr} {scope : Scope} {cenv : Env} {B : Around} {m2 : Str → Option Value} {E2 : Value → Shared → Prop}
theorem ig_local {x : Str} {u : Value} {p : Pos} {W : Value → Shared → Prop} (g : InGen X P scope s1 cenv B s2 m2) (hk : scope.kind = .function) (hl : scope.names.lookup x = some .local) (hm : m2 x = some u) {s3 : Shared} (k3 : Keeps s2 s3) (h : W u s3)
    (hd : (x == ("__debug__" : Str)) = false := by decide) : wpAny (model X.prog X.w) B (eval (.Name x p) cenv) W E2 s3 := by
  obtain ⟨h3, tk, rfl, kp⟩ := k3
  exact wpAny_Name (wpAny_loadName_local (by rw [g.sc]; exact hk) (show cenv.scope.names.lookup x = some .local by rw [g.sc]; exact hl) (g.ns.keeps kp) hm h) hd
theorem ig_free {x : Str} {i : Nat} {v : V} {p : Pos} {W : Value → Shared → Prop} (I : Inv X pins σ H s1) (tg : GxR.TabG H P) (g : InGen X P scope s1 cenv B s2 m2) (hk : scope.kind = .function) (hl : scope.names.lookup x = some .free)
    (hN : X.N[i]? = some x) (hσ : σ[i]? = some (some v)) (hX : X.env.scope.names.lookup x = some .cell) (hcl : ∀ cells : List (Str × Addr), (cloFrom cells scope.names []).lookup x = some ((cells.lookup x).getD 0)) {s3 : Shared} (k3 : Keeps s2 s3)
    (h : ∀ u, RelV v u → W u s3) (hn : (x == ("__classdict__" : Str)) = false := by decide) (hd : (x == ("__debug__" : Str)) = false := by decide) : wpAny (model X.prog X.w) B (eval (.Name x p) cenv) W E2 s3 := by
  obtain ⟨h3, tk, rfl, kp⟩ := k3
  obtain ⟨m, _, hloc⟩ := I.loc
  obtain ⟨u, ru, lk⟩ := hloc i x v hN hσ (.inr (.inl hX))
  rcases lk with ⟨h1, _⟩ | ⟨_, cc, h2, ic⟩
  · have h1 : X.env.scope.names.lookup x = some .local := h1
    rw [hX] at h1
    cases h1
  · obtain ⟨ps, hP, _⟩ := tg
    have ncP : cc ≠ P := fun z => by
      have q := I.freeC x cc h2
      rw [z, hP] at q
      cases q
    obtain ⟨o, ho, hd2⟩ := ic
    have lk2 : cenv.cells.lookup x = some cc := by
      rw [g.cells, hcl, h2]
      rfl
    exact wpAny_Name (wpAny_loadName_free (by rw [g.sc]; exact hk) (show cenv.scope.names.lookup x = some .free by rw [g.sc]; exact hl) lk2 ⟨o, kp _ _ (g.keep _ _ ncP ho), hd2⟩ (h u ru) hn) hd
theorem ig_blt {x : Str} {u : Value} {p : Pos} {W : Value → Shared → Prop} (I : Inv X pins σ H s1) (tg : GxR.TabG H P) (TB : GxR.TabB X.base X.mg c P) (g : InGen X P scope s1 cenv B s2 m2) (hk : scope.kind = .function) (hl : scope.names.lookup x = some .globalImplicit)
    (hm : X.mg x = none) (hv : bootBuiltins x = some u) {s3 : Shared} (k3 : Keeps s2 s3) (h : W u s3) (hn : x ≠ "__name__" := by decide) (hd : (x == ("__debug__" : Str)) = false := by decide) : wpAny (model X.prog X.w) B (eval (.Name x p) cenv) W E2 s3 := by
  obtain ⟨h3, tk, rfl, kp⟩ := k3
  obtain ⟨mb, h1, h2⟩ := I.mod.blt
  obtain ⟨ps, hP, _⟩ := tg
  have hPs : s1.heap.get? P = some { cls := .none, data := .fields ps } := I.hok P _ hP
  have n1 : s1.heap.Ns mainGlobals X.mg := I.mod.glob.keeps I.bk
  have n2 : s1.heap.Ns builtinsNs mb := h1.keeps I.bk
  have up : ∀ {a : Addr} {m : Str → Option Value}, s1.heap.Ns a m → h3.Ns a m := fun {a m} ⟨o, es, ep, ho, hd1, r⟩ => by
    have na : a ≠ P := fun z => by
      rw [z, hPs] at ho
      cases ho
      cases hd1
    exact ⟨o, es, ep, kp _ _ (g.keep _ _ na ho), hd1, r⟩
  exact Calls.Name_function_global (by rw [g.sc]; exact hk) (show cenv.scope.names.lookup x = some .globalImplicit by rw [g.sc]; exact hl) (Calls.loadGlobal_builtin (by rw [g.glob, I.ok.glob]; exact up n1) hm (by rw [g.blt]; exact up n2) ((h2 x hn).trans hv) h) hd
theorem kp_tok {s3 : Shared} (k : Keeps s2 s3) (n : Nat) : Keeps s2 { s3 with toks := n } := by
  obtain ⟨h', tk, rfl, kp⟩ := k
  exact ⟨h', n, rfl, kp⟩
/-- a tracked tuple, read in the generator's frame -/
theorem ig_tup {a : Addr} {xs : List V} (I : Inv X pins σ H s1) (tg : GxR.TabG H P) (g : InGen X P scope s1 cenv B s2 m2) (ha : H a = some (.tup xs)) {s3 : Shared} (k3 : Keeps s2 s3) : ∃ its : List Value, Vals xs its ∧ IsTup s3.heap a its.toArray ∧ xs.length ≤ sizeLine := by
  obtain ⟨h3, tk, rfl, kp⟩ := k3
  obtain ⟨ps, hP, _⟩ := tg
  obtain ⟨hz, its, r, ⟨o, ho, rest⟩⟩ := I.hok a _ ha
  have naP : a ≠ P := ne_of ha hP (fun z => by cases z)
  exact ⟨its, r, ⟨o, kp _ _ (g.keep _ _ naP ho), rest⟩, hz⟩
end
/-- row[(at - by) % len(row)] -/
theorem elt_late {X : Cx} {P c : Addr} {scope : Scope} {i j : Nat} {xr xa xb : Str} {p1 p2 p3 p4 p5 p6 p7 p8 p9 : Pos} (TB : GxR.TabB X.base X.mg c P) (hk : scope.kind = .function) (l1 : scope.names.lookup xa = some .local) (l2 : scope.names.lookup xr = some .free) (l3 : scope.names.lookup xb = some .free)
    (l4 : scope.names.lookup ("len" : Str) = some .globalImplicit) (hm : X.mg "len" = none) (hNi : X.N[i]? = some xr) (hNj : X.N[j]? = some xb) (hXi : X.env.scope.names.lookup xr = some .cell) (hXj : X.env.scope.names.lookup xb = some .cell)
    (c1 : ∀ cells : List (Str × Addr), (cloFrom cells scope.names []).lookup xr = some ((cells.lookup xr).getD 0)) (c2 : ∀ cells : List (Str × Addr), (cloFrom cells scope.names []).lookup xb = some ((cells.lookup xb).getD 0))
    (n1 : (xr == ("__classdict__" : Str)) = false := by decide) (n2 : (xr == ("__debug__" : Str)) = false := by decide) (n3 : (xb == ("__classdict__" : Str)) = false := by decide) (n4 : (xb == ("__debug__" : Str)) = false := by decide) (n5 : (xa == ("__debug__" : Str)) = false := by decide) :
    PElt X P scope xa (.Subscript (.Name xr p1) (.BinOp (.BinOp (.Name xa p2) .Sub (.Name xb p3) p4) .Mod (.Call (.Name "len" p5) [.Name xr p6] [] p7) p8) p9)
      (fun σ H v y => ∃ (a : Addr) (xs : List V) (by_ : Int) (t : Nat), σ[i]? = some (some (.ref a)) ∧ H a = some (.tup xs) ∧ σ[j]? = some (some (.int by_)) ∧ v = .int (t : Nat) ∧ 0 < xs.length ∧ xs[(((t : Int) - by_) % (xs.length : Int)).toNat]? = some y) := by
  refine ⟨fun pins s1 σ H I tg cenv B E2 s2 m2 v y u g rv te hm2 => ?_⟩
  obtain ⟨a, xs, by_, t, h1, h2, h3, rfl, h4, h5⟩ := te
  obtain ⟨tk, rfl⟩ := (show ∃ tk, u = Value.int (t : Nat) tk from rv)
  refine Subscript_ (ig_free I tg g hk l2 hNi h1 hXi c1 (GxR.keeps_refl s2) (fun u1 r1 => ?_) n1 n2)
  obtain rfl : u1 = Value.ref a := r1
  refine wpAny_BinOp (wpAny_BinOp (ig_local g hk l1 hm2 (GxR.keeps_refl s2) ?_ n5))
  refine ig_free I tg g hk l3 hNj h3 hXj c2 (GxR.keeps_refl s2) (fun u2 r2 => ?_) n3 n4
  obtain ⟨tb, rfl⟩ := (show ∃ tb, u2 = Value.int by_ tb from r2)
  refine sub_int ?_
  refine wpAny_Call_Name_kw (ig_blt I tg TB g hk l4 hm PySem.boot_len (GxR.keeps_tok s2 _) ?_)
  refine PyProof.Rows.callWith_builtin1 ?_ rfl rfl
  refine Calls.spliced_cons (ig_free I tg g hk l2 hNi h1 hXi c1 (GxR.keeps_tok s2 _) (fun u3 r3 => ?_) n1 n2)
  obtain rfl : u3 = Value.ref a := r3
  refine Calls.spliced_nil ?_
  obtain ⟨its, rvs, it, hz⟩ := ig_tup I tg g h2 (GxR.keeps_tok s2 (s2.toks + 1))
  have hlen := rvs.length
  have hsl : sizeLine = 16777216 := by decide
  have hj : (((t : Int) - by_) % (xs.length : Int)).toNat < xs.length := (List.getElem?_eq_some_iff.mp h5).1
  refine len_tuple it (by simp only [List.size_toArray] <;> omega) ?_
  refine mod_int' (by rw [List.size_toArray, ← hlen]; omega) ?_
  rw [List.size_toArray, ← hlen, Int.fmod_eq_emod_of_nonneg _ (by omega)]
  have m0 := Int.emod_nonneg ((t : Int) - by_) (show (xs.length : Int) ≠ 0 by omega)
  obtain ⟨w1, ew, rw1⟩ := rvs.get h5
  have fin := GxR.keeps_tok s2 (s2.toks + 1 + 1 + 1 + 1)
  refine subscriptTail_builtinR (x := w1) it.typeIs slot_tuple_getitem.lookup (getItem_tuple (j := (((t : Int) - by_) % (xs.length : Int)).toNat) it (by omega) (by omega) ?_ (by simpa using ew) ⟨rfl, rw1, fin⟩)
  rw [List.size_toArray, ← hlen]


  exact seqIndex_of m0 (Int.emod_lt_of_pos _ (by omega))
/-! generator expressions over pairs -/
def EltOk2 (X : Cx) (P : Addr) (scope : Scope) (xa xb : Str) (elt : Expr) (s0 : Shared) (Pt : Nat → Array Value → Prop) (F : Nat → Value → Prop) : Prop :=
  ∀ (cenv : Env) (B : Around) (E2 : Value → Shared → Prop) (i : Nat) (va vb : Value) (s2 : Shared) (m2 : Str → Option Value), InGen X P scope s0 cenv B s2 m2 → Pt i #[va, vb] → m2 xa = some va → m2 xb = some vb →
    wpAny (model X.prog X.w) B (eval elt cenv) (fun y s3 => F i y ∧ Keeps s2 s3) E2 s2
structure Src2 (X : Cx) (P : Addr) (s0 s1 : Shared) (xv : Value) (n : Nat) (Pt : Nat → Array Value → Prop) : Prop where
  only : ∃ h1 t1, s1 = { s0 with heap := h1, toks := t1 }
  old : ∀ b o, s0.heap.get? b = some o → s1.heap.get? b = some o
  wk : ∃ (J : Addr) (fp wr : List Addr) (Z : Nat → Heap → Prop) (Mid : Nat → Addr → Heap → Prop), xv = .ref J ∧ (∀ Q : Value → Shared → Prop, Q (.ref J) s1 → wpAny (model X.prog X.w) X.A (pyIter xv) Q X.xe s1) ∧
    (∀ B : Around, B.handled = none → WalksU X.prog X.w B J fp wr n Pt Z Mid) ∧ Z 0 s1.heap ∧ (∀ b ∈ fp, b < s1.heap.objs.size ∧ b ≠ P) ∧ (∀ b ∈ wr, s0.heap.objs.size ≤ b)
  two : ∀ i vals, Pt i vals → ∃ va vb, vals = #[va, vb]
structure GenS2 (env : Env) (scope : Scope) (xa xb : Str) : Prop where
  a : GxR.GenS env scope xa
  lb : scope.names.lookup xb = some .local
  ne : xa ≠ xb
theorem gen_two {X : Cx} {pins : List (Addr × Obj)} {σ : L2.St} {s : Shared} {c P : Addr} {elt iter : Expr} {xa xb : Str} {pa pb pt gpos : Pos} {kt : Nat} {scope : Scope} {k : Nat} {W : Value → Shared → Prop}
    (hr : Room k X.A) (TB : GxR.TabB X.base X.mg c P) (hcode : X.env.code = .ref c) (S : GenS2 X.env scope xa xb) (hs : ∀ v, genFold iter X.env v = pure v)
    (h : wpAny (model X.prog X.w) X.A (eval iter X.env) (fun xv s1 => ∃ (s0 : Shared) (H1 : Hp) (ps : Array Value) (n : Nat) (Pt : Nat → Array Value → Prop) (F : Nat → Value → Prop), Inv X pins σ H1 s0 ∧ H1 P = some (.tbl ps) ∧ TriplesOk ps.toList ∧ Src2 X P s0 s1 xv n Pt ∧
      EltOk2 X P scope xa xb elt s0 Pt F ∧ ∀ g s5, AtHand X pins σ H1 P n F g s5 → W (.ref g) s5) X.xe s) :
    wpAny (model X.prog X.w) X.A (eval (.GeneratorExp elt [⟨.Tuple [.Name xa pa, .Name xb pb] kt pt, iter, [], 0⟩] scope gpos) X.env) W X.xe s := by
  have deep := hr.dp
  refine wpAny_GeneratorExp_walksQT hr.hd S.a.co (closure_ok S.a.free) S.a.cell S.a.dot S.a.loc S.lb S.ne S.a.kind (by omega) (wpAny_mono h (fun xv s1 z => ?_) fun _ _ e => e) hs
  obtain ⟨s0, H1, ps, n, Pt, F, J0, hP, trip, ⟨⟨h1, t1, rfl⟩, old1, ⟨J, fp, wr, Z, Mid, rfl, go, wk, z0, hfp, hwr⟩, two⟩, hel, fin⟩ := z
  refine go _ ?_
  have hPs : s0.heap.get? P = some { cls := .none, data := .fields ps } := J0.hok P _ hP
  have ltP : P < s0.heap.objs.size := Heap.lt_size hPs
  have hP2 : h1.get? P = some { cls := .none, data := .fields ps } := old1 _ _ hPs
  have cd : PySem.W.CodeHd h1 c P := TB.code.keeps fun b u e => old1 _ _ (J0.bk b u e)
  have lim : h1.NoLimit := J0.nolimit.keeps old1
  have go2 : ∀ (code : Value) (h3 : Heap) (tk : Nat) (more : Array Value), Heap.ExtBut P h1 h3 → h1.objs.size ≤ h3.objs.size → h3.get? P = some { cls := .none, data := .fields (ps ++ more) } → TriplesOk (ps ++ more).toList →
      wpAny (model X.prog X.w) X.A (builtinsFor X.env.globals X.env.builtins) (fun bi s4 =>
        ∃ I0 fp0 wr0 n0 Pt0 Z0 Mid0 pz F0, Value.ref J = .ref I0 ∧ (∀ B : Around, B.handled = none → WalksU X.prog X.w B I0 fp0 wr0 n0 Pt0 Z0 Mid0) ∧ (∀ i vals, Pt0 i vals → ∃ va vb, vals = #[va, vb]) ∧ Z0 0 s4.heap ∧ (∀ b ∈ fp0, b < s4.heap.objs.size) ∧ s4.heap.NoLimit ∧ cStatics ∉ wr0 ∧
          (∀ hq : Heap, (∀ b o, s4.heap.get? b = some o → hq.get? b = some o) →
            QuietGenT X.prog X.w (genEnv scope (cloFrom X.env.cells scope.names []) s4.heap.objs.size code bi X.env) xa xb [] elt (List.range s4.heap.objs.size) wr0 Pt0 pz F0 hq) ∧
          (∀ g h5 tk5 gs, gs.bare = true → s4.heap.objs.size < g → h5.objs.size = g + 1 → (∀ b o, s4.heap.get? b = some o → h5.get? b = some o) →
            WalksS X.prog X.w X.A.in4 g (g :: s4.heap.objs.size :: List.range s4.heap.objs.size) (s4.heap.objs.size :: wr0) (GenOnlyQ s4.gens.size) (passing pz n0 0).length
              (fun j y => ∃ i, (passing pz n0 0)[j]? = some i ∧ F0 i y) (GenAt X.prog X.w X.A.in4 g s4.gens.size s4.heap.objs.size (List.range s4.heap.objs.size) wr0 pz n0 F0) →
            GenAt X.prog X.w X.A.in4 g s4.gens.size s4.heap.objs.size (List.range s4.heap.objs.size) wr0 pz n0 F0 0 { s4 with gens := s4.gens.push gs, toks := tk5, heap := h5 } →
            W (.ref g) { s4 with gens := s4.gens.push gs, toks := tk5, heap := h5 })) X.xe { s0 with heap := h3, toks := tk } := by
    intro code h3 tk more hx hsz hP3 trip3
    obtain ⟨bm, ob, e1, e2, e3, e4, e5, e6, e7, e8⟩ := TB.bm
    have keep3 : ∀ b u, b ≠ P → s0.heap.get? b = some u → h3.get? b = some u := fun b u hb e => hx b u hb (old1 b u e)
    have stP : cStatics ≠ P := fun z => by
      obtain ⟨_, ⟨o1, es, ep, ho, hd, _⟩, _⟩ := J0.nolimit
      rw [z, hPs] at ho
      cases ho
      cases hd
    have stL : cStatics < s0.heap.objs.size := by
      obtain ⟨_, hns, _⟩ := J0.nolimit
      exact hns.lt
    refine wpAny_builtinsFor (m := X.mg) (by rw [J0.ok.glob]; exact ((J0.mod.glob.keeps J0.bk).keeps old1).extBut hx TB.gP) e1 e2 (keep3 _ _ e4 (J0.bk _ _ e5)) e6 e7 e8 ?_
    refine ⟨J, fp, wr, n, Pt, Z, Mid, fun _ => true, F, rfl, wk, two, ?_, ?_, lim.extBut hx stP, ?_, ?_, ?_⟩
    · exact (wk X.A hr.hd).frame _ _ _ z0 fun b hb u e => hx b u (hfp b hb).2 e
    · intro b hb
      exact Nat.lt_of_lt_of_le (show b < h1.objs.size from (hfp b hb).1) hsz
    · intro z
      exact Nat.lt_irrefl _ (Nat.lt_of_lt_of_le stL (hwr _ z))
    · intro hq keepq
      refine ⟨fun B E2 i va vb s2 m2 hB hv hn hma hmb hk => ?_, fun B E2 i va vb s2 m2 hB hv _ hn hma hmb hk => ?_⟩
      · simp only [List.forIn_nil]
        exact wpAny_pure ⟨rfl, GxR.keeps_refl _⟩
      · refine hel _ B E2 i va vb s2 m2 ⟨rfl, rfl, rfl, rfl, hB, hn, fun b u hb e => ?_⟩ hv hma hmb
        have lb := Heap.lt_size e
        refine hk b (List.mem_range.mpr (Nat.lt_of_lt_of_le (Heap.lt_size (old1 b u e)) hsz)) (fun z => ?_) u (keepq b u (keep3 b u hb e))
        exact Nat.lt_irrefl _ (Nat.lt_of_lt_of_le lb (hwr b z))
    · intro g h5 tk5 gs hgb hag hsz5 hk5 W5 gat
      simp only [GxR.passing_true, List.length_range] at W5
      refine fin g _ ⟨_, _, _, _, _, W5, fun j v hv => ?_, gat, fun b hb => ?_, List.mem_cons_self, fun i s9 h9 => h9.1.typeIs, fun s' hm => ?_⟩
      · obtain ⟨i, hij, e⟩ := hv
        obtain ⟨_, ej⟩ := List.getElem?_eq_some_iff.mp hij
        rw [List.getElem_range] at ej
        subst ej
        exact e
      · show b < h5.objs.size
        have v8 : h3.objs.size < g := hag
        have v9 : h5.objs.size = g + 1 := hsz5
        have u1 : g < h5.objs.size := by
          rw [v9]
          exact Nat.lt_succ_self g
        have u2 : h3.objs.size < h5.objs.size := Nat.lt_trans v8 u1
        rcases List.mem_cons.mp hb with z | z
        · rw [z]
          exact u1
        · rcases List.mem_cons.mp z with z | z
          · rw [z]
            exact u2
          · exact Nat.lt_trans (show b < h3.objs.size from List.mem_range.mp z) u2
      · have old : ∀ b u, s0.heap.get? b = some u → b ∉ h3.objs.size :: wr := fun b u e hb => by
          have lb := Heap.lt_size e
          rcases List.mem_cons.mp hb with z | z
          · exact Nat.ne_of_lt (Nat.lt_of_lt_of_le (Heap.lt_size (old1 b u e)) hsz) z
          · exact Nat.lt_irrefl _ (Nat.lt_of_lt_of_le lb (hwr b z))
        have R := GxR.inv_tab (more := more) (h' := s'.heap) (g' := s'.gens) (d' := s'.drawn) (t' := s'.toks) J0 hP (fun b u hb e => hm.heap b u (old b u e) (hk5 b u (keep3 b u hb e)))
          (hm.heap P _ (old P _ hPs) (hk5 P _ hP3)) (AllBare.movedS (J0.bare.push hgb) hm)
        rw [GxR.sh_eta s0 s' hm.os] at R
        exact ⟨_, ⟨⟨ps ++ more, upd_same, trip3⟩, fun b hb => upd_ne hb⟩, R⟩
  refine ⟨lim, ?_⟩
  cases hf : codeAmong gpos ps.toList with
  | none =>
    refine wpAny_genexprCodeX hcode (cd.code hP2 trip) (cd.tab hP2) hf fun c' h' tk hx hge hlt hco' _ htab' _ => ?_
    obtain ⟨o1, vs, f1, tf, fl, tg, inF, tx, tt, op, _, _, _, _, _, _, _, _, _, htr, _⟩ := hco'
    exact go2 _ h' tk _ hx (Nat.le_trans hge (Nat.le_of_lt hlt)) htab'.2 htr
  | some cv =>
    refine wpAny_genexprCode_hit hcode (cd.code hP2 trip) hf ?_
    exact go2 cv h1 t1 #[] (Heap.ExtBut.refl _ _) (Nat.le_refl _) (by rw [Array.append_empty]; exact hP2) (by rw [Array.append_empty]; exact trip)
structure PElt2 (X : Cx) (P : Addr) (scope : Scope) (xa xb : Str) (elt : Expr) (te : V → V → V → Prop) : Prop where
  run : ∀ (pins : List (Addr × Obj)) (s0 : Shared) (σ : L2.St) (H : Hp), Inv X pins σ H s0 → GxR.TabG H P → ∀ (cenv : Env) (B : Around) (E2 : Value → Shared → Prop) (s2 : Shared) (m2 : Str → Option Value) (v1 v2 y : V) (u1 u2 : Value),
    InGen X P scope s0 cenv B s2 m2 → RelV v1 u1 → RelV v2 u2 → te v1 v2 y → m2 xa = some u1 → m2 xb = some u2 → wpAny (model X.prog X.w) B (eval elt cenv) (fun z s3 => RelV y z ∧ Keeps s2 s3) E2 s2
def tTupZ (P : Addr) (ta : TA) (te : V → V → V → Prop) : TE := fun σ H Q => ta σ H fun vs H1 => ∃ (a b : Addr) (xs ys : List V), vs = [.ref a, .ref b] ∧ TupO H1 a xs ∧ TupO H1 b ys ∧ xs.length = ys.length ∧ GxR.TabG H1 P ∧
  ∃ zs : List V, zs.length = xs.length ∧ (∀ (i : Nat) (x y : V), xs[i]? = some x → ys[i]? = some y → ∃ z, zs[i]? = some z ∧ te x y z) ∧ ∀ H2 p, GxR.Tabbed P H1 H2 → H2 p = none → Q (.ref p) (upd H2 p (.tup zs))
/-- tuple(element for xa, xb in zip(e, e2)), two tuples of one length -/
theorem pe_tupZ {X : Cx} {c P : Addr} {elt e e2 : Expr} {xa xb : Str} {pa pb pt p p2 pos gpos zpos : Pos} {kt : Nat} {scope : Scope} {ta : TA} {te : V → V → V → Prop} {k : Nat}
    (hr : Room k X.A) (hg : Gl X "tuple") (hm : X.mg "tuple" = none) (hb : bootBuiltins "tuple" = some (.type "tuple")) (hgz : Gl X "zip") (hmz : X.mg "zip" = none) (TB : GxR.TabB X.base X.mg c P) (hcode : X.env.code = .ref c) (S : GenS2 X.env scope xa xb)
    (ha : PA X [e, e2] ta) (hel : PElt2 X P scope xa xb elt te) (hs : ∀ v, genFold (.Call (.Name "zip" p2) [e, e2] [] zpos) X.env v = pure v)
    (he : starEach [.GeneratorExp elt [⟨.Tuple [.Name xa pa, .Name xb pb] kt pt, .Call (.Name "zip" p2) [e, e2] [] zpos, [], 0⟩] scope gpos] X.env = (false, eval (.GeneratorExp elt [⟨.Tuple [.Name xa pa, .Name xb pb] kt pt, .Call (.Name "zip" p2) [e, e2] [] zpos, [], 0⟩] scope gpos) X.env) :: starEach [] X.env := by rfl)
    (hz1 : starEach [e, e2] X.env = (false, eval e X.env) :: starEach [e2] X.env := by rfl) (hz2 : (backTo zpos (starEach [e2] X.env)).any (·.1) = false := by rfl) :
    PE X (.Call (.Name "tuple" p) [.GeneratorExp elt [⟨.Tuple [.Name xa pa, .Name xb pb] kt pt, .Call (.Name "zip" p2) [e, e2] [] zpos, [], 0⟩] scope gpos] [] pos) (tTupZ P ta te) := by
  refine ⟨fun pins s σ H Q I h => ?_⟩
  refine wpAny_Call_Name_kw (ld_blt I hg hm hb ?_)
  refine PyProof.Rows.callWith_type1 ?_ he (by rfl)
  rw [he]
  show wpAny _ _ (spliced ((false, eval (.GeneratorExp elt [⟨.Tuple [.Name xa pa, .Name xb pb] kt pt, .Call (.Name "zip" p2) [e, e2] [] zpos, [], 0⟩] scope gpos) X.env) :: backTo pos (starEach [] X.env))) _ _ s
  refine Calls.spliced_cons (gen_two (pins := pins) (σ := σ) hr TB hcode S hs ?_)
  refine Call_ (ld_blt I hgz hmz PyProof.Rows.boot_zip (PyProof.Rows.callWith_type1 (thn (ha.run zpos pins s σ H _ I h) fun us s0 ⟨vs, H1, J, r1, q1⟩ => ?_) hz1 hz2))
  obtain ⟨a, b, xs, ys, rfl, hxa, hyb, hxy, tg, zs, lz, hzs, q⟩ := q1
  cases r1 with
  | cons r rr =>
    cases rr with
    | cons r' rr =>
      cases rr
      cases r
      cases r'
      obtain ⟨ix, rx, px, hz⟩ := J.tuple (show SqT X.K H1 a xs from hxa.sq)
      obtain ⟨iy, ry, py, _⟩ := J.tuple (show SqT X.K H1 b ys from hyb.sq)
      obtain ⟨ps, hP, trip⟩ := tg
      have naP : a ≠ P := hxa.ne hP (fun _ z => by cases z) (fun _ _ z => by cases z)
      have nbP : b ≠ P := hyb.ne hP (fun _ z => by cases z) (fun _ _ z => by cases z)
      have lta : a < s0.heap.objs.size := by
        obtain ⟨o, ho, _⟩ := px
        exact Heap.lt_size ho
      have ltb : b < s0.heap.objs.size := by
        obtain ⟨o, ho, _⟩ := py
        exact Heap.lt_size ho
      have ltP : P < s0.heap.objs.size := Heap.lt_size (J.hok P _ hP)
      have hnx := rx.length
      have hny := ry.length
      refine RZ.call_zipT (show s0.heap.IsTuple a ix.toArray from px) (show s0.heap.IsTuple b iy.toArray from py) fun h1 isz hTI hTO i1 i2 sz5 keep => ?_
      refine ⟨s0, H1, ps, xs.length, fun i vals => ∃ x1 x2, ix.toArray[i]? = some x1 ∧ iy.toArray[i]? = some x2 ∧ vals = #[x1, x2], fun i u => ∃ z, zs[i]? = some z ∧ RelV z u, J, hP, trip, ⟨⟨h1, s0.toks, rfl⟩, keep, ?_, ?_⟩, ?_, fun g s5 at5 => ?_⟩
      · have en : min ix.toArray.size iy.toArray.size = xs.length := by
          rw [List.size_toArray, List.size_toArray]
          omega
        have WW := fun (B : Around) (hB : B.handled = none) => (WalksT.zipD2 (prog := X.prog) (w := X.w) (A := B) (zip_sep2 (N := s0.heap.objs.size) (fp1 := [a]) (fp2 := [b]) (fun c hc => by rw [List.mem_singleton.mp hc]; exact lta) (fun c hc => by rw [List.mem_singleton.mp hc]; exact ltb))
          (Draws.tuple (A := B.in1) hB s0.heap.objs.size a (Nat.ne_of_lt lta) ix.toArray) (Draws.tuple (A := B.in1) hB (s0.heap.objs.size + 1) b (Nat.ne_of_lt (Nat.lt_succ_of_lt ltb)) iy.toArray)).toU
        simp only [en] at WW
        refine ⟨s0.heap.objs.size + 4, _, _, _, _, rfl, fun Q hQ => wpAny_pyIter_zip isz hQ, WW, ⟨isz, hTI, ⟨_, _, hTO⟩, ⟨i1, (show s0.heap.IsTuple a ix.toArray from px).at fun o e => keep _ o e⟩, ⟨i2, (show s0.heap.IsTuple b iy.toArray from py).at fun o e => keep _ o e⟩⟩, fun d hd => ?_, fun d hd => ?_⟩
        · show d < h1.objs.size ∧ d ≠ P
          rw [sz5]
          have up : ∀ j : Nat, j < 5 → (s0.heap.objs.size + j : Nat) < s0.heap.objs.size + 5 ∧ (s0.heap.objs.size + j : Nat) ≠ P := fun j hj => ⟨by omega, Nat.ne_of_gt (Nat.lt_of_lt_of_le ltP (Nat.le_add_right _ _))⟩
          have hd' : d = s0.heap.objs.size + 4 ∨ d = s0.heap.objs.size + 2 ∨ d = s0.heap.objs.size + 3 ∨ d = s0.heap.objs.size ∨ d = a ∨ d = s0.heap.objs.size + 1 ∨ d = b := by simpa using hd
          rcases hd' with z | z | z | z | z | z | z
          · rw [z]; exact up 4 (by decide)
          · rw [z]; exact up 2 (by decide)
          · rw [z]; exact up 3 (by decide)
          · rw [z]; exact up 0 (by decide)
          · rw [z]; exact ⟨Nat.lt_of_lt_of_le lta (Nat.le_add_right _ _), naP⟩
          · rw [z]; exact up 1 (by decide)
          · rw [z]; exact ⟨Nat.lt_of_lt_of_le ltb (Nat.le_add_right _ _), nbP⟩
        · have hd' : d = s0.heap.objs.size + 4 ∨ d = s0.heap.objs.size + 3 ∨ d = s0.heap.objs.size ∨ d = s0.heap.objs.size + 1 := by simpa using hd
          rcases hd' with z | z | z | z
          · rw [z]; exact Nat.le_add_right _ _
          · rw [z]; exact Nat.le_add_right _ _
          · rw [z]; exact Nat.le_refl _
          · rw [z]; exact Nat.le_add_right _ _
      · rintro i vals ⟨x1, x2, _, _, rfl⟩
        exact ⟨x1, x2, rfl⟩
      · intro cenv B E2 i va vb s2 m2 ig hv hma hmb
        obtain ⟨x1, x2, e1, e2', ev⟩ := hv
        have ev1 : va = x1 ∧ vb = x2 := by simpa using ev
        obtain ⟨rfl, rfl⟩ := ev1
        have hi : i < xs.length := by
          have := (Array.getElem?_eq_some_iff.mp e1).1
          rw [List.size_toArray] at this
          omega
        have gx : xs[i]? = some xs[i] := List.getElem?_eq_getElem hi
        have gy : ys[i]? = some (ys[i]'(by omega)) := List.getElem?_eq_getElem (by omega)
        obtain ⟨w1, ew1, rw1⟩ := rx.get gx
        obtain ⟨w2, ew2, rw2⟩ := ry.get gy
        have f1 : va = w1 := by
          have z : ix[i]? = some va := by simpa using e1
          rw [z] at ew1
          exact Option.some.inj ew1
        have f2 : vb = w2 := by
          have z : iy[i]? = some vb := by simpa using e2'
          rw [z] at ew2
          exact Option.some.inj ew2
        subst f1 f2
        obtain ⟨z, ez, tz⟩ := hzs i _ _ gx gy
        exact wpAny_mono (hel.run pins s0 σ H1 J ⟨ps, hP, trip⟩ cenv B E2 s2 m2 _ _ z va vb ig rw1 rw2 tz hma hmb) (fun y s3 rr => ⟨⟨z, ez, rr.1⟩, rr.2⟩) fun _ _ e => e
      · refine Calls.spliced_nil ?_
        obtain ⟨fp, wr, G, F', Z, W5, im, z0, hfp, hgf, hT, hinv⟩ := at5
        refine PySem.call_tuple_gen (n := xs.length) W5.in4_3 hT z0 hfp hgf (fun s' acc mv it => ?_) hz
        obtain ⟨H2, tb, J2⟩ := hinv s' mv
        have vs : Vals zs acc.toList := vals_of zs acc.toList (by rw [Array.length_toList, it.1, lz]) fun j u hj => im j u (it.2 j u (by simpa using hj))
        refine ⟨.ref s'.heap.objs.size, _, J2.laid (t' := s'.toks) (o := .tup zs) (fun b ob e => Heap.get?_push_of_some _ e) (Nat.le_refl _) ⟨by omega, acc.toList, vs, ?_⟩, rfl, q H2 _ tb (J2.hok.fresh (Nat.le_refl _))⟩
        have ea : acc.toList.toArray = acc := by simp
        rw [ea]
        exact IsTup.new _ _
/-! len({len(row) for row in rows}) -/
def cnt (ls : List Int) : Nat := (ls.foldl (fun (st : List Int × Nat) k => (st.1 ++ [k], if k ∈ st.1 then st.2 else st.2 + 1)) ([], 0)).2
theorem cnt_fst (ls : List Int) : ∀ (a : List Int) (n : Nat), (ls.foldl (fun (st : List Int × Nat) k => (st.1 ++ [k], if k ∈ st.1 then st.2 else st.2 + 1)) (a, n)).1 = a ++ ls := by
  induction ls with
  | nil => intro a n; rw [List.append_nil]; rfl
  | cons x r ih =>
    intro a n
    rw [List.foldl_cons, ih, List.append_assoc]
    rfl
theorem cnt_snoc (ls : List Int) (k : Int) : cnt (ls ++ [k]) = if k ∈ ls then cnt ls else cnt ls + 1 := by
  unfold cnt
  rw [List.foldl_append]
  show (if k ∈ (ls.foldl _ ([], 0)).1 then _ else _) = _
  rw [cnt_fst]
  rfl
theorem cnt_le (ls : List Int) : cnt ls ≤ ls.length := by
  rw [← List.reverse_reverse ls]
  induction ls.reverse with
  | nil => exact Nat.le_refl 0
  | cons x r ih =>
    rw [List.reverse_cons, cnt_snoc, List.length_append]
    split
    · exact Nat.le_trans ih (Nat.le_add_right _ _)
    · exact Nat.succ_le_succ ih
theorem lenB : bootBuiltins "len" = some (.builtin "len") := PySem.boot_len
theorem pe_lenSC {X : Cx} {i : Nat} {x r : Str} {scope : Scope} {p1 p2 p3 p4 p5 p6 p7 p8 : Pos} (hgl : Gl X "len") (hm : X.mg "len" = none) (hc : X.calm = true) (hN : X.N[i]? = some r) (hv : Vis X.env.scope r) (hk : scope.kind = .function)
    (hcell : ∀ y ∈ scope.names, y.2 ≠ .cell) (hnm : ∀ y ∈ scope.names, y.2 = .local → scope.names.lookup y.1 = some .local) (hfr : ∀ y ∈ scope.names, y.2 ≠ .free) (hx : scope.names.lookup x = some .local) (hl : (relabel scope X.env).names.lookup ("len" : Str) = some .globalImplicit)
    (hd : (x == ("__debug__" : Str)) = false := by decide) (hd2 : (r == ("__debug__" : Str)) = false := by decide) (hd3 : (r == ("__classdict__" : Str)) = false := by decide)
    (he : starEach [.SetComp (.Call (.Name "len" p2) [.Name x p3] [] p4) [⟨.Name x p5, .Name r p6, [], 0⟩] scope p7] X.env = (false, eval (.SetComp (.Call (.Name "len" p2) [.Name x p3] [] p4) [⟨.Name x p5, .Name r p6, [], 0⟩] scope p7) X.env) :: starEach [] X.env := by rfl) :
    PE X (.Call (.Name "len" p1) [.SetComp (.Call (.Name "len" p2) [.Name x p3] [] p4) [⟨.Name x p5, .Name r p6, [], 0⟩] scope p7] [] p8)
      (fun σ H Q => ∃ (l : Addr) (as : List (Addr × List V)), σ[i]? = some (some (.ref l)) ∧ H l = some (.lst (as.map fun q => V.ref q.1)) ∧ as.length ≤ 8 ∧ (∀ q ∈ as, TupO H q.1 q.2) ∧ Q (.int ((cnt (as.map fun q => ((q.2.length : Nat) : Int)) : Nat))) H) := by
  refine ⟨fun pins s σ H Q I h => ?_⟩
  obtain ⟨l, as, hσ, hH, hln, hts, q⟩ := h
  have hh := I.ok.hd hc
  have hsl : sizeLine = 16777216 := by decide
  have hsb : 100 < scanBound := by decide
  refine wpAny_Call_Name_kw (ld_blt I hgl hm lenB ?_)
  refine PyProof.Rows.callWith_builtin1 ?_ he (by rfl)
  rw [he]
  show wpAny _ _ (spliced ((false, eval (.SetComp (.Call (.Name "len" p2) [.Name x p3] [] p4) [⟨.Name x p5, .Name r p6, [], 0⟩] scope p7) X.env) :: backTo p8 (starEach [] X.env))) _ _ s
  refine Calls.spliced_cons (SetComp_goes (closure_ok fun y hy e => absurd e (hfr y hy)) hcell hk hnm ?_ (by intro _; rfl))
  refine thn ((pe_var (pos := p6) hN hv hd2 hd3).run pins s σ H (fun v H1 => v = .ref l ∧ H1 = H) I ⟨_, hσ, rfl, rfl⟩) fun xv s1 ⟨v, H1, I1, r1, e1, e2⟩ => ?_
  subst e1 e2
  obtain rfl : xv = Value.ref l := r1
  obtain ⟨its, rv, pl, _⟩ := I1.list (show SqL X.K H1 l _ from .inl (.inl hH))
  have hIL := pl.isList
  have hlt : l < s1.heap.objs.size := by
    obtain ⟨o, ho, _⟩ := hIL
    exact Heap.lt_size ho
  refine wpAny_pyIter_list hIL ?_
  generalize hs2 : ({ s1 with heap := s1.heap.push { cls := .type "list_iterator", data := .fields #[.ref l, .int 0 0] } } : Shared) = s2
  have k12 : ∀ b o, s1.heap.get? b = some o → s2.heap.get? b = some o := fun b o e => by
    rw [← hs2]
    exact Heap.get?_push_of_some _ e
  have hit : s2.heap.IsListIter s1.heap.objs.size l 0 := by
    rw [← hs2]
    exact ⟨_, Heap.get?_push_size _ rfl, rfl, rfl⟩
  have z2 : s2.heap.objs.size = s1.heap.objs.size + 1 := by
    rw [← hs2]
    exact Heap.size_push ..
  have os2 : s2.os = s1.os ∧ s2.gens = s1.gens ∧ s2.drawn = s1.drawn := by
    rw [← hs2]
    exact ⟨rfl, rfl, rfl⟩
  have len : its.length = as.length := by rw [← rv.length, List.length_map]
  refine ⟨s1.heap.objs.size, _, _, _, _, _, rfl, Goes.list hh s1.heap.objs.size l (Nat.ne_of_lt hlt) its.toArray, ⟨hit, hIL.at fun o e => k12 _ o e⟩, fun D C s3 hB hD => ?_⟩
  obtain ⟨⟨h3, tk3, rfl⟩, old, nD, nC, hDC, hns⟩ := hB
  let ls : List Int := as.map fun q => ((q.2.length : Nat) : Int)
  have hls : ls.length = as.length := List.length_map ..
  have ltD : s1.heap.objs.size < D := by
    have h9 : s2.heap.objs.size ≤ D := nD
    exact Nat.lt_of_lt_of_le (by rw [z2]; exact Nat.lt_succ_self _) h9
  have ltC : s1.heap.objs.size < C := by
    have h9 : s2.heap.objs.size ≤ C := nC
    exact Nat.lt_of_lt_of_le (by rw [z2]; exact Nat.lt_succ_self _) h9
  refine ⟨fun i s' => ∃ h' tk m, s' = { s2 with heap := h', toks := tk } ∧ h'.Ns C m ∧ SetR X.w h' D (fun k => decide (k ∈ ls.take i)) (cnt (ls.take i)) ∧ ∀ b o, s1.heap.get? b = some o → h'.get? b = some o, ⟨h3, tk3, _, rfl, hns, ?_, fun b o e => old b o (k12 b o e)⟩, ?_, ?_, ?_⟩
  · refine ⟨_, #[], 0, _, hD, ⟨rfl, rfl, rfl⟩, rfl, (fun e he => by simp at he), (by simp), (fun k => by simp), (by decide), (by rfl), rfl, List.Pairwise.nil, ?_⟩
    show _ ∨ (!X.w.params.followText "set-order") = true
    cases X.w.params.followText "set-order" with
    | false => exact .inr rfl
    | true => exact .inl rfl
  · rintro i s' h' tk ⟨h4, tk4, m, rfl, n4, R4, k4⟩ hk' _
    have off : ∀ b : Addr, b ≠ s1.heap.objs.size → b ∉ [s1.heap.objs.size] := fun b hb hm => hb (List.mem_singleton.mp hm)
    exact ⟨h', tk, m, rfl, n4.at' fun o e => hk' _ o (off _ (Nat.ne_of_gt ltC)) e, R4.at fun o e => hk' _ o (off _ (Nat.ne_of_gt ltD)) e, fun b o e => hk' b o (off _ (Nat.ne_of_lt (Heap.lt_size e))) (k4 b o e)⟩
  · rintro i v s' hi hv st ⟨h4, tk4, m, rfl, n4, R4, k4⟩
    have hv2 : its[i]? = some v := by simpa using hv
    have hi2 : i < as.length := by
      have := (List.getElem?_eq_some_iff.mp hv2).1
      omega
    have ga : (as.map fun q => V.ref q.1)[i]? = some (V.ref as[i].1) := by
      rw [List.getElem?_map, List.getElem?_eq_getElem hi2]
      rfl
    obtain ⟨u, hu, ru⟩ := rv.get ga
    rw [hv2] at hu
    cases hu
    obtain rfl : v = Value.ref as[i].1 := ru
    have hti := hts as[i] (List.getElem_mem hi2)
    obtain ⟨its2, rv2, it2, hz2⟩ := I1.tuple (show SqT X.K H1 as[i].1 _ from hti.sq)
    have hkx : (compEnvC scope (cloFrom X.env.cells scope.names []) C X.env).kindOf x = some .local := lookup_relabel_local hx
    have hp : ((compEnvC scope (cloFrom X.env.cells scope.names []) C X.env).scope.kind == .class || ((compEnvC scope (cloFrom X.env.cells scope.names []) C X.env).scope.kind == .module && (compEnvC scope (cloFrom X.env.cells scope.names []) C X.env).locals != (compEnvC scope (cloFrom X.env.cells scope.names []) C X.env).globals)) = false := by
      show (scope.kind == .class || (scope.kind == .module && _)) = false
      rw [hk]
      rfl
    refine wpAny_assign_Name (wpAny_storeName_local hkx n4 (fun h5 n5 s5 => ?_) hp)
    have k5 : ∀ b o, b ≠ C → h4.get? b = some o → h5.get? b = some o := fun b o hb e => (s5.2 b hb).trans e
    have k15 : ∀ b o, s1.heap.get? b = some o → h5.get? b = some o := fun b o e => k5 b o (Nat.ne_of_lt (Nat.lt_trans (Heap.lt_size e) ltC)) (k4 b o e)
    refine wpAny_tests_nil ?_
    rw [if_pos rfl]
    obtain ⟨mb, b1, b2⟩ := I1.mod.blt
    have up : ∀ {a : Addr} {m : Str → Option Value}, X.base.Ns a m → h5.Ns a m := fun n => (n.keeps I1.bk).keeps k15
    refine wpAny_Call_Name_kw (Calls.Name_function_global hk hl (Calls.loadGlobal_builtin (show h5.Ns X.env.globals X.mg by rw [I1.ok.glob]; exact up I1.mod.glob) hm (show h5.Ns X.env.builtins mb by rw [I1.ok.blt]; exact up b1) ((b2 "len" (by decide)).trans lenB) ?_))
    refine PyProof.Rows.callWith_builtin1 ?_ rfl rfl
    refine Calls.spliced_cons (wpAny_Name (wpAny_loadName_local hk hkx n5 (by rw [if_pos rfl]) ?_) hd)
    refine Calls.spliced_nil ?_
    obtain ⟨ot, hot, rest⟩ := it2
    refine len_tuple (items := its2.toArray) ⟨ot, k15 _ _ hot, rest⟩ (by simp only [List.size_toArray]; have := rv2.length; omega) ?_
    have R5 : SetR X.w h5 D (fun k => decide (k ∈ ls.take i)) (cnt (ls.take i)) := R4.at fun o e => k5 _ o hDC e
    have gl : ls[i]? = some ((its2.toArray.size : Nat) : Int) := by
      show (as.map _)[i]? = _
      rw [List.getElem?_map, List.getElem?_eq_getElem hi2, List.size_toArray, ← rv2.length]
      rfl
    refine setR_add R5 ?_ fun h6 sb6 new => ?_
    · have := cnt_le (ls.take i)
      rw [List.length_take] at this
      omega
    · have tk1 : ls.take (i + 1) = ls.take i ++ [((its2.toArray.size : Nat) : Int)] := by
        rw [List.take_add_one, gl]
        rfl
      have k6 : ∀ b o, b ≠ D → h5.get? b = some o → h6.get? b = some o := fun b o hb e => (sb6.2 b hb).trans e
      refine ⟨⟨h6, _, _, rfl, n5.at' fun o e => k6 _ o (Ne.symm hDC) e, ?_, fun b o e => k6 b o (Nat.ne_of_lt (Nat.lt_trans (Heap.lt_size e) ltD)) (k15 b o e)⟩, ?_⟩
      · rw [tk1, cnt_snoc]
        have e1 : (if decide (((its2.toArray.size : Nat) : Int) ∈ ls.take i) = true then cnt (ls.take i) else cnt (ls.take i) + 1) = (if ((its2.toArray.size : Nat) : Int) ∈ ls.take i then cnt (ls.take i) else cnt (ls.take i) + 1) := by
          by_cases z : ((its2.toArray.size : Nat) : Int) ∈ ls.take i
          · rw [if_pos z, if_pos (decide_eq_true z)]
          · rw [if_neg z, if_neg (fun y => z (of_decide_eq_true y))]
        rw [← e1]
        refine new.congr fun k => ?_
        rw [Bool.eq_iff_iff]
        simp
      · have a1 : s1.heap.objs.size ≠ C := Nat.ne_of_lt ltC
        have a2 : s1.heap.objs.size ≠ D := Nat.ne_of_lt ltD
        have a3 : l ≠ C := Nat.ne_of_lt (Nat.lt_trans hlt ltC)
        have a4 : l ≠ D := Nat.ne_of_lt (Nat.lt_trans hlt ltD)
        exact ⟨st.1.at fun o e => k6 _ o a2 (k5 _ o a1 e), st.2.at fun o e => k6 _ o a4 (k5 _ o a3 e)⟩
  · rintro s' ⟨h4, tk4, m, rfl, n4, R4, k4⟩
    refine ⟨m, n4, fun h5 sb => ?_⟩
    refine Calls.spliced_nil ?_
    have k5 : ∀ b o, b ≠ C → h4.get? b = some o → h5.get? b = some o := fun b o hb e => (sb.2 b hb).trans e
    obtain ⟨o, es, ep, t, ho, hx9, hd9, _, _, _, hb9, hf9, hn9, _⟩ := R4
    have el : ls.take its.toArray.size = ls := List.take_of_length_le (by rw [List.size_toArray, len, hls]; exact Nat.le_refl _)
    rw [el] at hn9
    have sm := cnt_le ls
    refine call_len_set (k5 _ _ hDC ho) hx9 hd9 hf9 (by omega) ?_
    subst hs2
    refine ⟨.int _, H1, I1.kept fun b u e => k5 b u (Nat.ne_of_lt (Nat.lt_trans (Heap.lt_size e) ltC)) (k4 b u e), ⟨tk4 + 1, by rw [hn9]⟩, q⟩
/-! sum(tuple) -/
theorem preSum_take (ns : List Int) : ∀ k, preSum (fun i => ns.getD i 0) k = (ns.take k).sum
  | 0 => rfl
  | k + 1 => by
    show preSum (fun i => ns.getD i 0) k + ns.getD k 0 = _
    rw [preSum_take ns k, List.take_add_one, List.getD_eq_getElem?_getD]
    cases ns[k]? with
    | none => simp
    | some x => simp
def rSumT (K : PySem.W.Frag) : List V → Hp → VK → Prop := fun vs H Q => ∃ (a : Addr) (ns : List Int), vs = [V.ref a] ∧ SqT K H a (ns.map V.int) ∧ Q (.int ns.sum) H
theorem cr_sumT {X : Cx} (hc : X.calm = true) : CallR X (.builtin "sum") (rSumT X.K) := by
  intro pins s σ H vs us Q I r h
  obtain ⟨a, ns, rfl, hs, q⟩ := h
  obtain ⟨its, rv, ht, _⟩ := I.tuple hs
  rw [Vals.ref1 r]
  have hh := I.ok.hd hc
  have lta : a < s.heap.objs.size := by
    obtain ⟨o, ho, _⟩ := ht
    exact Heap.lt_size ho
  have hl := rv.length
  rw [List.length_map] at hl
  refine call_sum_walkG (wpAny_pyIter_tuple (show s.heap.IsTuple a its.toArray from ht) ⟨s.heap.objs.size, _, _, _, _, _, fun i => ns.getD i 0, rfl, Walks.tuple (A := X.A.in1) hh s.heap.objs.size a (Nat.ne_of_lt lta) its.toArray, ⟨⟨_, Heap.get?_push_size _ rfl, rfl, rfl⟩, (show s.heap.IsTuple a its.toArray from ht).at fun o e => Heap.get?_push_of_some _ e⟩, fun b hb => ?_, fun i v hv => ?_, fun h' tk t' hk => ?_⟩)
  · show b < (s.heap.push _).objs.size
    rw [Heap.size_push]
    rcases List.mem_cons.mp hb with z | z
    · rw [z]
      exact Nat.lt_succ_self _
    · rw [List.mem_singleton.mp z]
      exact Nat.lt_succ_of_lt lta
  · have hv2 : its[i]? = some v := by simpa using hv
    have hi : i < ns.length := by
      have := (List.getElem?_eq_some_iff.mp hv2).1
      omega
    obtain ⟨u, hu, ru⟩ := rv.get (show (ns.map V.int)[i]? = some (V.int ns[i]) by rw [List.getElem?_map, List.getElem?_eq_getElem hi]; rfl)
    rw [hv2] at hu
    cases hu
    obtain ⟨t, rfl⟩ := (show ∃ t, v = Value.int ns[i] t from ru)
    exact ⟨t, by
      show Value.int ns[i] t = Value.int (ns.getD i 0) t
      rw [List.getD_eq_getElem?_getD, List.getElem?_eq_getElem hi]
      rfl⟩
  · rw [preSum_take, List.take_of_length_le (by rw [List.size_toArray]; omega)]
    refine ⟨.int _, H, I.kept fun b o e => hk b o (fun z => ?_) (Heap.get?_push_of_some _ e), ⟨_, rfl⟩, q⟩
    rw [List.mem_singleton] at z
    rw [z] at e
    exact Nat.lt_irrefl _ (Heap.lt_size e)
theorem sumTK {X : Cx} {K : PySem.W.Frag} (h : X.K = K) (hc : X.calm = true) : CallR X (.builtin "sum") (rSumT K) := by
  subst h
  exact cr_sumT hc
/-! elements -/
theorem elt_and {X : Cx} {P : Addr} {scope : Scope} {xa xb : Str} {p1 p2 p3 : Pos} (hk : scope.kind = .function) (l1 : scope.names.lookup xa = some .local) (l2 : scope.names.lookup xb = some .local)
    (n1 : (xa == ("__debug__" : Str)) = false := by decide) (n2 : (xb == ("__debug__" : Str)) = false := by decide) :
    PElt2 X P scope xa xb (.BinOp (.Name xa p1) .BitAnd (.Name xb p2) p3) (fun x y z => ∃ i j : Int, x = .int i ∧ y = .int j ∧ z = .int (Builtin.bitAnd i j)) := by
  refine ⟨fun pins s0 σ H I tg cenv B E2 s2 m2 v1 v2 y u1 u2 g r1 r2 te hma hmb => ?_⟩
  obtain ⟨i, j, rfl, rfl, rfl⟩ := te
  obtain ⟨t1, rfl⟩ := (show ∃ t, u1 = Value.int i t from r1)
  obtain ⟨t2, rfl⟩ := (show ∃ t, u2 = Value.int j t from r2)
  refine wpAny_BinOp (ig_local g hk l1 hma (GxR.keeps_refl s2) ?_ n1)
  refine ig_local g hk l2 hmb (GxR.keeps_refl s2) ?_ n2
  exact and_int ⟨⟨_, rfl⟩, GxR.keeps_tok s2 _⟩
theorem elt_or {X : Cx} {P : Addr} {scope : Scope} {xa xb : Str} {p1 p2 p3 : Pos} (hk : scope.kind = .function) (l1 : scope.names.lookup xa = some .local) (l2 : scope.names.lookup xb = some .local)
    (n1 : (xa == ("__debug__" : Str)) = false := by decide) (n2 : (xb == ("__debug__" : Str)) = false := by decide) :
    PElt2 X P scope xa xb (.BinOp (.Name xa p1) .BitOr (.Name xb p2) p3) (fun x y z => ∃ i j : Int, x = .int i ∧ y = .int j ∧ z = .int (Builtin.bitOr i j)) := by
  refine ⟨fun pins s0 σ H I tg cenv B E2 s2 m2 v1 v2 y u1 u2 g r1 r2 te hma hmb => ?_⟩
  obtain ⟨i, j, rfl, rfl, rfl⟩ := te
  obtain ⟨t1, rfl⟩ := (show ∃ t, u1 = Value.int i t from r1)
  obtain ⟨t2, rfl⟩ := (show ∃ t, u2 = Value.int j t from r2)
  refine wpAny_BinOp (ig_local g hk l1 hma (GxR.keeps_refl s2) ?_ n1)
  refine ig_local g hk l2 hmb (GxR.keeps_refl s2) ?_ n2
  exact or_int ⟨⟨_, rfl⟩, GxR.keeps_tok s2 _⟩
theorem elt_xor {X : Cx} {P : Addr} {scope : Scope} {xa xb : Str} {p1 p2 p3 : Pos} (hk : scope.kind = .function) (l1 : scope.names.lookup xa = some .local) (l2 : scope.names.lookup xb = some .local)
    (n1 : (xa == ("__debug__" : Str)) = false := by decide) (n2 : (xb == ("__debug__" : Str)) = false := by decide) :
    PElt2 X P scope xa xb (.BinOp (.Name xa p1) .BitXor (.Name xb p2) p3) (fun x y z => ∃ i j : Int, x = .int i ∧ y = .int j ∧ z = .int (Builtin.bitXor i j)) := by
  refine ⟨fun pins s0 σ H I tg cenv B E2 s2 m2 v1 v2 y u1 u2 g r1 r2 te hma hmb => ?_⟩
  obtain ⟨i, j, rfl, rfl, rfl⟩ := te
  obtain ⟨t1, rfl⟩ := (show ∃ t, u1 = Value.int i t from r1)
  obtain ⟨t2, rfl⟩ := (show ∃ t, u2 = Value.int j t from r2)
  refine wpAny_BinOp (ig_local g hk l1 hma (GxR.keeps_refl s2) ?_ n1)
  refine ig_local g hk l2 hmb (GxR.keeps_refl s2) ?_ n2
  exact xor_int ⟨⟨_, rfl⟩, GxR.keeps_tok s2 _⟩
/-! heaps with tables -/
theorem trip0 : TriplesOk (#[] : Array Value).toList := trivial
structure Sam (H H' : Hp) : Prop where
  obj : ∀ b o, (∀ ps, o ≠ .tbl ps) → H b = some o → H' b = some o
  tab : ∀ b ps, H b = some (.tbl ps) → ∃ ps', H' b = some (.tbl ps') ∧ (TriplesOk ps.toList → TriplesOk ps'.toList)
theorem Sam.of {H H' : Hp} (s : Same H H') : Sam H H' := ⟨fun b o _ e => s b o e, fun b ps e => ⟨ps, s b _ e, fun z => z⟩⟩
theorem Sam.refl (H : Hp) : Sam H H := .of (Same.refl H)
theorem Sam.trans {H H1 H2 : Hp} (a : Sam H H1) (b : Sam H1 H2) : Sam H H2 := ⟨fun c o n e => b.obj c o n (a.obj c o n e), fun c ps e => by
  obtain ⟨p1, e1, t1⟩ := a.tab c ps e
  obtain ⟨p2, e2, t2⟩ := b.tab c p1 e1
  exact ⟨p2, e2, fun z => t2 (t1 z)⟩⟩
theorem Sam.tabG {H H' : Hp} {P : Addr} (a : Sam H H') (t : GxR.TabG H P) : GxR.TabG H' P := by
  obtain ⟨ps, e, z⟩ := t
  obtain ⟨p1, e1, t1⟩ := a.tab P ps e
  exact ⟨p1, e1, t1 z⟩
theorem Sam.tup {H H' : Hp} {a : Addr} {xs : List V} (s : Sam H H') (h : H a = some (.tup xs)) : H' a = some (.tup xs) := s.obj _ _ (fun _ z => by cases z) h
theorem Sam.lst {H H' : Hp} {a : Addr} {xs : List V} (s : Sam H H') (h : H a = some (.lst xs)) : H' a = some (.lst xs) := s.obj _ _ (fun _ z => by cases z) h
theorem Sam.free {H H' : Hp} (s : Sam H H') {l : Addr} (h : H' l = none) : H l = none := by
  cases q : H l with
  | none => rfl
  | some o =>
    cases o with
    | tbl ps =>
      obtain ⟨p1, e1, _⟩ := s.tab l ps q
      rw [e1] at h
      cases h
    | _ =>
      rw [s.obj l _ (fun _ z => by cases z) q] at h
      cases h
theorem Sam.tabbed {P : Addr} {H H' : Hp} (g : GxR.TabG H P) (t : GxR.Tabbed P H H') : Sam H H' := by
  obtain ⟨⟨p1, e1, z1⟩, k⟩ := t
  obtain ⟨p0, e0, _⟩ := g
  refine ⟨fun b o n e => ?_, fun b ps e => ?_⟩
  · by_cases hb : b = P
    · rw [hb, e0] at e
      exact absurd (Option.some.inj e).symm (n p0)
    · rw [k b hb]
      exact e
  · by_cases hb : b = P
    · rw [hb]
      exact ⟨p1, e1, fun _ => z1⟩
    · exact ⟨ps, by rw [k b hb]; exact e, fun z => z⟩
theorem sam_newer {H H' : Hp} {q : Addr} {o : HO} (a : Sam H H') (n : H q = none) : Sam H (upd H' q o) := ⟨fun c x hx e => by
    rw [upd_ne (ne_of_none e n)]
    exact a.obj c x hx e, fun c ps e => by
    obtain ⟨p1, e1, t1⟩ := a.tab c ps e
    exact ⟨p1, by rw [upd_ne (ne_of_none e n)]; exact e1, t1⟩⟩
/-- all but the box stays, tables grow -/
structure Bus (p : Addr) (H H' : Hp) : Prop where
  obj : ∀ b o, b ≠ p → (∀ ps, o ≠ .tbl ps) → H b = some o → H' b = some o
  tab : ∀ b ps, b ≠ p → H b = some (.tbl ps) → ∃ ps', H' b = some (.tbl ps') ∧ (TriplesOk ps.toList → TriplesOk ps'.toList)
theorem Bus.of {p : Addr} {H H' : Hp} (s : But p H H') : Bus p H H' := ⟨fun b o n _ e => s b o n e, fun b ps n e => ⟨ps, s b _ n e, fun z => z⟩⟩
theorem Bus.sam {p : Addr} {H H' : Hp} (s : Sam H H') : Bus p H H' := ⟨fun b o _ n e => s.obj b o n e, fun b ps _ e => s.tab b ps e⟩
theorem Bus.refl (p : Addr) (H : Hp) : Bus p H H := .of (But.refl p H)
theorem Bus.trans {p : Addr} {H H1 H2 : Hp} (a : Bus p H H1) (b : Bus p H1 H2) : Bus p H H2 := ⟨fun c o h n e => b.obj c o h n (a.obj c o h n e), fun c ps h e => by
  obtain ⟨p1, e1, t1⟩ := a.tab c ps h e
  obtain ⟨p2, e2, t2⟩ := b.tab c p1 h e1
  exact ⟨p2, e2, fun z => t2 (t1 z)⟩⟩
theorem Bus.tup {p : Addr} {H H' : Hp} {n : Nat} {a : Addr} {xs : List V} (s : Bus p H H') (B : Bx H p n) (h : H a = some (.tup xs)) : H' a = some (.tup xs) := s.obj _ _ (B.ne_tup h) (fun _ z => by cases z) h
theorem Bus.lst {p : Addr} {H H' : Hp} {a : Addr} {xs : List V} (s : Bus p H H') (ne : a ≠ p) (h : H a = some (.lst xs)) : H' a = some (.lst xs) := s.obj _ _ ne (fun _ z => by cases z) h
theorem Bus.tabG {p : Addr} {H H' : Hp} {n : Nat} {P : Addr} (s : Bus p H H') (B : Bx H p n) (t : GxR.TabG H P) : GxR.TabG H' P := by
  obtain ⟨ps, e, z⟩ := t
  obtain ⟨a, b, c, hp, _⟩ := B
  obtain ⟨p1, e1, t1⟩ := s.tab P ps (ne_of e hp (fun z => by cases z)) e
  exact ⟨p1, e1, t1 z⟩
theorem Bus.new {p q : Addr} {H H' : Hp} {o : HO} (a : Bus p H H') (n : H' q = none) : Bus p H (upd H' q o) := a.trans (.of ((But.refl p H').new n))
/-- a thing made since H may change -/
theorem bus_newer {p q : Addr} {H H' : Hp} {o : HO} (a : Bus p H H') (n : H q = none) : Bus p H (upd H' q o) := ⟨fun c x h hx e => by
    rw [upd_ne (ne_of_none e n)]
    exact a.obj c x h hx e, fun c ps h e => by
    obtain ⟨p1, e1, t1⟩ := a.tab c ps h e
    exact ⟨p1, by rw [upd_ne (ne_of_none e n)]; exact e1, t1⟩⟩
theorem Bus.free {p : Addr} {H H' : Hp} {n : Nat} (s : Bus p H H') (B : Bx H p n) (B' : ∃ m, Bx H' p m) {l : Addr} (h : H' l = none) : H l = none := by
  cases q : H l with
  | none => rfl
  | some o =>
    have nl : l ≠ p := fun z => by
      obtain ⟨m, _, _, _, hp, _⟩ := B'
      rw [z, hp] at h
      cases h
    cases o with
    | tbl ps =>
      obtain ⟨p1, e1, _⟩ := s.tab l ps nl q
      rw [e1] at h
      cases h
    | _ =>
      rw [s.obj l _ nl (fun _ z => by cases z) q] at h
      cases h
theorem Bx.sam {H H' : Hp} {p : Addr} {n : Nat} (h : Bx H p n) (s : Sam H H') : Bx H' p n := by
  obtain ⟨a, b, c, hp, r⟩ := h
  exact ⟨a, b, c, s.lst hp, r⟩
theorem bus_same {p : Addr} {H H1 H2 : Hp} (n : H p = none) (a : Sam H H1) (b : Bus p H1 H2) : Sam H H2 := ⟨fun c x h e => b.obj c x (ne_of_none e n) h (a.obj c x h e), fun c ps e => by
  obtain ⟨p1, e1, t1⟩ := a.tab c ps e
  obtain ⟨p2, e2, t2⟩ := b.tab c p1 (ne_of_none e n) e1
  exact ⟨p2, e2, fun z => t2 (t1 z)⟩⟩
theorem ne_new {H : Hp} {p q : Addr} {n : Nat} (B : Bx H p n) (nq : H q = none) : q ≠ p := fun e => by
  obtain ⟨_, _, _, hp, _⟩ := B
  rw [e, hp] at nq
  cases nq
theorem nat_of {x : Int} (h : 0 ≤ x) : ∃ m : Nat, x = (m : Nat) := Int.eq_ofNat_of_zero_le h
theorem nx_via {t u : TS} {D : Ends} {r : VK} {k c : L2.St → Hp → Prop} {σ : L2.St} {H : Hp} (R : L2.St → Hp → Prop) (h1 : ∀ N : L2.St → Hp → Prop, (∀ σ H, R σ H → N σ H) → t { D with nx := N } σ H) (h2 : ∀ σ H, R σ H → u D σ H) : Ends.nx { nx := tSeq t u D, rt := r, bk := k, ct := c } σ H := h1 _ h2
theorem seq_via {t u : TS} {D : Ends} {σ : L2.St} {H : Hp} (R : L2.St → Hp → Prop) (h1 : ∀ N : L2.St → Hp → Prop, (∀ σ H, R σ H → N σ H) → t { D with nx := N } σ H) (h2 : ∀ σ H, R σ H → u D σ H) : tSeq t u D σ H := h1 _ h2
theorem u1 {k : Nat} {A : Around} (r : Room k A) : A.units + 1 < cLine := by
  have := r.un
  omega
theorem lcK {X : Cx} {K : PySem.W.Frag} (h : X.K = K) : MtR X "list.count" (rCntI K) := by
  subst h
  exact mt_lcount
theorem pe_bmK {X : Cx} {K : PySem.W.Frag} {T id : String} {name : Str} {r : V → List V → Hp → VK → Prop} {o e : Expr} {es : List Expr} {to : TE} {t : TA} {apos cpos : Pos} (pa : PlainAttrs T) (slot : Slot T name id) (hty : typeOf (.builtin id) = pure (.type "method_descriptor")) (hm : MtR X id r) (ho : PE X o to) (ha : PA X (e :: es) t) (hk : X.K = K := by rfl)
    (hbase : attributeBase o name X.env (eval o X.env) = eval o X.env := by rfl)
    (hfew : ((backTo cpos (starEach (e :: es) X.env)).all (fun x => !x.1) && (backToKw cpos (keywordEach [] X.env)).all (fun x => x.1.isSome) && decide ((e :: es).length + ([] : List Keyword).length + (if ([] : List Keyword).isEmpty then 0 else 1) < 30)) = true := by rfl)
    (hline : (apos.endLine == cpos.line) = true := by rfl) (hs : starEach (e :: es) X.env = (false, eval e X.env) :: starEach es X.env := by rfl) (hplain : (backTo cpos (starEach es X.env)).any (·.1) = false := by rfl) :
    PE X (.Call (.Attribute o name apos) (e :: es) [] cpos) (tBM K T r to t) := by
  subst hk
  exact pe_bm pa slot hty hm ho ha hbase hfew hline hs hplain
/-! generator expressions whose element is anything that PE serves: the generator's own frame as a context -/
abbrev Cx.gblk (X : Cx) (s : Shared) (H : Hp) (scope : Scope) (C : Addr) (code : Value) (fp : List Addr) : Cx :=
  { X with A := X.A.in1.in1.in1.in1.deeper (genEnv scope (cloFrom X.env.cells scope.names []) C code builtinsNs X.env), s_0 := s, H_0 := H, env := genEnv scope (cloFrom X.env.cells scope.names []) C code builtinsNs X.env, outer := X.stack, stack := (genEnv scope (cloFrom X.env.cells scope.names []) C code builtinsNs X.env) :: X.stack, ex := fp, fn := fun x => scope.names.lookup x == some .cell, pn := [], xe := fun _ _ => False }
theorem over_gen {A : Around} {elt : Expr} {gs : List Comprehension} {sc : Scope} {pos : Pos} {it acc : Value} {env : Env} : A.over (.compLoop (.GeneratorExp elt gs sc pos) 0 it acc env) [] = A.deeper env := by
  first
    | rfl
    | (obtain ⟨hd, d, fr, gd, u⟩ := A; simp [Around.over, Around.deeper, marksOver, frameCount, unitsOf, envsOf, guardsOf, pushEnvs, pushGuards, Code.envs, Code.env?, Code.isFrame, Code.guards, Code.isGuard, Code.weight, Code.frames, Code.isCreation, Code.isCaller, Code.cUnits])
theorem over_gen0 {A : Around} {elt : Expr} {gs : List Comprehension} {sc : Scope} {pos : Pos} {it acc : Value} {env : Env} : A.over (.compStart (.GeneratorExp elt gs sc pos) 0 it acc env) [] = A.deeper env := by
  first
    | rfl
    | (obtain ⟨hd, d, fr, gd, u⟩ := A; simp [Around.over, Around.deeper, marksOver, frameCount, unitsOf, envsOf, guardsOf, pushEnvs, pushGuards, Code.envs, Code.env?, Code.isFrame, Code.guards, Code.isGuard, Code.weight, Code.frames, Code.isCreation, Code.isCaller, Code.cUnits])
theorem Room.gen {k : Nat} {A : Around} (r : Room (k + 1) A) (env : Env) : Room k (A.in1.in1.in1.in1.deeper env) :=
  ⟨r.hd, by have := r.dp; show A.depth + 1 + 3 * k + 5 < _; omega, by have := r.un; show A.units + 1 + 1 + 1 + 1 + 3 + 16 * k + 200 < _; omega⟩
/-- the names of a generator expression: as a block's, none of them a cell of its own -/
structure GenOk (N : List Str) (sc scope : Scope) (own : List (Str × Nat)) : Prop where
  blk : BlkOk N sc scope own
  co : scope.isCoroutine = false
  cel : ∀ y ∈ scope.names, y.2 ≠ .cell
  dot : scope.names.lookup (".0" : Str) = some NameKind.local
theorem genOk_by {N : List Str} {sc scope : Scope} {own : List (Str × Nat)} (h : blkC N sc scope own = true) (co : scope.isCoroutine = false) (cel : (scope.names.all fun y => y.2 != .cell) = true) (dot : scope.names.lookup (".0" : Str) = some NameKind.local) : GenOk N sc scope own := by
  refine ⟨blkOk_by h, co, fun y hy e => ?_, dot⟩
  have := List.all_eq_true.mp cel y hy
  rw [e] at this
  cases this
section
variable {X : Cx} {pins : List (Addr × Obj)} {σ : L2.St} {H : Hp} {s : Shared}
theorem gen_start {scope : Scope} {own : List (Str × Nat)} {fp : List Addr} {code : Value} {h' : Heap} {go : Obj} {G : Array GenState} {tk : Nat} {it : Value} (I : Inv X pins σ H s) (ok : GenOk X.N X.env.scope scope own) (hN : X.N.Nodup) (hfp : ∀ b ∈ fp, FpOk X pins H b ∧ b < s.heap.objs.size)
    (hns : h'.Ns s.heap.objs.size (fun y => if y = ".0" then some it else none)) (sb : Heap.SameBut s.heap.objs.size (s.heap.push { cls := .type "frame", data := .dict #[] }) h') (hG : AllBare G) (hgo : (h'.push go).get? h'.objs.size = some go) (hgd : ∀ v, go.data ≠ .cell v) :
    Inv (Cx.gblk X s H scope s.heap.objs.size code fp) [(h'.objs.size, go)] (wipe σ (own.map (·.2))) H { s with gens := G, toks := tk, heap := h'.push go } := by
  have hfree : ∀ y ∈ scope.names, y.2 = .free → ∃ c, X.env.cells.lookup y.1 = some c := fun y hy e => by
    rcases ok.blk.free y hy e with k | k
    · exact I.ok.has _ (.inl k)
    · exact I.ok.has _ (.inr k)
  have szh : h'.objs.size = s.heap.objs.size + 1 := by rw [sb.1, Heap.size_push]
  have kp : ∀ b o, s.heap.get? b = some o → (h'.push go).get? b = some o := fun b o e => Heap.get?_push_of_some _ (sb.extBut b o (Nat.ne_of_lt (Heap.lt_size e)) (Heap.get?_push_of_some _ e))
  have cm : ∀ {y c}, (cloFrom X.env.cells scope.names []).lookup y = some c → X.env.cells.lookup y = some c ∧ c < s.heap.objs.size ∧ (y, NameKind.free) ∈ scope.names := fun {y c} e => by
    rcases cloFrom_mem (PySem.mem_of_lookup e) with hm | ⟨h1, rfl⟩
    · cases hm
    · obtain ⟨c, hc⟩ := hfree _ h1 rfl
      rw [hc]
      obtain ⟨w, z⟩ := I.cell _ _ hc
      exact ⟨rfl, z.lt, h1⟩
  have look : ∀ {y}, scope.names.lookup y = some .free → ∃ c, (cloFrom X.env.cells scope.names []).lookup y = some c ∧ X.env.cells.lookup y = some c := fun {y} hl => by
    have hy : (y, NameKind.free) ∈ scope.names := PySem.mem_of_lookup hl
    obtain ⟨c', e'⟩ := mem_lookup (cloFrom_has (cells := X.env.cells) (acc := []) hy)
    exact ⟨c', e', (cm e').1⟩
  have okB : (Cx.gblk X s H scope s.heap.objs.size code fp).Ok := by
    refine ⟨I.ok.mod, ok.blk.kind, I.ok.glob, rfl, Nat.le_refl _, fun y z c e1 e2 => I.ok.inj y z c (cm e1).1 (cm e2).1, fun y hy => ?_, fun y c z e => ?_, I.ok.hd, ?_, .inr ⟨rfl, rfl⟩, fun b hb => ⟨?_, fun y c e z => ?_⟩, I.bs, Nat.le_trans I.ok.bsz I.sz, fun b o e hb => ?_, fun b hb z => ?_, I.stack, I.stkFree⟩
    · rcases hy with hy | hy
      · have hy : scope.names.lookup y = some .cell := hy
        exact absurd rfl (ok.cel _ (PySem.mem_of_lookup hy))
      · obtain ⟨c, h1, _⟩ := look (y := y) hy
        exact ⟨c, h1⟩
    · have z : (scope.names.lookup y == some NameKind.cell) = true := z
      have z : scope.names.lookup y = some .cell := by simpa using z
      exact absurd rfl (ok.cel _ (PySem.mem_of_lookup z))
    · show (X.A.frames.map (_ :: ·)) = some (_ :: X.stack)
      rw [I.ok.frames]
      rfl
    · exact Nat.ne_of_lt (hfp b hb).2
    · exact (hfp b hb).1.2.2.2.2.1 y c (cm e).1 z
    · rcases (hfp b hb).1.2.2.2.1 with z | z
      · exact I.ok.noex b o e z
      · exact absurd (Nat.lt_of_lt_of_le (Heap.lt_size e) (Nat.le_trans I.ok.bsz z)) (Nat.lt_irrefl _)
    · rcases List.mem_cons.mp (I.stkSub b z) with z | z
      · exact (hfp b hb).1.2.1 z
      · exact (hfp b hb).1.2.2.1 z
  refine ⟨okB, rfl, hG, Un.kept kp, ⟨_, hns.push go, fun i y av e1 e2 e3 => ?_⟩, fun y c e => ?_, I.hok.fresh (Nat.le_refl _), fun y c e => I.freeC y c (cm e).1, fun p hp => ?_, I.hok.kept kp, by rw [wipe_length]; exact I.len⟩
  · obtain ⟨e2, hne⟩ := wipe_some e2
    have e3 : Vis scope y := e3
    have hfr : scope.names.lookup y = some .free := by
      have no : ∀ k, scope.names.lookup y = some k → (k = .local ∨ k = .cell) → False := fun k e hh => by
        rcases ok.blk.own _ (PySem.mem_of_lookup e) hh with e' | e'
        · obtain ⟨p, hp, hpy⟩ := List.mem_map.mp e'
          have e3 := ok.blk.ix p hp
          have : p.1 = y := hpy
          rw [this] at e3
          exact hne (List.mem_map.mpr ⟨p, hp, nodup_ix hN e3 e1⟩)
        · exact e' (List.mem_of_getElem? e1)
      rcases e3 with e3 | e3 | e3
      · exact (no _ e3 (.inl rfl)).elim
      · exact (no _ e3 (.inr rfl)).elim
      · exact e3
    obtain ⟨m, hn, hl⟩ := I.loc
    have hvis : Vis X.env.scope y := (ok.blk.free _ (PySem.mem_of_lookup hfr) rfl).elim (fun k => .inr (.inl k)) (fun k => .inr (.inr k))
    obtain ⟨w, r, q⟩ := hl i y av e1 e2 hvis
    refine ⟨w, r, .inr ⟨.inr hfr, ?_⟩⟩
    obtain ⟨c, h1, h2⟩ := look hfr
    rcases q with ⟨k, _⟩ | ⟨_, c', e', z⟩
    · have k : X.env.scope.names.lookup y = some .local := k
      rcases ok.blk.free _ (PySem.mem_of_lookup hfr) rfl with k' | k' <;> rw [show X.env.scope.names.lookup y = _ from k'] at k <;> cases k
    · rw [h2] at e'; cases e'
      exact ⟨c, h1, z.keeps kp⟩
  · obtain ⟨w, z⟩ := I.cell y c (cm e).1
    exact ⟨w, z.keeps kp⟩
  · have hp : p = (h'.objs.size, go) := by simpa using hp
    subst hp
    have ge : s.heap.objs.size ≤ h'.objs.size := by omega
    refine ⟨hgo, I.hok.fresh ge, by show h'.objs.size ≠ s.heap.objs.size; omega, fun z => ?_, hgd⟩
    rcases List.mem_cons.mp (I.stkSub _ z) with z | z
    · have z : h'.objs.size = X.env.locals := z
      exact Nat.ne_of_lt (Nat.lt_of_lt_of_le I.lt ge) z.symm
    · exact I.nofs ge z
end
section
/-- what the consumer holds beside, what it is told, where it goes on, the end -/
structure GPar where
  ext : List V → List (Addr × Obj) → Prop
  yld : List V → V → Hp → Prop
  go : List V → V → Hp → Prop
  fin : List V → Hp → Prop
def YG (Y : Cx) (ga : Addr) (go : Obj) (p : GPar) : Protocol := fun _ _ v s kap => ∃ (ys : List V) (y : V) (H' : Hp) (ps pf : List (Addr × Obj)) (σ' : L2.St), RelV y v ∧ p.ext ys ps ∧ (∀ q ∈ pf, q.1 < Y.env.locals) ∧ Inv Y (((ga, go) :: ps) ++ pf) σ' H' s ∧ p.yld ys y H' ∧
  ∀ s' ps', p.ext (ys ++ [y]) ps' → Inv Y (((ga, go) :: ps') ++ pf) σ' H' s' → p.go ys y H' → kap (.send .none) s'
def RG (Y : Cx) (ga : Addr) (go : Obj) (p : GPar) : Shared → Prop := fun s => ∃ (ys : List V) (H' : Hp) (ps : List (Addr × Obj)) (σ' : L2.St), p.ext ys ps ∧ Inv Y ((ga, go) :: ps) σ' H' s ∧ p.fin ys H'
theorem gen_loop {Y : Cx} {A : Around} {ga : Addr} {go : Obj} {p : GPar} {elt tg iter : Expr} {ifs : List Expr} {scope : Scope} {pos : Pos} {it : Addr} {fp : List Addr} {tn : Nat → Heap → Prop} {J : It} {g : TG} {tt : TT} {te : TE} {σ : L2.St} {vs : List Nat} {W : List V → Nat → Nat → Hp → Prop}
    (hcal : Y.calm = true) (hpn : Y.pn = []) (T : Turn Y.prog Y.w Y.K tg J fp it tn) (hpg : PG Y tg g) (hpt : PTs Y ifs tt) (hpe : PE Y elt te) (hxe : Y.xe = fun _ _ => False)
    (hA : A.over (.compLoop (.GeneratorExp elt [⟨tg, iter, ifs, 0⟩] scope pos) 0 (.ref it) .none Y.env) [] = Y.A) (hex : ∀ b ∈ fp, b ∈ Y.ex) (hga : ∀ b ∈ fp, ga ≠ b) (hext : ∀ ys ps, p.ext ys ps → ∀ q ∈ ps, ∀ b ∈ fp, q.1 ≠ b) (hco : Y.env.scope.isCoroutine = false) (hfl : ∀ b ∈ fp, b < Y.env.locals)
    (step : ∀ ys i m H, W ys i m H → (J.stop i H ∧ p.fin ys H) ∨ (J.go i H ∧ ∃ Nx : List V → Hp → Prop, (∀ ys' H', Nx ys' H' → ∃ m', m' < m ∧ W ys' (i + 1) m' H') ∧ ∀ x H', J.yld i H x H' → g x (wipe σ vs) H' fun σ2 H2 => wipe σ2 vs = wipe σ vs ∧ tt σ2 H2 fun b H3 =>
      if b = true then te σ2 H3 fun y H4 => p.yld ys y H4 ∧ (p.go ys y H4 → Nx (ys ++ [y]) H4) else Nx ys H3)) :
    ∀ (m n i : Nat) (ys : List V) (H : Hp) (ps : List (Addr × Obj)) (s₀ s : Shared), m < n → W ys i m H → p.ext ys ps → Inv Y ((ga, go) :: ps) (wipe σ vs) H s → tn i s.heap → (∀ b ∈ fp, H b = none) →
      Seg (model Y.prog Y.w) A (fun n s₀ r s₁ => r = .ok .next ∧ (fun _ _ s => RG Y ga go p s) n s₀ s₁) (YG Y ga go p) n s₀ (.compLoop (.GeneratorExp elt [⟨tg, iter, ifs, 0⟩] scope pos) 0 (.ref it) .none Y.env)
        ((model Y.prog Y.w).den (.compLoop (.GeneratorExp elt [⟨tg, iter, ifs, 0⟩] scope pos) 0 (.ref it) .none Y.env)) [] s := by
  intro m
  induction m using Nat.strongRecOn with
  | ind m ih =>
  intro n i ys H ps s₀ s hmn w0 ex0 I0 st0 n0
  have stat : ∀ {σ' : L2.St} {H' : Hp} {s' : Shared} {ys' ps'}, p.ext ys' ps' → Inv Y ((ga, go) :: ps') σ' H' s' → (∀ b ∈ fp, H' b = none) → ∀ b ∈ fp, FpOk Y ((ga, go) :: ps') H' b := fun {σ' H' s' ys' ps'} e' I' hn b hb =>
    ⟨hn b hb, (I'.ok.exf b (hex b hb)).1, I'.ok.exfs b (hex b hb), .inl (hex b hb), fun x c e => (I'.ok.exf b (hex b hb)).2 x c e, fun q hq => by
      rw [hpn, List.nil_append] at hq
      rcases List.mem_cons.mp hq with z | z
      · rw [z]; exact hga b hb
      · exact hext _ _ e' q z b hb⟩
  show Seg _ A _ _ _ s₀ _ ((compTurn (.GeneratorExp elt [⟨tg, iter, ifs, 0⟩] scope pos) 0 (.ref it) .none Y.env).onRaise (leaving Y.env)) [] s
  rw [compTurn_gen, Sem.onRaise_eq_wrap]
  refine seg_bind_wrap (wpAny_standAt ?_)
  rcases step ys i m H w0 with ⟨stop, qf⟩ | ⟨gon, Nx, hNx, turn⟩
  · refine seg_bind_wrap ?_
    rw [hA]
    refine thnF (T.done Y rfl rfl rfl hcal i _ s _ H (fun _ _ => False) I0 (stat ex0 I0 n0) st0 stop) fun r s6 ⟨hr, I6⟩ => ?_
    subst hr
    exact seg_end (.ok .next) ⟨rfl, ys, H, ps, _, ex0, I6, qf⟩
  · refine seg_bind_wrap ?_
    rw [hA]
    refine thnF (T.item Y rfl rfl rfl hcal i _ s _ H (fun _ _ => False) I0 (stat ex0 I0 n0) st0 gon) fun r s6 ⟨u, hr, h6⟩ => ?_
    subst hr
    refine seg_bind_wrap ?_
    rw [hA]
    refine thnF h6 fun _ s7 ⟨x, H7, I7, r7, y7, st7, n7⟩ => ?_
    have I7' := I7.pinned (stat ex0 I7 n7) (T.obj _ _ st7)
    refine seg_bind_wrap ?_
    rw [hA]
    have fx : ∀ {α : Type} {t : Sem α} {Q : α → Shared → Prop} {s : Shared}, wpAny (model Y.prog Y.w) Y.A t Q Y.xe s → wpAny (model Y.prog Y.w) Y.A t Q (fun _ _ => False) s := fun h => by rw [hxe] at h; exact h
    refine thnF (fx (hpg.run _ s7 _ H7 x u _ I7' r7 (turn x H7 y7))) fun _ s8 ⟨σ8, H8, I8, hw8, q8⟩ => ?_
    refine seg_bind_wrap ?_
    rw [hA]
    refine thnF (fx (hpt.run _ s8 σ8 H8 _ I8 q8)) fun b s9 ⟨H9, I9, q9⟩ => ?_
    have fin : ∀ {s' : Shared} {H' : Hp} {ys' ps' m'}, m' < m → ∀ {n' : Nat} {s₀' : Shared}, m' < n' → p.ext ys' ps' → Inv Y (((ga, go) :: ps') ++ pinsAt fp s7.heap) σ8 H' s' → W ys' (i + 1) m' H' → Seg (model Y.prog Y.w) A (fun n s₀ r s₁ => r = .ok .next ∧ (fun _ _ s => RG Y ga go p s) n s₀ s₁) (YG Y ga go p) n' s₀' (.compLoop (.GeneratorExp elt [⟨tg, iter, ifs, 0⟩] scope pos) 0 (.ref it) .none Y.env)
        ((model Y.prog Y.w).den (.compLoop (.GeneratorExp elt [⟨tg, iter, ifs, 0⟩] scope pos) 0 (.ref it) .none Y.env)) [] s' := fun {s' H' ys' ps' m'} hm {n' s₀'} hn e' I' w' => by
      have pin' : ∀ b ∈ fp, ∀ o, s7.heap.get? b = some o → s'.heap.get? b = some o ∧ H' b = none := fun b hb o e =>
        let z := I'.pin (b, o) (List.mem_append_right _ (List.mem_append_right _ (mem_pinsAt hb e)))
        ⟨z.1, z.2.1⟩
      have hl : (wipe σ vs).length = σ8.length := by rw [← hw8, wipe_length]
      have I2 : Inv Y ((ga, go) :: ps') σ8 H' s' := I'.pins_of fun q hq => I'.pin q (List.mem_append_right _ (List.mem_append_left _ hq))
      refine ih m' hm n' (i + 1) ys' H' ps' s₀' s' hn w' e' (I2.weak hl fun j v e => ?_) (T.keep _ _ _ st7 fun b hb o e => (pin' b hb o e).1) fun b hb => ?_
      · rw [← hw8] at e
        exact (wipe_some e).1
      · obtain ⟨o, e, _⟩ := T.obj _ _ st7 b hb
        exact (pin' b hb o e).2
    cases b with
    | false =>
      simp only [Bool.false_eq_true, if_false] at q9 ⊢
      obtain ⟨m', hm, w'⟩ := hNx _ _ q9
      exact seg_again rfl (fin hm (by omega) ex0 I9 w')
    | true =>
      simp only [if_true] at q9 ⊢
      have hy : ∀ v, yieldOut Y.env v = yieldValue v := fun v => by simp only [yieldOut, hco, Bool.false_eq_true, if_false]
      simp only [hy]
      rw [Sem.bind_eq_wrap', Sem.bind_eq_wrap', Sem.wrap_wrap, Sem.wrap_wrap]
      refine seg_wrap ?_
      rw [hA]
      refine thnF (fx (hpe.run _ s9 σ8 H9 _ I9 q9)) fun z s10 ⟨yv, H10, I10, r10, yl, cont⟩ => ?_
      obtain ⟨n, rfl⟩ : ∃ k, n = k + 1 := ⟨n - 1, by omega⟩
      refine seg_at (seg_yield rfl rfl rfl ⟨ys, yv, H10, ps, pinsAt fp s7.heap, σ8, r10, ex0, fun q hq => hfl _ (of_pinsAt hq).1, I10, yl, fun s' ps' e' I' go' => ?_⟩)
      obtain ⟨m', hm, w'⟩ := hNx _ _ (cont go')
      exact seg_again rfl (fin hm (by omega) e' I' w')
theorem gen_begin {Y : Cx} {A : Around} {elt tg iter : Expr} {ifs : List Expr} {scope : Scope} {pos : Pos} {it : Addr} {R : GenEnd} {Yp : Protocol} {n : Nat} {s₀ s : Shared} {cenv : Env}
    (self : ∀ (B : Around) (Q : Value → Shared → Prop) (E : Value → Shared → Prop), Q (.ref it) s → wpAny (model Y.prog Y.w) B (pyIter (.ref it)) Q E s)
    (loop : Seg (model Y.prog Y.w) A R Yp n s₀ (.compLoop (.GeneratorExp elt [⟨tg, iter, ifs, 0⟩] scope pos) 0 (.ref it) .none cenv) ((model Y.prog Y.w).den (.compLoop (.GeneratorExp elt [⟨tg, iter, ifs, 0⟩] scope pos) 0 (.ref it) .none cenv)) [] s) :
    Seg (model Y.prog Y.w) A R Yp n s₀ (.compStart (.GeneratorExp elt [⟨tg, iter, ifs, 0⟩] scope pos) 0 (.ref it) .none cenv) ((model Y.prog Y.w).den (.compStart (.GeneratorExp elt [⟨tg, iter, ifs, 0⟩] scope pos) 0 (.ref it) .none cenv)) [] s := by
  show Seg _ A _ _ _ s₀ _ ((compStart (.GeneratorExp elt [⟨tg, iter, ifs, 0⟩] scope pos) 0 (.ref it) .none cenv).onRaise (leaving cenv)) [] s
  unfold compStart
  rw [Sem.onRaise_eq_wrap]
  show Seg _ A _ _ _ s₀ _ ((ask >>= _).wrap _ _ _ _) [] s
  refine seg_bind_wrap (wpAny_askSetting ?_)
  split
  · exact seg_again rfl loop
  · first
      | exact seg_bind_wrap (wpAny_rule (seg_bind_wrap (wpAny_standAt (seg_bind_wrap (self _ _ _ (seg_again rfl loop))))))
      | (refine seg_bind_wrap (wpAny_rule ?_); show Seg _ A _ _ _ s₀ _ ((standAt iter.pos >>= _).wrap _ _ _ _) [] s; exact seg_bind_wrap (wpAny_standAt (seg_bind_wrap (self _ _ _ (seg_again rfl loop)))))
end
section
def GAt (X Y : Cx) (ga : Addr) (gi : Nat) (go : Obj) (p : GPar) (n : Nat) (s : Shared) : Prop := s.heap.IsGen ga gi ∧ s.heap.NoLimit ∧ ∃ gs, s.gens[gi]? = some gs ∧
  gs.Goes (model X.prog X.w) X.A.in1.in1.in1.in1 (fun n s₀ r s₁ => r = .ok .next ∧ (fun _ _ s => RG Y ga go p s) n s₀ s₁) (YG Y ga go p) n (.send .none) (s.setGen gi .running)
theorem inv_gens {Y : Cx} {pins : List (Addr × Obj)} {σ : L2.St} {H : Hp} {s : Shared} {G : Array GenState} (I : Inv Y pins σ H s) (hG : AllBare G) : Inv Y pins σ H { s with gens := G } :=
  I.call (g' := G) (t' := s.toks) (d' := s.drawn) (ch := []) Un.refl I.hok hG (fun b z => by simp at z)
theorem inv_setGen {Y : Cx} {pins : List (Addr × Obj)} {σ : L2.St} {H : Hp} {s : Shared} {gi : Nat} {x : GenState} (I : Inv Y pins σ H s) (hx : x.bare = true) : Inv Y pins σ H (s.setGen gi x) :=
  inv_gens I (allBare_setGen I.bare hx)
theorem gat_next {X Y : Cx} {ga : Addr} {gi : Nat} {go : Obj} {p : GPar} {n : Nat} {s : Shared} {E : Value → Shared → Prop} (hh : X.A.handled = none) (hroom : X.A.depth < recursionLimit) (hpr : Y.prog = X.prog) (hw : Y.w = X.w)
    (hgo : ∀ h : Heap, h.get? ga = some go → h.IsGen ga gi) (h : GAt X Y ga gi go p n s) :
    wpAny (model X.prog X.w) X.A.in1.in1.in1 (pyNext (.ref ga)) (fun r s' =>
      (∃ v, r = some v ∧ ∃ (ys : List V) (y : V) (H' : Hp) (ps pf : List (Addr × Obj)) (σ' : L2.St), RelV y v ∧ p.ext ys ps ∧ (∀ q ∈ pf, q.1 < Y.env.locals) ∧ Inv Y (((ga, go) :: ps) ++ pf) σ' H' s' ∧ p.yld ys y H' ∧
        ∀ s'' ps', p.ext (ys ++ [y]) ps' → Inv Y (((ga, go) :: ps') ++ pf) σ' H' s'' → s''.gens = s'.gens → p.go ys y H' → ∃ m, n = m + 1 ∧ GAt X Y ga gi go p m s'') ∨
      (r = none ∧ RG Y ga go p s')) E s := by
  obtain ⟨hg, hl, gs, hgs, hgoes⟩ := h
  have hgl : gi < s.gens.size := (Array.getElem?_eq_some_iff.mp hgs).1
  refine wpAny_mono (GenW.wpAny_gsz (n := gi + 1) hgl (wpAny_pyNext_genexpQ (A := X.A.in1.in1.in1) (P := fun _ _ s => RG Y ga go p s) (Q := fun r s' => gi + 1 ≤ s'.gens.size → _) hh hl hroom hg hgs hgoes (fun v s₁ gs' hb hv => ?_) (fun s₁ hp h' hk => ?_))) (fun r s' z => z) (fun _ _ z => z)
  · intro hsz
    obtain ⟨ys, y, H', ps, pf, σ', rv, ex, pl, I, yl, kap⟩ := hv
    refine .inl ⟨v, rfl, ys, y, H', ps, pf, σ', rv, ex, pl, inv_setGen I hb, yl, fun s'' ps' ex' I' eg go' => ?_⟩
    have hsz1 : gi < s₁.gens.size := by
      have q : (s₁.setGen gi gs').gens.size = s₁.gens.size := GenW.setGen_size _ _ _
      have hsz' : gi + 1 ≤ (s₁.setGen gi gs').gens.size := hsz
      omega
    have k := kap (s''.setGen gi .running) ps' ex' (inv_setGen I' rfl) go'
    cases n with
    | zero => exact k.elim
    | succ m =>
      refine ⟨m, rfl, hgo _ (I'.pin (ga, go) (List.mem_append_right _ (List.mem_append_left _ List.mem_cons_self))).1, I'.nolimit, gs', ?_, k⟩
      rw [eg]
      exact setGen_at hsz1
  · intro _
    obtain ⟨ys, H', ps, σ', ex, I, fi⟩ := hp
    refine .inr ⟨rfl, ys, H', ps, σ', ex, ?_, fi⟩
    exact I.call' (s' := { s₁.setGen gi .finished with heap := h' }) (ch := []) rfl (Un.kept hk) (I.hok.kept hk) (allBare_setGen I.bare rfl) (fun b z => by simp at z)
theorem entry_all2 : entryFor table "all" = some Builtin.«all» := PySem.F.entry_all
/-- all(g): the consumer's loop -/
theorem all_loop {X Y : Cx} {ga : Addr} {gi : Nat} {go : Obj} {p : GPar} {R : Result → Shared → Prop} (hh : X.A.handled = none) (hroom : X.A.depth < recursionLimit) (hpr : Y.prog = X.prog) (hw : Y.w = X.w) (hgo : ∀ h : Heap, h.get? ga = some go → h.IsGen ga gi)
    (hext : ∀ ys, p.ext ys []) (hext2 : ∀ ys ps, p.ext ys ps → ps = []) (hy : ∀ ys y H, p.yld ys y H → ∃ b, y = .bl b ∧ (b = true → p.go ys y H))
    (hno : ∀ ys H' pf σ' s', p.yld ys (.bl false) H' → Inv Y ((ga, go) :: pf) σ' H' s' → R (.ok (.ret (.bool false))) s') (hyes : ∀ ys H' σ' s', p.fin ys H' → Inv Y [(ga, go)] σ' H' s' → R (.ok (.ret (.bool true))) s') :
    ∀ (n : Nat) (s : Shared), GAt X Y ga gi go p n s → codeAny (model X.prog X.w) X.A (.builtin "all.loop" ⟨[.ref ga], []⟩) R s := by
  intro n
  induction n with
  | zero =>
    intro s h
    refine codeAny_builtin PySem.F.entry_all_loop ?_
    rw [Around.under_plainId PySem.F.plain_all_loop _]
    show wpAny _ X.A.in1 (pyNext (.ref ga) >>= _) _ _ s
    refine wpAny_bind (wpAny_of_in1 (wpAny_of_in1 (wpAny_mono (gat_next hh hroom hpr hw hgo h) (fun r s' z => ?_) fun _ _ e => e)))
    rcases z with ⟨v, rfl, ys, y, H', ps, pf, σ', rv, ex, _, I, yl, k⟩ | ⟨rfl, ys, H', ps, σ', ex, I, fi⟩
    · obtain ⟨b, rfl, gob⟩ := hy _ _ _ yl
      obtain rfl : v = Value.bool b := rv
      obtain rfl := hext2 _ _ ex
      refine wpAny_bind (wpAny_holding (wpAny_truthy_bool ?_))
      refine wpAny_bind (wpAny_letGo ?_)
      cases b with
      | true =>
        obtain ⟨m, hm, _⟩ := k s' [] (hext _) I rfl (gob rfl)
        exact absurd hm (by omega)
      | false =>
        simp only [Bool.false_eq_true, if_false]
        exact wpAny_bind (wpAny_rule (wpAny_pure (hno _ _ _ _ _ yl I)))
    · obtain rfl := hext2 _ _ ex
      exact wpAny_bind (wpAny_rule (wpAny_pure (hyes _ _ _ _ fi I)))
  | succ n ih =>
    intro s h
    refine codeAny_builtin PySem.F.entry_all_loop ?_
    rw [Around.under_plainId PySem.F.plain_all_loop _]
    show wpAny _ X.A.in1 (pyNext (.ref ga) >>= _) _ _ s
    refine wpAny_bind (wpAny_of_in1 (wpAny_of_in1 (wpAny_mono (gat_next hh hroom hpr hw hgo h) (fun r s' z => ?_) fun _ _ e => e)))
    rcases z with ⟨v, rfl, ys, y, H', ps, pf, σ', rv, ex, _, I, yl, k⟩ | ⟨rfl, ys, H', ps, σ', ex, I, fi⟩
    · obtain ⟨b, rfl, gob⟩ := hy _ _ _ yl
      obtain rfl : v = Value.bool b := rv
      obtain rfl := hext2 _ _ ex
      refine wpAny_bind (wpAny_holding (wpAny_truthy_bool ?_))
      refine wpAny_bind (wpAny_letGo ?_)
      cases b with
      | true =>
        obtain ⟨m, hm, g2⟩ := k s' [] (hext _) I rfl (gob rfl)
        obtain rfl : m = n := by omega
        simp only [if_true]
        exact wpAny_pure ⟨plainId_quiet PySem.F.plain_all_loop _, ih _ g2⟩
      | false =>
        simp only [Bool.false_eq_true, if_false]
        exact wpAny_bind (wpAny_rule (wpAny_pure (hno _ _ _ _ _ yl I)))
    · obtain rfl := hext2 _ _ ex
      exact wpAny_bind (wpAny_rule (wpAny_pure (hyes _ _ _ _ fi I)))
end
section
variable {X : Cx} {pins : List (Addr × Obj)} {σ : L2.St} {H : Hp} {s : Shared}
theorem gen_mk {c P : Addr} {elt tg iter : Expr} {ifs : List Expr} {scope : Scope} {own : List (Str × Nat)} {gpos : Pos} {wi : TI} {g : TG} {tt : TT} {te : TE} {k : Nat} {R : It → Hp → Prop} {Q' : Value → Shared → Prop}
    (hr : Room (k + 1) X.A) (hc : X.calm = true) (hN : X.N.Nodup) (TB : GxR.TabB X.base X.mg c P) (hcode : X.env.code = .ref c) (ok : GenOk X.N X.env.scope scope own) (hi : PI X tg iter wi)
    (hg : ∀ (s : Shared) (H : Hp) (C : Addr) (code : Value) (fp : List Addr), Room k (Cx.gblk X s H scope C code fp).A → PG (Cx.gblk X s H scope C code fp) tg g)
    (ht : ∀ (s : Shared) (H : Hp) (C : Addr) (code : Value) (fp : List Addr), Room k (Cx.gblk X s H scope C code fp).A → PTs (Cx.gblk X s H scope C code fp) ifs tt)
    (he : ∀ (s : Shared) (H : Hp) (C : Addr) (code : Value) (fp : List Addr), Room k (Cx.gblk X s H scope C code fp).A → PE (Cx.gblk X s H scope C code fp) elt te)
    (hs : ∀ x, genFold iter X.env x = pure x) (I : Inv X pins σ H s) (h : wi σ H fun J H1 => GxR.TabG H1 P ∧ R J H1)
    (fin : ∀ (J : It) (H1 H4 : Hp) (Y : Cx) (s5 : Shared) (pf : List (Addr × Obj)) (ga : Addr) (gi : Nat) (go : Obj), R J H1 → GxR.Tabbed P H1 H4 → Y.prog = X.prog → Y.w = X.w → (∀ h : Heap, h.get? ga = some go → h.IsGen ga gi) → s5.heap.objs.size = ga + 1 → Y.s_0.heap.objs.size ≤ Y.env.locals → Y.pn = [] →
      Inv Y ([(ga, go)] ++ pf) (wipe σ (own.map (·.2))) H4 s5 → (∀ {pins' σ' H' s'}, Inv Y pins' σ' H' s' → Inv X pins σ H' s') →
      (∀ (p : GPar) (W : List V → Nat → Nat → Hp → Prop) (m : Nat), (∀ ys ps, p.ext ys ps → ∀ q ∈ ps, s5.heap.objs.size ≤ q.1) →
        (∀ ys i m H, W ys i m H → (J.stop i H ∧ p.fin ys H) ∨ (J.go i H ∧ ∃ Nx : List V → Hp → Prop, (∀ ys' H', Nx ys' H' → ∃ m', m' < m ∧ W ys' (i + 1) m' H') ∧ ∀ x H', J.yld i H x H' → g x (wipe σ (own.map (·.2))) H' fun σ2 H2 => wipe σ2 (own.map (·.2)) = wipe σ (own.map (·.2)) ∧ tt σ2 H2 fun b H3 =>
          if b = true then te σ2 H3 fun y H4 => p.yld ys y H4 ∧ (p.go ys y H4 → Nx (ys ++ [y]) H4) else Nx ys H3)) →
        W [] 0 m H4 → ∀ s' ps, p.ext [] ps → Inv Y (((ga, go) :: ps) ++ pf) (wipe σ (own.map (·.2))) H4 s' → s'.gens = s5.gens → GAt X Y ga gi go p (m + 1) s') →
      Q' (.ref ga) s5) :
    wpAny (model X.prog X.w) X.A (eval (.GeneratorExp elt [⟨tg, iter, ifs, 0⟩] scope gpos) X.env) Q' X.xe s := by
  have hfree : ∀ y ∈ scope.names, y.2 = .free → ∃ c, X.env.cells.lookup y.1 = some c := fun y hy e => by
    rcases ok.blk.free y hy e with k | k
    · exact I.ok.has _ (.inl k)
    · exact I.ok.has _ (.inr k)
  refine wpAny_GeneratorExp_make ok.co (closure_ok hfree) ok.cel ok.dot ok.blk.kind (by have := hr.dp; omega) (thn (hi.run pins s σ H _ I h) fun xv s1 hx => thn hx fun itv s2 h2 => ?_) hs
  obtain ⟨it, fp, tn, J, H2, rfl, I2, T, st2, f2, ⟨ps, hP, trip⟩, r⟩ := h2
  refine ⟨I2.nolimit, ?_⟩
  have hPs : s2.heap.get? P = some { cls := .none, data := .fields ps } := I2.hok P _ hP
  have cd : PySem.W.CodeHd s2.heap c P := TB.code.keeps fun b u e => I2.bk b u e
  have nfP : ∀ b ∈ fp, b ≠ P := fun b hb z => by
    have := (f2 b hb).1
    rw [z, hP] at this
    cases this
  have go2 : ∀ (code : Value) (h3 : Heap) (tk : Nat) (more : Array Value), Heap.ExtBut P s2.heap h3 → h3.get? P = some { cls := .none, data := .fields (ps ++ more) } → TriplesOk (ps ++ more).toList →
      wpAny (model X.prog X.w) X.A (builtinsFor X.env.globals X.env.builtins) (fun bi s₄ => ∀ h', h'.Ns s₄.heap.objs.size (fun y => if y = ".0" then some (.ref it) else none) → Heap.SameBut s₄.heap.objs.size (s₄.heap.push { cls := .type "frame", data := .dict #[] }) h' →
          Q' (.ref h'.objs.size) { s₄ with
            gens := s₄.gens.push (.fresh (.compStart (.GeneratorExp elt [⟨tg, iter, ifs, 0⟩] scope gpos) 0 (.ref it) .none (genEnv scope (cloFrom X.env.cells scope.names []) s₄.heap.objs.size code bi X.env))),
            toks := s₄.toks + 1 + 1 + 1,
            heap := h'.push { cls := .type "generator", data := .fields #[.int s₄.gens.size 0, .str "<genexpr>" (s₄.toks + 1), .str (X.env.qual ++ "<genexpr>") (s₄.toks + 1 + 1)] } }) X.xe { s2 with heap := h3, toks := tk } := by
    intro code h3 tk more hx hP3 trip3
    obtain ⟨bm, ob, e1, e2, e3, e4, e5, e6, e7, e8⟩ := TB.bm
    have I4 : Inv X pins σ (upd H2 P (.tbl (ps ++ more))) { s2 with heap := h3, toks := tk } := GxR.inv_tab (g' := s2.gens) (d' := s2.drawn) (t' := tk) I2 hP (fun b u hb e => hx b u hb e) hP3 I2.bare
    have tb4 : GxR.Tabbed P H2 (upd H2 P (.tbl (ps ++ more))) := ⟨⟨_, upd_same, trip3⟩, fun b hb => upd_ne hb⟩
    refine wpAny_builtinsFor (m := X.mg) (by rw [I2.ok.glob]; exact (I2.mod.glob.keeps I2.bk).extBut hx TB.gP) e1 e2 (hx _ _ e4 (I2.bk _ _ e5)) e6 e7 e8 ?_
    intro h' hn' hs'
    have f4 : ∀ b ∈ fp, FpOk X pins (upd H2 P (.tbl (ps ++ more))) b ∧ b < h3.objs.size := fun b hb => by
      obtain ⟨o, e, _⟩ := T.obj _ _ st2 b hb
      exact ⟨⟨(upd_ne (nfP b hb)).trans (f2 b hb).1, (f2 b hb).2⟩, Heap.lt_size (hx b o (nfP b hb) e)⟩
    have st4 : tn 0 h3 := T.keep _ _ _ st2 fun b hb o e => hx b o (nfP b hb) e
    generalize upd H2 P (.tbl (ps ++ more)) = H4 at I4 tb4 f4
    have szh : h'.objs.size = h3.objs.size + 1 := by rw [hs'.1]; exact Heap.size_push ..
    have main : ∀ (go : Obj) (G : Array GenState) (tk5 gi : Nat), (∀ h : Heap, h.get? h'.objs.size = some go → h.IsGen h'.objs.size gi) → (h'.push go).get? h'.objs.size = some go → (∀ v, go.data ≠ .cell v) → AllBare G →
        G[gi]? = some (.fresh (.compStart (.GeneratorExp elt [⟨tg, iter, ifs, 0⟩] scope gpos) 0 (.ref it) .none (genEnv scope (cloFrom X.env.cells scope.names []) h3.objs.size code builtinsNs X.env))) →
        Q' (.ref h'.objs.size) { s2 with gens := G, toks := tk5, heap := h'.push go } := by
      intro go G tk5 gi hgo hgo1 hgd hG hgi
      have Is := gen_start (s := { s2 with heap := h3, toks := tk }) (code := code) (tk := tk5) I4 ok hN f4 hn' hs' hG hgo1 hgd
      have hY := hg { s2 with heap := h3, toks := tk } H4 h3.objs.size code fp (Room.gen hr _)
      have tY := ht { s2 with heap := h3, toks := tk } H4 h3.objs.size code fp (Room.gen hr _)
      have eY := he { s2 with heap := h3, toks := tk } H4 h3.objs.size code fp (Room.gen hr _)
      have kp5 : ∀ b o, h3.get? b = some o → (h'.push go).get? b = some o := fun b o e => Heap.get?_push_of_some _ (hs'.extBut b o (Nat.ne_of_lt (Heap.lt_size e)) (Heap.get?_push_of_some _ e))
      have st5 : tn 0 (h'.push go) := T.keep _ _ _ st4 fun b hb o e => kp5 b o e
      have sz5 : (h'.push go).objs.size = h'.objs.size + 1 := Heap.size_push ..
      have gab : ∀ b ∈ fp, h'.objs.size ≠ b := fun b hb z => by
        have l := (f4 b hb).2
        have z : h'.objs.size = b := z
        have l2 : h3.objs.size < h'.objs.size := by rw [szh]; exact Nat.lt_succ_self _
        rw [z] at l2
        exact Nat.lt_irrefl _ (Nat.lt_trans l l2)
      have stat : ∀ b ∈ fp, FpOk (Cx.gblk X { s2 with heap := h3, toks := tk } H4 scope h3.objs.size code fp) [(h'.objs.size, go)] H4 b := fun b hb =>
        ⟨(f4 b hb).1.1, (Is.ok.exf b hb).1, Is.ok.exfs b hb, .inl hb, fun x c e => (Is.ok.exf b hb).2 x c e, fun q hq => by
          have hq : q = (h'.objs.size, go) := by simpa using hq
          rw [hq]
          exact gab b hb⟩
      have Ip := Is.pinned stat (T.obj _ _ st5)
      refine fin J H2 H4 (Cx.gblk X { s2 with heap := h3, toks := tk } H4 scope h3.objs.size code fp) _ (pinsAt fp (h'.push go)) h'.objs.size gi go r tb4 rfl rfl hgo sz5 (Nat.le_refl _) rfl Ip (fun {pins' σ' H' s'} I' => ?_) fun p W m hext step w0 s' ps' ex' I' eg => ?_
      · exact I4.call' (ch := fp) I'.os I'.base I'.hok I'.bare fun b hb => ⟨(f4 b hb).1.2.2.2.1, (f4 b hb).1.2.1, (f4 b hb).1.2.2.2.2.1, (f4 b hb).1.2.2.2.2.2⟩
      · have I2' : Inv (Cx.gblk X { s2 with heap := h3, toks := tk } H4 scope h3.objs.size code fp) ((h'.objs.size, go) :: ps') (wipe σ (own.map (·.2))) H4 s' := I'.pins_of fun q hq => I'.pin q (List.mem_append_right _ (List.mem_append_left _ hq))
        have pin' : ∀ b ∈ fp, ∀ o, (h'.push go).get? b = some o → s'.heap.get? b = some o := fun b hb o e => (I'.pin (b, o) (List.mem_append_right _ (List.mem_append_right _ (mem_pinsAt hb e)))).1
        have stn : tn 0 s'.heap := T.keep _ _ _ st5 fun b hb o e => pin' b hb o e
        have eg : s'.gens = G := eg
        rw [← eg] at hgi
        refine ⟨hgo _ (I'.pin (h'.objs.size, go) (List.mem_append_right _ (List.mem_append_left _ List.mem_cons_self))).1, I'.nolimit, _, hgi, rfl, ?_⟩
        refine gen_begin (Y := X) (fun B Q E q => T.self B 0 _ _ _ stn q) ?_
        exact gen_loop (Y := Cx.gblk X { s2 with heap := h3, toks := tk } H4 scope h3.objs.size code fp) (A := X.A.in1.in1.in1.in1) (σ := σ) (vs := own.map (·.2)) hc rfl T hY tY eY rfl over_gen (fun b hb => hb) gab
          (fun ys ps e q hq b hb z => by
            have l1 : (h'.push go).objs.size ≤ q.1 := hext ys ps e q hq
            have l2 := (f4 b hb).2
            rw [sz5, szh, z] at l1
            exact Nat.lt_irrefl _ (Nat.lt_of_lt_of_le l2 (Nat.le_of_succ_le (Nat.le_of_succ_le l1)))) ok.co (fun b hb => (f4 b hb).2) step m (m + 1) 0 [] H4 ps' _ _ (Nat.lt_succ_self m) w0 ex' (inv_setGen I2' rfl) stn fun b hb => (f4 b hb).1.1
    exact main _ _ _ _ (fun h e => ⟨_, _, _, e, rfl, rfl, rfl⟩) (Heap.get?_push_size _ rfl) (fun v z => by cases z) (AllBare.push I2.bare rfl) (Array.getElem?_push_size ..)
  cases hf : codeAmong gpos ps.toList with
  | none =>
    refine wpAny_genexprCodeX hcode (cd.code hPs trip) (cd.tab hPs) hf fun c' h' tk hx hge hlt hco' _ htab' _ => ?_
    obtain ⟨o1, vs, f1, tf, fl, tg, inF, tx, tt, op, _, _, _, _, _, _, _, _, _, htr, _⟩ := hco'
    exact go2 _ h' tk _ hx htab'.2 htr
  | some cv =>
    refine wpAny_genexprCode_hit hcode (cd.code hPs trip) hf ?_
    exact go2 cv s2.heap s2.toks #[] (Heap.ExtBut.refl _ _) (by rw [Array.append_empty]; exact hPs) (by rw [Array.append_empty]; exact trip)
/-- all(elt for tg in iter if ..) -/
def tAllE (P : Addr) (wi : TI) (g : TG) (tt : TT) (te : TE) (vs : List Nat) : TE := fun σ H Q => wi σ H fun J H1 => GxR.TabG H1 P ∧ ∀ H2, GxR.Tabbed P H1 H2 → ∃ W : Nat → Nat → Hp → Prop, (∃ m, W 0 m H2) ∧ ∀ i m H, W i m H →
  (J.stop i H ∧ Q (.bl true) H) ∨ (J.go i H ∧ ∃ Nx : Hp → Prop, (∀ H', Nx H' → ∃ m', m' < m ∧ W (i + 1) m' H') ∧ ∀ x H', J.yld i H x H' → g x (wipe σ vs) H' fun σ2 H3 => wipe σ2 vs = wipe σ vs ∧ tt σ2 H3 fun b H4 =>
    if b = true then te σ2 H4 fun y H5 => (∃ c : Bool, y = .bl c ∧ (c = false → Q (.bl false) H5)) ∧ (y = .bl true → Nx H5) else Nx H4)
theorem pe_allE {c P : Addr} {elt tg iter : Expr} {ifs : List Expr} {scope : Scope} {own : List (Str × Nat)} {p pos gpos : Pos} {wi : TI} {g : TG} {tt : TT} {te : TE} {k : Nat}
    (hr : Room (k + 1) X.A) (hgl : Gl X "all") (hm : X.mg "all" = none) (hb : bootBuiltins "all" = some (.builtin "all")) (hc : X.calm = true) (hN : X.N.Nodup) (TB : GxR.TabB X.base X.mg c P) (hcode : X.env.code = .ref c) (ok : GenOk X.N X.env.scope scope own) (hi : PI X tg iter wi)
    (hg : ∀ (s : Shared) (H : Hp) (C : Addr) (code : Value) (fp : List Addr), Room k (Cx.gblk X s H scope C code fp).A → PG (Cx.gblk X s H scope C code fp) tg g)
    (ht : ∀ (s : Shared) (H : Hp) (C : Addr) (code : Value) (fp : List Addr), Room k (Cx.gblk X s H scope C code fp).A → PTs (Cx.gblk X s H scope C code fp) ifs tt)
    (he : ∀ (s : Shared) (H : Hp) (C : Addr) (code : Value) (fp : List Addr), Room k (Cx.gblk X s H scope C code fp).A → PE (Cx.gblk X s H scope C code fp) elt te)
    (hs : ∀ x, genFold iter X.env x = pure x := by intro _; rfl)
    (hst : starEach [.GeneratorExp elt [⟨tg, iter, ifs, 0⟩] scope gpos] X.env = (false, eval (.GeneratorExp elt [⟨tg, iter, ifs, 0⟩] scope gpos) X.env) :: starEach [] X.env := by rfl) :
    PE X (.Call (.Name "all" p) [.GeneratorExp elt [⟨tg, iter, ifs, 0⟩] scope gpos] [] pos) (tAllE P wi g tt te (own.map (·.2))) := by
  constructor
  intro pins s σ H Q I h
  refine wpAny_Call_Name_kw (ld_blt I hgl hm hb (PyProof.Rows.callWith_builtin1 ?_ hst (by rfl)))
  rw [hst]
  show wpAny _ _ (spliced ((false, eval (.GeneratorExp elt [⟨tg, iter, ifs, 0⟩] scope gpos) X.env) :: backTo pos (starEach [] X.env))) _ _ s
  refine Calls.spliced_cons (gen_mk hr hc hN TB hcode ok hi hg ht he hs I h fun J H1 H4 Y s5 pf ga gi go r tb hpr hw hgo sz sl hpn I5 back goes => ?_)
  refine Calls.spliced_nil ?_
  obtain ⟨W, ⟨m, w0⟩, step⟩ := r H4 tb
  have hgen : s5.heap.IsGen ga gi := hgo _ (I5.pin (ga, go) (List.mem_append_right _ (List.mem_append_left _ List.mem_cons_self))).1
  have g0 := goes ⟨fun _ ps => ps = [], fun _ y H' => ∃ b : Bool, y = .bl b ∧ (b = false → Q (.bl false) H'), fun _ y _ => y = .bl true, fun _ H' => Q (.bl true) H'⟩ (fun _ i m H => W i m H) m (fun ys ps e q hq => by
      have e : ps = [] := e
      rw [e] at hq
      cases hq) (fun ys i m H w => (step i m H w).imp id fun ⟨a, Nx, hNx, b⟩ => ⟨a, fun _ H => Nx H, fun _ H' z => hNx H' z, fun x H' y => b x H' y⟩) w0 s5 [] rfl I5 rfl
  refine call_function_tree PySem.F.kind_all PySem.F.plain_all PySem.F.entry_all (PySem.F.args_all1 _) ?_
  unfold Builtin.«all»
  refine wpAny_bind (m := oneArg "all" _) (wpAny_pure ?_)
  refine wpAny_bind (wpAny_pyIter_gen hgen ?_)
  refine wpAny_pure ⟨plainId_quiet PySem.F.plain_all_loop _, all_loop (X := X) hr.hd (by have := hr.dp; omega) hpr hw hgo (fun _ => rfl) (fun _ _ e => e) (fun ys y H' (z : ∃ b : Bool, y = .bl b ∧ (b = false → Q (.bl false) H')) => ?_) (fun ys H' pf' σ' s' (z : ∃ b : Bool, V.bl false = .bl b ∧ (b = false → Q (.bl false) H')) I' => ?_) (fun ys H' σ' s' q I' => ?_) (m + 1) s5 g0⟩
  · obtain ⟨b, e, q⟩ := z
    exact ⟨b, e, fun z => by rw [e, z]⟩
  · obtain ⟨b, e, q⟩ := z
    cases e
    exact ⟨.bl false, H', back I', rfl, q rfl⟩
  · exact ⟨.bl true, H', back I', rfl, q⟩
end
/-- .. over what is walked as a Walk says -/
theorem ga_it {J : It} {n : Nat} {G : Hp → Prop} {Y : Nat → Hp → V → Hp → Prop} (w : Walk J n G Y) {g : TG} {tt : TT} {te : TE} {vs : List Nat} {σ : L2.St} {H2 : Hp} {Q : VK} (Pv : Nat → Hp → Prop) (h0 : Pv 0 H2) (hG : ∀ i H, i ≤ n → Pv i H → G H)
    (hs : ∀ i x H H', i < n → Pv i H → Y i H x H' → g x (wipe σ vs) H' fun σ2 H3 => wipe σ2 vs = wipe σ vs ∧ tt σ2 H3 fun b H4 => if b = true then te σ2 H4 fun y H5 => (∃ c : Bool, y = .bl c ∧ (c = false → Q (.bl false) H5)) ∧ (y = .bl true → Pv (i + 1) H5) else Pv (i + 1) H4) (hd : ∀ H, Pv n H → Q (.bl true) H) :
    ∃ W : Nat → Nat → Hp → Prop, (∃ m, W 0 m H2) ∧ ∀ i m H, W i m H →
      (J.stop i H ∧ Q (.bl true) H) ∨ (J.go i H ∧ ∃ Nx : Hp → Prop, (∀ H', Nx H' → ∃ m', m' < m ∧ W (i + 1) m' H') ∧ ∀ x H', J.yld i H x H' → g x (wipe σ vs) H' fun σ2 H3 => wipe σ2 vs = wipe σ vs ∧ tt σ2 H3 fun b H4 =>
        if b = true then te σ2 H4 fun y H5 => (∃ c : Bool, y = .bl c ∧ (c = false → Q (.bl false) H5)) ∧ (y = .bl true → Nx H5) else Nx H4) := by
  refine ⟨fun i m H => m = n - i ∧ i ≤ n ∧ Pv i H, ⟨n, by simp, Nat.zero_le _, h0⟩, ?_⟩
  rintro i m H ⟨rfl, hi, p⟩
  have q := hG i H hi p
  by_cases hlt : i < n
  · refine .inr ⟨w.goes i H hlt q, Pv (i + 1), fun H' p' => ⟨n - (i + 1), by omega, rfl, hlt, p'⟩, fun x H' y => hs i x H H' hlt p (w.yields i H x H' hlt q y)⟩
  · have e : i = n := by omega
    subst e
    exact .inl ⟨w.stops H q, hd H p⟩
/-! things whose text is short -/
mutual
def lvs (k : Nat) : PyData → Bool
  | .none | .bool _ => true
  | .int i => decide (i.natAbs < 10 ^ k)
  | .str x => x.cps.toList.all fun c => decide (c < 16 ^ 8)
  | .list xs | .tuple xs => lvsA k xs
  | .dict _ => false
def lvsA (k : Nat) : List PyData → Bool
  | [] => true
  | x :: xs => lvs k x && lvsA k xs
end
theorem log_sm {n k : Nat} (hk : k ≤ 400) (h : n < 10 ^ k) : n.log2 < 1920 := by
  by_cases z : n = 0
  · rw [z]
    decide
  · rw [Nat.log2_lt z]
    refine Nat.lt_of_lt_of_le h (Nat.le_trans (Nat.pow_le_pow_left (show 10 ≤ 2 ^ 4 by decide) k) ?_)
    rw [← Nat.pow_mul]
    exact Nat.pow_le_pow_right (by decide) (by omega)
theorem shown_k {i : Int} {k : Nat} (k0 : 0 < k) (h : i.natAbs < 10 ^ k) : (PyData.shown (.int i)).length ≤ k + 1 := by
  have e := int_text_length_le10 (k := k) k0 h
  show (Str.ofString (toString i)).length ≤ k + 1
  rw [PySem.ofString_length]
  exact e
mutual
theorem lvs_show {k : Nat} (k0 : 0 < k) (hk : k ≤ 400) : ∀ d : PyData, lvs k d = true → d.showable = true ∧ d.hasDict = false ∧ d.leavesShort (k + 1) = true
  | .none, _ => ⟨rfl, rfl, rfl⟩
  | .bool _, _ => ⟨rfl, rfl, rfl⟩
  | .int i, h => by
    have h1 : i.natAbs < 10 ^ k := by simpa only [lvs, decide_eq_true_eq] using h
    refine ⟨?_, rfl, ?_⟩
    · simp only [PyData.showable]
      exact decide_eq_true (log_sm hk h1)
    · simp only [PyData.leavesShort]
      exact decide_eq_true (shown_k k0 h1)
  | .str x, h => ⟨rfl, rfl, by simpa only [PyData.leavesShort, lvs] using h⟩
  | .list xs, h => by
    have := lvsA_show k0 hk xs (by simpa only [lvs] using h)
    simpa only [PyData.showable, PyData.hasDict, PyData.leavesShort] using this
  | .tuple xs, h => by
    have := lvsA_show k0 hk xs (by simpa only [lvs] using h)
    simpa only [PyData.showable, PyData.hasDict, PyData.leavesShort] using this
  | .dict _, h => by simp only [lvs] at h; exact nomatch h
theorem lvsA_show {k : Nat} (k0 : 0 < k) (hk : k ≤ 400) : ∀ xs : List PyData, lvsA k xs = true → PyData.showableAll xs = true ∧ PyData.hasDictAll xs = false ∧ PyData.leavesShortAll (k + 1) xs = true
  | [], _ => ⟨rfl, rfl, rfl⟩
  | x :: xs, h => by
    have h' : lvs k x = true ∧ lvsA k xs = true := by simpa only [lvsA, Bool.and_eq_true] using h
    obtain ⟨a1, a2, a3⟩ := lvs_show k0 hk x h'.1
    obtain ⟨b1, b2, b3⟩ := lvsA_show k0 hk xs h'.2
    simp only [PyData.showableAll, PyData.hasDictAll, PyData.leavesShortAll, a1, a2, a3, b1, b2, b3]
    exact ⟨rfl, rfl, rfl⟩
end
structure Sho (d : PyData) : Prop where
  s : d.showable = true
  n : d.hasDict = false
  dp : d.depth ≤ 60
  len : d.shown.length ≤ sizeLine
theorem sho_of {k : Nat} {d : PyData} (k0 : 7 ≤ k) (hk : k ≤ 400) (h : lvs k d = true) (dp : d.depth ≤ 60) (w : (k + 3) * d.weight ≤ 16000000) : Sho d := by
  obtain ⟨a, b, c⟩ := lvs_show (by omega) hk d h
  refine ⟨a, b, dp, ?_⟩
  have e : d.shown.length ≤ (k + 3) * d.weight + (k + 1) := PyData.shown_le (k + 1) (by omega) d c
  rw [sizeLine_eq]
  omega
theorem lvsA_of {k : Nat} : ∀ ds : List PyData, (∀ d, d ∈ ds → lvs k d = true) → lvsA k ds = true
  | [], _ => rfl
  | d :: ds, h => by
    simp only [lvsA, Bool.and_eq_true]
    exact ⟨h d List.mem_cons_self, lvsA_of ds fun x hx => h x (List.mem_cons_of_mem _ hx)⟩
theorem depA_of {n : Nat} : ∀ ds : List PyData, (∀ d, d ∈ ds → d.depth ≤ n) → PyData.depthAll ds ≤ n
  | [], _ => Nat.zero_le _
  | d :: ds, h => by
    have := h d List.mem_cons_self
    have := depA_of ds fun x hx => h x (List.mem_cons_of_mem _ hx)
    simp only [PyData.depthAll]
    omega
theorem weiA_of {n : Nat} : ∀ ds : List PyData, (∀ d, d ∈ ds → d.weight ≤ n) → PyData.weightAll ds ≤ ds.length * (n + 1)
  | [], _ => Nat.zero_le _
  | d :: ds, h => by
    have := h d List.mem_cons_self
    have := weiA_of ds fun x hx => h x (List.mem_cons_of_mem _ hx)
    simp only [PyData.weightAll, List.length_cons, Nat.add_mul, Nat.one_mul]
    omega
/-- short things: their leaves, depth and weight -/
structure Shs (k n w : Nat) (d : PyData) : Prop where
  l : lvs k d = true
  dp : d.depth ≤ n
  wt : d.weight ≤ w
theorem shs_all {k n w : Nat} {ds : List PyData} (h : ∀ d, d ∈ ds → Shs k n w d) : Shs k (n + 1) (ds.length * (w + 1)) (.list ds) ∧ Shs k (n + 1) (ds.length * (w + 1)) (.tuple ds) := by
  have a := lvsA_of ds fun d hd => (h d hd).l
  have b := depA_of ds fun d hd => (h d hd).dp
  have c := weiA_of ds fun d hd => (h d hd).wt
  refine ⟨⟨by simpa only [lvs] using a, ?_, by simpa only [PyData.weight] using c⟩, ⟨by simpa only [lvs] using a, ?_, by simpa only [PyData.weight] using c⟩⟩
  · simp only [PyData.depth]
    omega
  · simp only [PyData.depth]
    omega
theorem Shs.mono {k n m w v : Nat} {d : PyData} (h : Shs k n w d) (a : n ≤ m) (b : w ≤ v) : Shs k m v d := ⟨h.l, Nat.le_trans h.dp a, Nat.le_trans h.wt b⟩
theorem Shs.sho {k n w : Nat} {d : PyData} (h : Shs k n w d) (k0 : 7 ≤ k) (hk : k ≤ 400) (hn : n ≤ 60) (hw : (k + 3) * w ≤ 16000000) : Sho d := sho_of k0 hk h.l (Nat.le_trans h.dp hn) (Nat.le_trans (Nat.mul_le_mul_left _ h.wt) hw)
theorem shs_int {k : Nat} {i : Int} (h : i.natAbs < 10 ^ k) : Shs k 0 (4 * k + 1) (.int i) := by
  refine ⟨?_, ?_, ?_⟩
  · simp only [lvs]
    exact decide_eq_true h
  · simp only [PyData.depth]
    decide
  · simp only [PyData.weight]
    split
    · exact Nat.zero_le _
    · rename_i z
      have z1 : i.natAbs ≠ 0 := fun e => z (by rw [Int.natAbs_eq_zero.mp e]; rfl)
      have := (Nat.log2_lt (k := 4 * k) z1).mpr (Nat.lt_of_lt_of_le h (by
        rw [Nat.pow_mul]
        exact Nat.pow_le_pow_left (by decide) k))
      omega
theorem sho_ints {ns : List Int} (h : ∀ n, n ∈ ns → n.natAbs < 10 ^ 12) (l : ns.length ≤ 20000) : Sho (.list (ns.map .int)) ∧ Sho (.tuple (ns.map .int)) := by
  obtain ⟨a, b⟩ := shs_all (k := 12) (n := 0) (w := 49) (ds := ns.map .int) (fun d hd => by
    obtain ⟨n, hn, rfl⟩ := List.mem_map.mp hd
    exact shs_int (h n hn))
  rw [List.length_map] at a b
  exact ⟨a.sho (by decide) (by decide) (by decide) (by omega), b.sho (by decide) (by decide) (by decide) (by omega)⟩
theorem shs_str {k : Nat} {x : Str} (h : (x.cps.toList.all fun c => decide (c < 16 ^ 8)) = true) (w : x.cps.size ≤ 12) : Shs k 0 12 (.str x) := ⟨by simpa only [lvs] using h, by simp only [PyData.depth]; decide, by simpa only [PyData.weight] using w⟩
theorem shs_non {k : Nat} : Shs k 0 0 .none := ⟨rfl, by simp only [PyData.depth]; decide, by simp only [PyData.weight]; decide⟩
/-! a promise where no text of a thing is being made -/
structure GOk (P : Program) (w : World) (K : PySem.W.Frag) (mg : Str → Option Value) (base : Heap) (CX : CXT) (k : Nat) (f : Addr) (fd : FuncData) (ps : List Str) (sp : Sp) : Prop where
  len : ∀ vs H Q E, sp vs H Q E → vs.length = ps.length
  run : ∀ (A : Around) (outer : List Env) (s : Shared) (H : Hp) (args : Args) (us : List Value) (vs : List V) (Q : VK) (E : XK), A.guards = some [] → Room k A → Env0 P w K mg base A outer s H → BindsTo s fd args (ps.zip us) → Vals vs us → sp vs H Q E →
    codeAny (model P w) A (.call (.ref f) args) (CR CX outer P w H s Q E) s
theorem gok_of {CX : CXT} {P : Program} {w : World} {K : PySem.W.Frag} {mg : Str → Option Value} {base : Heap} {k : Nat} {x : Str} {st : Stmt} {f : Addr} {fd : FuncData} {N ps : List Str} {sp : Sp} (F : FnP K x st f fd) (S : FnScope N ps (defScope st)) (len : ∀ vs H Q E, sp vs H Q E → vs.length = ps.length)
    (hb : ∀ (cdv : Value) (A : Around) (outer : List Env) (s : Shared) (H : Hp) (vs : List V) (Q : VK) (E : XK), A.guards = some [] → Room k (A.deeper (envOfC x (defScope st) s.heap.objs.size f cdv)) → sp vs H Q E →
      ∃ t, PSs (cxOf CX P w K mg base N x (defScope st) f cdv A outer s H E) (defBody st) t ∧ t { nx := fun _ H' => Q .non H', rt := Q } (L2.start N vs) H) : GOk P w K mg base CX (k + 1) f fd ps sp := by
  obtain ⟨oc, od, dV, kV, doc, pm, an, cdv, ct, osl, rfl, lk, hcd, _, _⟩ := F.ex
  refine ⟨len, fun A outer s H args us vs Q E hg hr e0 bd rv hsp => ?_⟩
  have kept : ∀ b o, base.get? b = some o → s.heap.get? b = some o := fun b o e => (e0.bs b o e).1
  have KX : K.In s.heap := e0.mod.kin.keeps kept
  have kinds : ∀ y ∈ ps.zip us, (defScope st).names.lookup y.1 = some .local ∨ ((defScope st).names.lookup y.1 = some .cell ∧ ((cellsFrom (s.heap.objs.size + 1) (defScope st).names []).lookup y.1).isSome = true) := fun y hy =>
    (S.par y.1 (List.of_mem_zip (show (y.1, y.2) ∈ ps.zip us from hy)).1).imp id fun q => ⟨q, PySem.W.cellsFrom_some _ _ _ (.inl q)⟩
  refine codeAny_call_function hr.depth (KX _ _ lk) rfl S.co S.gen rfl (PySem.W.codeRec_of KX hcd) (bd _ _ _ _ (wpAny_newFunctionEnv_cells S.kind kinds fun env he s1 x1 => ?_))
  subst he
  refine ⟨(e0.mod.nolimit.keeps kept).keeps x1.toInCall.keep, codeAny_func ?_⟩
  obtain ⟨t, ht, hq⟩ := hb cdv A outer s H vs Q E hg (hr.deeper _) hsp
  have I := inv_start (CX := CX) (E := E) S hr.hd e0 (len _ _ _ _ hsp) rv x1
  refine wpAny_mono (ht.run [] s1 (L2.start N vs) H _ I hq) (fun fl s' hs => ?_) fun e s' hs => hs
  cases fl with
  | ret u =>
    obtain ⟨v, σ', H', J, r', q⟩ := hs
    exact ⟨v, H', J.os, J.bare, J.base, J.hok, r', q⟩
  | next =>
    obtain ⟨σ', H', J, q⟩ := hs
    exact ⟨V.non, H', J.os, J.bare, J.base, J.hok, rfl, q⟩
  | brk =>
    obtain ⟨_, _, _, q⟩ := hs
    exact q.elim
  | cont =>
    obtain ⟨_, _, _, q⟩ := hs
    exact q.elim
/-- the state ahead of the law's call: the script is tracked, or one of the module's own things -/
theorem env_ahead {P : Program} {w : World} {K : PySem.W.Frag} {mg mb : Str → Option Value} {a : Addr} {s : Shared} {vs : List Value} {ns : List Int} (KX : K.In s.heap) (hns : s.heap.Ns mainGlobals mg) (hb : s.heap.Ns builtinsNs mb)
    (hbb : ∀ x : Str, x ≠ "__name__" → mb x = bootBuiltins x) (hlim : s.heap.NoLimit) (hg : s.gens = #[]) (ha : s.heap.get? a = some { cls := .type "list", data := .seq vs.toArray }) (hi : IntsAre vs ns) (hl : ns.length ≤ sizeLine) :
    ∃ H : Hp, Only H ∧ SqL K H a (ns.map V.int) ∧ HOk P w H s.heap ∧ K.In (hidT s.heap H) ∧ (hidT s.heap H).Ns mainGlobals mg ∧ Env0 P w K mg (hidT s.heap H) callerA [] s H := by
  have rv := vals_ints hi
  have go : ∀ H : Hp, Only H → SqL K H a (ns.map V.int) → HOk P w H s.heap → (∀ b, H b ≠ none → b = a ∧ K.lookup a = none) → ∃ H : Hp, Only H ∧ SqL K H a (ns.map V.int) ∧ HOk P w H s.heap ∧ K.In (hidT s.heap H) ∧ (hidT s.heap H).Ns mainGlobals mg ∧ Env0 P w K mg (hidT s.heap H) callerA [] s H := fun H hO hS hok hA => by
    have free : ∀ {b : Addr}, (b = a → False) → H b = none := fun {b} nb => Classical.byContradiction fun z => nb (hA b z).1
    have Kb : K.In (hidT s.heap H) := fun b o e => hidT_get (KX b o e) (Classical.byContradiction fun z => by
      obtain ⟨rfl, n⟩ := hA b z
      rw [n] at e
      cases e)
    have nsb : ∀ {b : Addr} {m : Str → Option Value}, s.heap.Ns b m → (hidT s.heap H).Ns b m := fun {b m} h => by
      obtain ⟨o, es, ep, e, d, r⟩ := h
      refine ⟨o, es, ep, hidT_get e (free fun z => ?_), d, r⟩
      rw [z, ha] at e
      cases e
      cases d
    refine ⟨H, hO, hS, hok, Kb, nsb hns, rfl, ⟨Kb, nsb hns, ⟨mb, nsb hb, hbb⟩, ?_⟩, fun b o e => of_hidT e, Nat.le_of_eq (hidT_size _ _), trivial, fun b z => (by cases z), hok, .of_eq hg⟩
    obtain ⟨mc, h1, h2⟩ := hlim
    exact ⟨mc, nsb h1, h2⟩
  cases hk : K.lookup a with
  | some o =>
    have e := KX a o hk
    rw [ha] at e
    cases e
    exact go (fun _ => none) (fun _ => .inl rfl) (.inr ⟨_, vs.toArray, _, hk, rfl, rfl, rfl, by rw [List.size_toArray, hi.length]; exact hl, by simpa using rv⟩) (fun b u z => by cases z) (fun b z => absurd rfl z)
  | none =>
    refine go (fun b => if b = a then some (.frz { cls := .type "list", data := .seq vs.toArray } (.lst (ns.map V.int))) else none) (fun b => ?_) (.inl (.inr ⟨_, if_pos rfl⟩)) (fun b u z => ?_) (fun b z => ?_)
    · by_cases e : b = a
      · exact .inr ⟨_, _, if_pos e⟩
      · exact .inl (if_neg e)
    · by_cases e : b = a
      · cases (if_pos e).symm.trans z
        subst e
        exact ⟨ha, by rw [List.length_map]; exact hl, vs, _, rv, ha⟩
      · cases (if_neg e).symm.trans z
    · by_cases e : b = a
      · exact ⟨e, hk⟩
      · exact absurd (if_neg e) z
theorem walk_ofG {l : PySem.W.OpenLaw} {n k : Nat} {q : Program} {loose : List Str} {XP : (Str → Option Value) → Heap → Prop} {YP : World → Heap → Prop} {d : DefRec} {x : Str}
    (hn : l.most = some n) (hn2 : n ≤ sizeLine) (hdf : d.params.defaults = []) (hr : Room k callerA)
    (F : ∀ (w : World) (mg : Str → Option Value) (fa : Addr) (h : Heap), YP w h → h.Ns mainGlobals mg → mg d.name = some (.ref fa) →
      ∃ (K : PySem.W.Frag) (fd : FuncData) (sp : Sp), K.In h ∧ (∀ (s : Shared) (u : Value), BindsTo s fd ⟨[u], []⟩ [(x, u)]) ∧
        (∀ (H : Hp) (a : Addr) (ns : List Int), ns.length ≤ n → Only H → SqL K H a (ns.map V.int) → sp [.ref a] H (fun v _ => v = .bl true) fun _ _ _ => False) ∧
        ∀ base : Heap, K.In base → base.Ns mainGlobals mg → GOk l.prog w K mg base CX0 k fa fd [x] sp) :
    PySem.W.WalkO q loose XP YP l.row.toRowW d [] (fun f vs => PySem.call f vs) := by
  refine Att.attach_call hn hdf fun w s₀ s₁ mg mb fa o pm cd doc a vs ns G Y ho hd hcd hmg hobj hints hlen hg => ?_
  obtain ⟨K, fd, sp, KX, hbd, hsp, hF⟩ := F w mg fa _ Y G.T.g hmg
  obtain ⟨H, hO, hS, hok, Kb, nb, e0⟩ := env_ahead (P := l.prog) (w := w) KX G.T.g G.T.b G.T.builtins G.T.nolimit hg hobj hints (Nat.le_trans hlen hn2)
  refine codeAny_mono ((hF _ Kb nb).run callerA [] s₁ H ⟨[.ref a], []⟩ [.ref a] [.ref a] _ _ rfl hr e0 (hbd s₁ (.ref a)) (.cons rfl .nil) (hsp H a ns hlen hO hS)) fun r s' h => ?_
  match r, h with
  | .ok (.ret u), h =>
    obtain ⟨v, H', os, bare, un, hok', r', q⟩ := h
    have q : v = .bl true := q
    subst q
    obtain rfl : u = Value.bool true := r'
    refine ⟨rfl, OldK.of_keep fun b o e => ?_, os, bare⟩
    rcases hO b with z | ⟨ob, xs, z⟩
    · exact un.keep b o e z (by intro y; cases y) (by simp)
    · obtain ⟨e1, _⟩ := hok b _ z
      obtain ⟨e2, _⟩ := hok' b _ (un.frzs b ob _ z)
      rw [e] at e1
      cases e1
      exact e2
  | .ok .next, h => exact False.elim h
  | .ok .brk, h => exact False.elim h
  | .ok .cont, h => exact False.elim h
  | .error e, h => exact False.elim h
/-- repr(x) of a list or tuple -/
def rRepr (K : PySem.W.Frag) : List V → Hp → VK → Prop := fun xs H Q => ∃ a d, xs = [.ref a] ∧ Dp K H (.ref a) d ∧ Sho d ∧ Q (.str d.shown) H
theorem cr_repr {X : Cx} (hg : X.A.guards = some []) (hu : X.A.units + 65 < cLine) : CallR X (.builtin "repr") (rRepr X.K) := by
  intro pins s σ H vs us Q I r h
  obtain ⟨a, d, rfl, hd, ⟨sh, nd, dd, sz⟩, q⟩ := h
  rw [Vals.ref1 r]
  obtain ⟨as, rd⟩ := Dp.reads I d (.ref a) (.ref a) hd rfl
  refine repr_of_reads' rd sh (fun z => by rw [nd] at z; cases z) hg (by omega) (fun _ _ e => e) (fun h' u tk hk => ?_) sz
  exact ⟨.str d.shown, H, I.kept (t' := tk) hk, ⟨_, rfl⟩, q⟩
theorem u65g {k : Nat} {A : Around} (r : Room k A) : A.units + 65 < cLine := by
  have := r.un
  omega
/-! the state ahead of the law's call, with the tables of code objects -/
def ahT (K : PySem.W.Frag) (a : Addr) (ts : List Addr) (o : Obj) (xs : List V) : Hp := fun b => if b = a then (if (K.lookup a).isSome = true then none else some (.frz o (.lst xs))) else if b ∈ ts then some (.tbl #[]) else none
theorem ahT_tab {K : PySem.W.Frag} {a : Addr} {ts : List Addr} {o : Obj} {xs : List V} (na : ¬ a ∈ ts) {b : Addr} (hb : b ∈ ts) : ahT K a ts o xs b = some (.tbl #[]) := by
  unfold ahT
  rw [if_neg (fun z : b = a => na (z ▸ hb)), if_pos hb]
theorem ahT_any {K : PySem.W.Frag} {a : Addr} {ts : List Addr} {o : Obj} {xs : List V} {b : Addr} {u : HO} (h : ahT K a ts o xs b = some u) : (b = a ∧ K.lookup a = none ∧ u = .frz o (.lst xs)) ∨ (b ∈ ts ∧ u = .tbl #[]) := by
  unfold ahT at h
  by_cases e : b = a
  · rw [if_pos e] at h
    cases k : K.lookup a with
    | none =>
      rw [k, if_neg (fun z => by cases z)] at h
      exact .inl ⟨e, rfl, (Option.some.inj h).symm⟩
    | some y =>
      rw [k] at h
      simp at h
  · rw [if_neg e] at h
    by_cases z : b ∈ ts
    · rw [if_pos z] at h
      exact .inr ⟨z, (Option.some.inj h).symm⟩
    · rw [if_neg z] at h
      cases h
/-- a code object, its table, and where they stand -/
structure TbAt (K : PySem.W.Frag) (h : Heap) (q : Addr × Addr) : Prop where
  ob : h.get? q.2 = some { cls := .none, data := .fields #[] }
  nk : K.lookup q.2 = none
  hd : PySem.W.CodeHd h q.1 q.2
theorem env_aheadT {P : Program} {w : World} {K : PySem.W.Frag} {mg mb : Str → Option Value} {a : Addr} {cs : List (Addr × Addr)} {s : Shared} {vs : List Value} {ns : List Int} (KX : K.In s.heap) (gl : s.heap.Ns mainGlobals mg) (bl : s.heap.Ns builtinsNs mb)
    (bb : ∀ x : Str, x ≠ "__name__" → mb x = bootBuiltins x) (nl : s.heap.NoLimit) (hg : s.gens = #[]) (tb : ∀ q, q ∈ cs → TbAt K s.heap q)
    (bm : ∃ (m : Addr) (om : Obj), mg "__builtins__" = some (.ref m) ∧ m ≠ builtinsNs ∧ s.heap.get? m = some om ∧ om.cls = .type "module" ∧ om.dict = some builtinsNs ∧ om.data = .plain)
    (ha : s.heap.get? a = some { cls := .type "list", data := .seq vs.toArray }) (hi : IntsAre vs ns) (hl : ns.length ≤ sizeLine) :
    ∃ H : Hp, (∀ q, q ∈ cs → H q.2 = some (.tbl #[])) ∧ (∀ b u, H b = some u → (∃ o xs, u = .frz o (.lst xs)) ∨ b ∈ cs.map Prod.snd) ∧ SqL K H a (ns.map V.int) ∧ HOk P w H s.heap ∧ K.In (hidT s.heap H) ∧ (hidT s.heap H).Ns mainGlobals mg ∧ (∀ q, q ∈ cs → GxR.TabB (hidT s.heap H) mg q.1 q.2) ∧ Env0 P w K mg (hidT s.heap H) callerA [] s H := by
  have tin : ∀ b, b ∈ cs.map Prod.snd → ∃ q, q ∈ cs ∧ q.2 = b := fun b h => List.mem_map.mp h
  have tob : ∀ b, b ∈ cs.map Prod.snd → s.heap.get? b = some { cls := .none, data := .fields #[] } := fun b h => by
    obtain ⟨q, hq, rfl⟩ := tin b h
    exact (tb q hq).ob
  have na : ¬ a ∈ cs.map Prod.snd := fun z => by
    have y := (tob a z).symm.trans ha
    cases y
  obtain ⟨H, eH⟩ : ∃ H : Hp, H = ahT K a (cs.map Prod.snd) { cls := .type "list", data := .seq vs.toArray } (ns.map V.int) := ⟨_, rfl⟩
  have any : ∀ {b u}, H b = some u → (b = a ∧ K.lookup a = none ∧ u = .frz { cls := .type "list", data := .seq vs.toArray } (.lst (ns.map V.int))) ∨ (b ∈ cs.map Prod.snd ∧ u = .tbl #[]) := fun {b u} h => ahT_any (by rw [← eH]; exact h)
  have ta : ∀ q, q ∈ cs → H q.2 = some (.tbl #[]) := fun q hq => by
    rw [eH]
    exact ahT_tab na (List.mem_map.mpr ⟨q, hq, rfl⟩)
  have hS : SqL K H a (ns.map V.int) := by
    cases k : K.lookup a with
    | none =>
      refine .inl (.inr ⟨{ cls := .type "list", data := .seq vs.toArray }, ?_⟩)
      rw [eH]
      unfold ahT
      rw [if_pos rfl, k]
      rfl
    | some o =>
      have e := KX a o k
      rw [ha] at e
      cases e
      exact .inr ⟨_, vs.toArray, _, k, rfl, rfl, rfl, by rw [List.size_toArray, hi.length]; exact hl, by simpa using vals_ints hi⟩
  -- what is neither a sequence nor a table stands untouched
  have free : ∀ {b : Addr} {o : Obj}, s.heap.get? b = some o → (∀ ys n, o.data ≠ .seq ys n) → o.data ≠ .fields #[] → H b = none := fun {b o} e n1 n2 => by
    cases k : H b with
    | none => rfl
    | some u =>
      rcases any k with ⟨rfl, _⟩ | ⟨z, _⟩
      · rw [ha] at e
        cases e
        exact absurd rfl (n1 _ _)
      · rw [tob b z] at e
        cases e
        exact absurd rfl n2
  have nsb : ∀ {b : Addr} {m : Str → Option Value}, s.heap.Ns b m → (hidT s.heap H).Ns b m := fun {b m} h => by
    obtain ⟨o, es, ep, e, d, r⟩ := h
    exact ⟨o, es, ep, hidT_get e (free e (fun ys n z => by rw [d] at z; cases z) (fun z => by rw [d] at z; cases z)), d, r⟩
  have Kb : K.In (hidT s.heap H) := fun b o e => hidT_get (KX b o e) (by
    cases k : H b with
    | none => rfl
    | some u =>
      rcases any k with ⟨rfl, n, _⟩ | ⟨z, _⟩
      · rw [n] at e
        cases e
      · obtain ⟨q, hq, rfl⟩ := tin b z
        rw [(tb q hq).nk] at e
        cases e)
  have hok : HOk P w H s.heap := fun b u z => by
    rcases any z with ⟨rfl, _, rfl⟩ | ⟨y, rfl⟩
    · exact ⟨ha, by rw [List.length_map]; exact hl, vs, _, vals_ints hi, ha⟩
    · exact tob b y
  refine ⟨H, ta, fun b u z => ?_, hS, hok, Kb, nsb gl, fun q hq => ⟨?_, ?_, fun z => ?_⟩, rfl, ⟨Kb, nsb gl, ⟨mb, nsb bl, bb⟩, ?_⟩, fun b o e => of_hidT e, Nat.le_of_eq (hidT_size _ _), trivial, fun b z => (by cases z), hok, .of_eq hg⟩
  · rcases any z with ⟨_, _, rfl⟩ | ⟨y, _⟩
    · exact .inl ⟨_, _, rfl⟩
    · exact .inr y
  · obtain ⟨o, us, fl, tf, gs, tg, iF, tx, tt, e1, r1, r2, r3, rest⟩ := (tb q hq).hd
    refine ⟨o, us, fl, tf, gs, tg, iF, tx, tt, hidT_get e1 (free e1 (fun ys n z => by rw [r2] at z; cases z) (fun z => ?_)), r1, r2, r3, rest⟩
    rw [r2] at z
    cases z
    simp at r3
  · obtain ⟨m, om, b1, b2, b3, b4, b5, b6⟩ := bm
    refine ⟨m, om, b1, b2, fun z => ?_, fun z => ?_, hidT_get b3 (free b3 (fun ys n z => by rw [b6] at z; cases z) (fun z => by rw [b6] at z; cases z)), b4, b5, b6⟩
    · obtain ⟨o, es, ep, e, d, _⟩ := gl
      rw [z, e] at b3
      cases b3
      rw [d] at b6
      cases b6
    · have y := (tb q hq).ob
      rw [← z, b3] at y
      cases y
      cases b6
  · obtain ⟨o, es, ep, e, d, _⟩ := gl
    rw [z, (tb q hq).ob] at e
    cases e
    cases d
  · obtain ⟨mc, h1, h2⟩ := nl
    exact ⟨mc, nsb h1, h2⟩
theorem walk_ofGT {l : PySem.W.OpenLaw} {n k : Nat} {q : Program} {loose : List Str} {XP : (Str → Option Value) → Heap → Prop} {YP : World → Heap → Prop} {d : DefRec} {x : Str}
    (hn : l.most = some n) (hn2 : n ≤ sizeLine) (hdf : d.params.defaults = []) (hr : Room k callerA)
    (F : ∀ (w : World) (mg : Str → Option Value) (fa : Addr) (h : Heap), YP w h → h.Ns mainGlobals mg → mg d.name = some (.ref fa) →
      ∃ (K : PySem.W.Frag) (fd : FuncData) (cs : List (Addr × Addr)) (sp : Sp), K.In h ∧ (∀ q, q ∈ cs → TbAt K h q) ∧ (∀ (s : Shared) (u : Value), BindsTo s fd ⟨[u], []⟩ [(x, u)]) ∧
        (∀ (H : Hp) (a : Addr) (ns : List Int), ns.length ≤ n → (∀ q, q ∈ cs → H q.2 = some (.tbl #[])) → SqL K H a (ns.map V.int) → sp [.ref a] H (fun v _ => v = .bl true) fun _ _ _ => False) ∧
        ∀ base : Heap, K.In base → base.Ns mainGlobals mg → (∀ q, q ∈ cs → GxR.TabB base mg q.1 q.2) → GOk l.prog w K mg base CX0 k fa fd [x] sp) :
    PySem.W.WalkO q loose XP YP l.row.toRowW d [] (fun f vs => PySem.call f vs) := by
  refine Att.attach_call hn hdf fun w s₀ s₁ mg mb fa o pm cd doc a vs ns G Y ho hd hcd hmg hobj hints hlen hg => ?_
  obtain ⟨K, fd, cs, sp, KX, tb, hbd, hsp, hF⟩ := F w mg fa _ Y G.T.g hmg
  obtain ⟨H, ta, hO, hS, hok, Kb, nb, TB, e0⟩ := env_aheadT (P := l.prog) (w := w) KX G.T.g G.T.b G.T.builtins G.T.nolimit hg tb G.T.bmain hobj hints (Nat.le_trans hlen hn2)
  refine codeAny_mono ((hF _ Kb nb TB).run callerA [] s₁ H ⟨[.ref a], []⟩ [.ref a] [.ref a] _ _ rfl hr e0 (hbd s₁ (.ref a)) (.cons rfl .nil) (hsp H a ns hlen ta hS)) fun r s' h => ?_
  match r, h with
  | .ok (.ret u), h =>
    obtain ⟨v, H', os, bare, un, hok', r', q⟩ := h
    have q : v = .bl true := q
    subst q
    obtain rfl : u = Value.bool true := r'
    have grow : ∀ t, t ∈ cs → ∃ more : Array Value, s'.heap.get? t.2 = some { cls := .none, data := .fields more } := fun t ht => by
      obtain ⟨more, z⟩ := un.tbls _ _ (ta t ht)
      exact ⟨_, hok' _ _ z⟩
    have stay : ∀ b o, ¬ b ∈ cs.map Prod.snd → s₁.heap.get? b = some o → s'.heap.get? b = some o := fun b o nb e => by
      cases k : H b with
      | none => exact un.keep b o e k (by intro y; cases y) (by simp)
      | some u =>
        rcases hO b u k with ⟨ob, xs, rfl⟩ | z
        · obtain ⟨e1, _⟩ := hok b _ k
          obtain ⟨e2, _⟩ := hok' b _ (un.frzs b ob _ k)
          rw [e] at e1
          cases e1
          exact e2
        · exact absurd z nb
    refine ⟨rfl, ⟨fun b o e => ?_, fun b o e => ?_⟩, os, bare⟩
    · by_cases z : b ∈ cs.map Prod.snd
      · obtain ⟨t, ht, rfl⟩ := List.mem_map.mp z
        obtain ⟨more, gm⟩ := grow t ht
        have y := (tb t ht).ob
        rw [e] at y
        cases y
        exact .inr (.inl ⟨((tb t ht).hd.tab (tb t ht).ob).isCodeTable, rfl, #[], more, rfl, by rw [Array.empty_append]; exact gm⟩)
      · exact .inl (stay b o z e)
    · by_cases z : b ∈ cs.map Prod.snd
      · obtain ⟨t, ht, rfl⟩ := List.mem_map.mp z
        obtain ⟨more, gm⟩ := grow t ht
        exact ⟨_, gm⟩
      · exact ⟨o, stay b o z e⟩
  | .ok .next, h => exact False.elim h
  | .ok .brk, h => exact False.elim h
  | .ok .cont, h => exact False.elim h
  | .error e, h => exact False.elim h
/-! things that are small enough -/
mutual
def gd (k : Nat) : PyData → Bool
  | .none | .bool _ => true
  | .int i => decide (i.natAbs < 10 ^ k)
  | .str x => PyData.strOk x
  | .list xs | .tuple xs => gdA k xs
  | .dict _ => false
def gdA (k : Nat) : List PyData → Bool
  | [] => true
  | x :: xs => gd k x && gdA k xs
end
mutual
theorem gd_lvs {k : Nat} : ∀ d : PyData, gd k d = true → lvs k d = true ∧ d.canLay0 = true
  | .none, _ => ⟨rfl, rfl⟩
  | .bool b, _ => ⟨rfl, rfl⟩
  | .int i, h => ⟨by simpa only [lvs, gd] using h, rfl⟩
  | .str x, h => by
    have h1 : PyData.strOk x = true := by simpa only [gd] using h
    refine ⟨?_, by simpa only [PyData.canLay0] using h1⟩
    simp only [lvs, List.all_eq_true, decide_eq_true_eq]
    intro c hc
    unfold PyData.strOk at h1
    have := Array.all_eq_true_iff_forall_mem.mp h1 c (Array.mem_toList_iff.mp hc)
    have : c < 0x110000 := by simpa using this
    exact Nat.lt_trans this (by decide)
  | .list xs, h => by
    have := gdA_lvs xs (by simpa only [gd] using h)
    simpa only [lvs, PyData.canLay0] using this
  | .tuple xs, h => by
    have := gdA_lvs xs (by simpa only [gd] using h)
    simpa only [lvs, PyData.canLay0] using this
  | .dict _, h => by simp only [gd] at h; exact nomatch h
theorem gdA_lvs {k : Nat} : ∀ xs : List PyData, gdA k xs = true → lvsA k xs = true ∧ PyData.canLayAll0 xs = true
  | [], _ => ⟨rfl, rfl⟩
  | x :: xs, h => by
    have h' : gd k x = true ∧ gdA k xs = true := by simpa only [gdA, Bool.and_eq_true] using h
    have a := gd_lvs x h'.1
    have b := gdA_lvs xs h'.2
    simp only [lvsA, PyData.canLayAll0, a.1, a.2, b.1, b.2]
    exact ⟨rfl, rfl⟩
end
theorem gdA_all {k : Nat} : ∀ {xs : List PyData}, gdA k xs = true ↔ ∀ x, x ∈ xs → gd k x = true
  | [] => ⟨fun _ x hx => (by cases hx), fun _ => rfl⟩
  | x :: xs => by
    simp only [gdA, Bool.and_eq_true, gdA_all (xs := xs)]
    exact ⟨fun h y hy => by
      rcases List.mem_cons.mp hy with rfl | hy
      · exact h.1
      · exact h.2 y hy, fun h => ⟨h x List.mem_cons_self, fun y hy => h y (List.mem_cons_of_mem _ hy)⟩⟩
mutual
theorem gd_mono {k m : Nat} (h : k ≤ m) : ∀ d : PyData, gd k d = true → gd m d = true
  | .none, _ => rfl
  | .bool b, _ => rfl
  | .int i, g => by
    simp only [gd, decide_eq_true_eq] at g ⊢
    exact Nat.lt_of_lt_of_le g (Nat.pow_le_pow_right (by decide) h)
  | .str x, g => by simpa only [gd] using g
  | .list xs, g => by
    have := gdA_mono h xs (by simpa only [gd] using g)
    simpa only [gd] using this
  | .tuple xs, g => by
    have := gdA_mono h xs (by simpa only [gd] using g)
    simpa only [gd] using this
  | .dict _, g => by simp only [gd] at g; exact nomatch g
theorem gdA_mono {k m : Nat} (h : k ≤ m) : ∀ xs : List PyData, gdA k xs = true → gdA m xs = true
  | [], _ => rfl
  | x :: xs, g => by
    have h' : gd k x = true ∧ gdA k xs = true := by simpa only [gdA, Bool.and_eq_true] using g
    simp only [gdA, gd_mono h x h'.1, gdA_mono h xs h'.2]
    rfl
end
structure Bd (k n w : Nat) (d : PyData) : Prop where
  g : gd k d = true
  dp : d.depth ≤ n
  wt : d.weight ≤ w
theorem Bd.mono {k n w m v j : Nat} {d : PyData} (h : Bd k n w d) (c : k ≤ j) (a : n ≤ m) (b : w ≤ v) : Bd j m v d := ⟨gd_mono c d h.g, Nat.le_trans h.dp a, Nat.le_trans h.wt b⟩
theorem Bd.shs {k n w : Nat} {d : PyData} (h : Bd k n w d) : Shs k n w d := ⟨(gd_lvs d h.g).1, h.dp, h.wt⟩
theorem Bd.shaped {k n w : Nat} {d : PyData} (h : Bd k n w d) (hn : n ≤ 64) : SeqAt.shaped d = true := by
  unfold SeqAt.shaped
  rw [(gd_lvs d h.g).2, decide_eq_true (Nat.le_trans h.dp hn)]
  rfl
theorem depA_mem {n : Nat} : ∀ {ds : List PyData} {d : PyData}, d ∈ ds → PyData.depthAll ds ≤ n → d.depth ≤ n
  | x :: xs, d, hd, h => by
    simp only [PyData.depthAll] at h
    rcases List.mem_cons.mp hd with rfl | hd
    · omega
    · exact depA_mem hd (by omega)
theorem weiA_mem : ∀ {ds : List PyData} {d : PyData}, d ∈ ds → d.weight + 1 ≤ PyData.weightAll ds
  | x :: xs, d, hd => by
    simp only [PyData.weightAll]
    rcases List.mem_cons.mp hd with rfl | hd
    · omega
    · have := weiA_mem hd
      omega
/-- the items of a list or tuple that is small enough -/
structure BdA (k n w : Nat) (ds : List PyData) : Prop where
  g : gdA k ds = true
  dp : PyData.depthAll ds ≤ n
  wt : PyData.weightAll ds ≤ w
theorem BdA.get {k n w : Nat} {ds : List PyData} (h : BdA k n w ds) {d : PyData} (hd : d ∈ ds) : Bd k n w d := ⟨gdA_all.mp h.g d hd, depA_mem hd h.dp, by have := weiA_mem hd; have := h.wt; omega⟩
theorem BdA.tup {k n w : Nat} {ds : List PyData} (h : BdA k n w ds) : Bd k (n + 1) w (.tuple ds) := ⟨by simpa only [gd] using h.g, by have := h.dp; simp only [PyData.depth]; omega, by simpa only [PyData.weight] using h.wt⟩
theorem BdA.lst {k n w : Nat} {ds : List PyData} (h : BdA k n w ds) : Bd k (n + 1) w (.list ds) := ⟨by simpa only [gd] using h.g, by have := h.dp; simp only [PyData.depth]; omega, by simpa only [PyData.weight] using h.wt⟩
theorem Bd.itemsT {k n w : Nat} {ds : List PyData} (h : Bd k n w (.tuple ds)) : 1 ≤ n ∧ BdA k (n - 1) w ds := by
  have := h.dp
  simp only [PyData.depth] at this
  exact ⟨by omega, ⟨by simpa only [gd] using h.g, by omega, by simpa only [PyData.weight] using h.wt⟩⟩
theorem Bd.itemsL {k n w : Nat} {ds : List PyData} (h : Bd k n w (.list ds)) : 1 ≤ n ∧ BdA k (n - 1) w ds := by
  have := h.dp
  simp only [PyData.depth] at this
  exact ⟨by omega, ⟨by simpa only [gd] using h.g, by omega, by simpa only [PyData.weight] using h.wt⟩⟩
theorem weiA_app : ∀ (xs ys : List PyData), PyData.weightAll (xs ++ ys) = PyData.weightAll xs + PyData.weightAll ys
  | [], ys => by simp [PyData.weightAll]
  | x :: xs, ys => by
    simp only [List.cons_append, PyData.weightAll, weiA_app xs ys]
    omega
theorem depA_app : ∀ (xs ys : List PyData), PyData.depthAll (xs ++ ys) = max (PyData.depthAll xs) (PyData.depthAll ys)
  | [], ys => by simp [PyData.depthAll]
  | x :: xs, ys => by
    simp only [List.cons_append, PyData.depthAll, depA_app xs ys]
    omega
theorem BdA.app {k n w m v : Nat} {xs ys : List PyData} (h : BdA k n w xs) (g : BdA k m v ys) : BdA k (max n m) (w + v) (xs ++ ys) := by
  refine ⟨gdA_all.mpr fun x hx => ?_, ?_, ?_⟩
  · rcases List.mem_append.mp hx with hx | hx
    · exact gdA_all.mp h.g x hx
    · exact gdA_all.mp g.g x hx
  · have := h.dp
    have := g.dp
    rw [depA_app]
    omega
  · have := h.wt
    have := g.wt
    rw [weiA_app]
    omega
theorem BdA.one {k n w : Nat} {x : PyData} (h : Bd k n w x) : BdA k n (w + 1) [x] := ⟨by simp only [gdA, h.g]; rfl, by have := h.dp; simp only [PyData.depthAll]; omega, by have := h.wt; simp only [PyData.weightAll]; omega⟩
/-- part of the items -/
theorem BdA.part {k n w : Nat} {xs ys zs : List PyData} (h : BdA k n w (xs ++ ys ++ zs)) : BdA k n (PyData.weightAll xs) xs ∧ BdA k n (PyData.weightAll ys) ys ∧ BdA k n (PyData.weightAll zs) zs ∧ PyData.weightAll xs + PyData.weightAll ys + PyData.weightAll zs ≤ w := by
  have a := h.dp
  have b := h.wt
  rw [depA_app, depA_app] at a
  rw [weiA_app, weiA_app] at b
  have c := gdA_all.mp h.g
  exact ⟨⟨gdA_all.mpr fun x hx => c x (List.mem_append_left _ (List.mem_append_left _ hx)), by omega, Nat.le_refl _⟩,
    ⟨gdA_all.mpr fun x hx => c x (List.mem_append_left _ (List.mem_append_right _ hx)), by omega, Nat.le_refl _⟩,
    ⟨gdA_all.mpr fun x hx => c x (List.mem_append_right _ hx), by omega, Nat.le_refl _⟩, b⟩
theorem BdA.mono {k n w m v j : Nat} {d : List PyData} (h : BdA k n w d) (c : k ≤ j) (a : n ≤ m) (b : w ≤ v) : BdA j m v d := ⟨gdA_mono c d h.g, Nat.le_trans h.dp a, Nat.le_trans h.wt b⟩
/-- repr(x) of any thing -/
def rReprX (K : PySem.W.Frag) : List V → Hp → VK → Prop := fun xs H Q => ∃ v d, xs = [v] ∧ Dp K H v d ∧ Sho d ∧ Q (.str d.shown) H
theorem cr_reprX {X : Cx} (hg : X.A.guards = some []) (hu : X.A.units + 65 < cLine) : CallR X (.builtin "repr") (rReprX X.K) := by
  intro pins s σ H vs us Q I r h
  obtain ⟨v, d, rfl, hd, sh, q⟩ := h
  cases hd with
  | non =>
    obtain ⟨u, rfl, r1⟩ := vals1 r
    cases r1
    exact PySem.P.repr_of_none ⟨.str _, H, I.tok _, ⟨_, rfl⟩, q⟩
  | bl b =>
    obtain ⟨u, rfl, r1⟩ := vals1 r
    cases r1
    exact PySem.P.repr_of_bool ⟨.str _, H, I.tok _, ⟨_, rfl⟩, by cases b <;> exact q⟩
  | int i =>
    obtain ⟨u, rfl, t, rfl⟩ := vals1 r
    have hs := sh.s
    simp only [PyData.showable] at hs
    exact PySem.P.repr_of_int (of_decide_eq_true hs) ⟨.str _, H, I.tok _, ⟨_, rfl⟩, q⟩
  | str z =>
    obtain ⟨u, rfl, t, rfl⟩ := vals1 r
    exact PySem.P.repr_of_str ⟨.str _, H, I.tok _, ⟨_, rfl⟩, q⟩ sh.len
  | lst h1 h2 => exact cr_repr hg hu pins s σ H _ us Q I r ⟨_, _, rfl, .lst h1 h2, sh, q⟩
  | tup h1 h2 => exact cr_repr hg hu pins s σ H _ us Q I r ⟨_, _, rfl, .tup h1 h2, sh, q⟩
/-! things, standing away from some lists -/
mutual
inductive Tg (p : Addr → Prop) (H : Hp) : V → PyData → Prop
  | non : Tg p H .non .none
  | bl (b : Bool) : Tg p H (.bl b) (.bool b)
  | int (i : Int) : Tg p H (.int i) (.int i)
  | str (x : Str) : Tg p H (.str x) (.str x)
  | lst {a : Addr} {xs : List V} {ds : List PyData} : ¬ p a → H a = some (.lst xs) → TgA p H xs ds → Tg p H (.ref a) (.list ds)
  | tup {a : Addr} {xs : List V} {ds : List PyData} : ¬ p a → TupO H a xs → TgA p H xs ds → Tg p H (.ref a) (.tuple ds)
inductive TgA (p : Addr → Prop) (H : Hp) : List V → List PyData → Prop
  | nil : TgA p H [] []
  | cons {v : V} {vs : List V} {d : PyData} {ds : List PyData} : Tg p H v d → TgA p H vs ds → TgA p H (v :: vs) (d :: ds)
end
mutual
theorem Tg.to {p q : Addr → Prop} {H H' : Hp} (s : ∀ a o, ¬ p a → H a = some o → H' a = some o ∧ ¬ q a) : ∀ (d : PyData) (v : V), Tg p H v d → Tg q H' v d
  | .none, _, h => by cases h; exact .non
  | .bool b, _, h => by cases h; exact .bl b
  | .int i, _, h => by cases h; exact .int i
  | .str x, _, h => by cases h; exact .str x
  | .list ds, _, h => by
    cases h with
    | lst n e t => exact .lst (s _ _ n e).2 (s _ _ n e).1 (TgA.to s ds _ t)
  | .tuple ds, _, h => by
    cases h with
    | tup n e t =>
      obtain ⟨ob, e⟩ := e
      exact .tup (s _ _ n e).2 ⟨ob, (s _ _ n e).1⟩ (TgA.to s ds _ t)
  | .dict _, _, h => by cases h
theorem TgA.to {p q : Addr → Prop} {H H' : Hp} (s : ∀ a o, ¬ p a → H a = some o → H' a = some o ∧ ¬ q a) : ∀ (ds : List PyData) (vs : List V), TgA p H vs ds → TgA q H' vs ds
  | [], _, h => by cases h; exact .nil
  | d :: ds, _, h => by
    cases h with
    | cons a b => exact .cons (Tg.to s d _ a) (TgA.to s ds _ b)
end
theorem Tg.keep {p : Addr → Prop} {H H' : Hp} {v : V} {d : PyData} (h : Tg p H v d) (s : ∀ a o, ¬ p a → H a = some o → H' a = some o) : Tg p H' v d := h.to fun a o n e => ⟨s a o n e, n⟩
theorem TgA.keep {p : Addr → Prop} {H H' : Hp} {v : List V} {d : List PyData} (h : TgA p H v d) (s : ∀ a o, ¬ p a → H a = some o → H' a = some o) : TgA p H' v d := h.to fun a o n e => ⟨s a o n e, n⟩
theorem Tg.but {l : Addr} {H H' : Hp} {v : V} {d : PyData} (h : Tg (· = l) H v d) (s : But l H H') : Tg (· = l) H' v d := h.keep s
theorem Tg.same {p : Addr → Prop} {H H' : Hp} {v : V} {d : PyData} (h : Tg p H v d) (s : Same H H') : Tg p H' v d := h.keep fun a o _ e => s a o e
theorem TgA.same {p : Addr → Prop} {H H' : Hp} {v : List V} {d : List PyData} (h : TgA p H v d) (s : Same H H') : TgA p H' v d := h.keep fun a o _ e => s a o e
theorem TgA.but {l : Addr} {H H' : Hp} {v : List V} {d : List PyData} (h : TgA (· = l) H v d) (s : But l H H') : TgA (· = l) H' v d := h.keep s
/-- away from a list that is new -/
theorem Tg.new {p : Addr → Prop} {l : Addr} {H : Hp} {v : V} {d : PyData} {o : HO} (h : Tg p H v d) (n : H l = none) : Tg (· = l) (upd H l o) v d := h.to fun a x _ e => ⟨same_upd n a x e, ne_of_none e n⟩
mutual
theorem Tg.dp {K : PySem.W.Frag} {p : Addr → Prop} {H : Hp} : ∀ (d : PyData) (v : V), Tg p H v d → Dp K H v d
  | .none, _, h => by cases h; exact .non
  | .bool b, _, h => by cases h; exact .bl b
  | .int i, _, h => by cases h; exact .int i
  | .str x, _, h => by cases h; exact .str x
  | .list ds, _, h => by
    cases h with
    | lst n e t => exact .lst (SqL.mk e) (TgA.dp ds _ t)
  | .tuple ds, _, h => by
    cases h with
    | tup n e t => exact .tup e.sq (TgA.dp ds _ t)
  | .dict _, _, h => by cases h
theorem TgA.dp {K : PySem.W.Frag} {p : Addr → Prop} {H : Hp} : ∀ (ds : List PyData) (vs : List V), TgA p H vs ds → DpAll K H vs ds
  | [], _, h => by cases h; exact .nil
  | d :: ds, _, h => by
    cases h with
    | cons a b => exact .cons (Tg.dp d _ a) (TgA.dp ds _ b)
end
theorem TgA.len {p : Addr → Prop} {H : Hp} : ∀ {ds : List PyData} {vs : List V}, TgA p H vs ds → vs.length = ds.length
  | [], _, h => by cases h; rfl
  | d :: ds, _, h => by
    cases h with
    | cons a b => rw [List.length_cons, List.length_cons, TgA.len b]
theorem TgA.get {p : Addr → Prop} {H : Hp} : ∀ {ds : List PyData} {vs : List V}, TgA p H vs ds → ∀ {i : Nat} {v : V}, vs[i]? = some v → ∃ d, ds[i]? = some d ∧ Tg p H v d
  | [], _, h, i, v, e => by cases h; cases e
  | d :: ds, _, h, i, v, e => by
    cases h with
    | cons a b =>
      cases i with
      | zero => cases e; exact ⟨d, rfl, a⟩
      | succ i => exact TgA.get b (by simpa using e)
theorem TgA.app {p : Addr → Prop} {H : Hp} {ds es : List PyData} {vs us : List V} (h : TgA p H vs ds) (g : TgA p H us es) : TgA p H (vs ++ us) (ds ++ es) := by
  induction ds generalizing vs with
  | nil => cases h; exact g
  | cons d ds ih =>
    cases h with
    | cons a b => exact .cons a (ih b)
theorem TgA.split {p : Addr → Prop} {H : Hp} : ∀ {ds : List PyData} {vs : List V}, TgA p H vs ds → ∀ i : Nat, TgA p H (vs.take i) (ds.take i) ∧ TgA p H (vs.drop i) (ds.drop i)
  | [], _, h, i => by cases h; simp only [List.take_nil, List.drop_nil]; exact ⟨.nil, .nil⟩
  | d :: ds, _, h, i => by
    cases h with
    | cons a b =>
      cases i with
      | zero => exact ⟨.nil, .cons a b⟩
      | succ i => exact ⟨.cons a (TgA.split b i).1, (TgA.split b i).2⟩
def isIntD : PyData → Bool
  | .int _ => true
  | _ => false
def isBlD : PyData → Bool
  | .bool _ => true
  | _ => false
def isStrD : PyData → Bool
  | .str _ => true
  | _ => false
def isTupD : PyData → Bool
  | .tuple _ => true
  | _ => false
def isLstD : PyData → Bool
  | .list _ => true
  | _ => false
theorem kit2 {K : PySem.W.Frag} {t : String} {a b : Bool} (h1 : kitB t "tuple" = some a) (h2 : kitB t "list" = some b) : PySem.W.kitAny K (.type t) [.type "tuple", .type "list"] = some (a || b) :=
  kitAny_cons (kit_ty h1) (fun e => by subst e; exact kitAny_cons (r := b) (kit_ty h2) (fun e => by subst e; exact kitAny_nil) (fun e => e)) (fun e => by rw [e]; rfl)
theorem TupO.ty {K : PySem.W.Frag} {H : Hp} {a : Addr} {xs : List V} (h : TupO H a xs) : TyX K H (.ref a) (.type "tuple") := by
  obtain ⟨ob, e⟩ := h
  cases ob with
  | none => exact .base (.tup e)
  | some o => exact .fTuple e
theorem Tg.ty {K : PySem.W.Frag} {p : Addr → Prop} {H : Hp} {v : V} {d : PyData} (h : Tg p H v d) : ∃ t, TyX K H v t ∧ PySem.W.kitOne K t (.type "int") = some (isIntD d || isBlD d) ∧ PySem.W.kitOne K t (.type "bool") = some (isBlD d) ∧ PySem.W.kitOne K t (.type "tuple") = some (isTupD d) ∧
    PySem.W.kitOne K t (.type "str") = some (isStrD d) ∧ PySem.W.kitAny K t [.type "tuple", .type "list"] = some (isTupD d || isLstD d) := by
  cases h with
  | non => exact ⟨_, .base .non, kit_ty (by show _ = some false; decide +kernel), kit_ty (by show _ = some false; decide +kernel), kit_ty (by show _ = some false; decide +kernel), kit_ty (by show _ = some false; decide +kernel), kit2 (a := false) (b := false) (by decide +kernel) (by decide +kernel)⟩
  | bl b => exact ⟨_, .base (.bl b), kit_ty (by show _ = some true; decide +kernel), kit_ty (by show _ = some true; decide +kernel), kit_ty (by show _ = some false; decide +kernel), kit_ty (by show _ = some false; decide +kernel), kit2 (a := false) (b := false) (by decide +kernel) (by decide +kernel)⟩
  | int b => exact ⟨_, .base (.int b), kit_ty (by show _ = some true; decide +kernel), kit_ty (by show _ = some false; decide +kernel), kit_ty (by show _ = some false; decide +kernel), kit_ty (by show _ = some false; decide +kernel), kit2 (a := false) (b := false) (by decide +kernel) (by decide +kernel)⟩
  | str b => exact ⟨_, .base (.str b), kit_ty (by show _ = some false; decide +kernel), kit_ty (by show _ = some false; decide +kernel), kit_ty (by show _ = some false; decide +kernel), kit_ty (by show _ = some true; decide +kernel), kit2 (a := false) (b := false) (by decide +kernel) (by decide +kernel)⟩
  | lst ne h => exact ⟨_, .base (.lst h), kit_ty (by show _ = some false; decide +kernel), kit_ty (by show _ = some false; decide +kernel), kit_ty (by show _ = some false; decide +kernel), kit_ty (by show _ = some false; decide +kernel), kit2 (a := false) (b := true) (by decide +kernel) (by decide +kernel)⟩
  | tup ne h => exact ⟨_, h.ty, kit_ty (by show _ = some false; decide +kernel), kit_ty (by show _ = some false; decide +kernel), kit_ty (by show _ = some true; decide +kernel), kit_ty (by show _ = some false; decide +kernel), kit2 (a := true) (b := false) (by decide +kernel) (by decide +kernel)⟩
/-! a tuple so many times -/
theorem tuple_once (l : Addr) (items : Array Value) (n : Nat) (dd : Option Addr) (sl : Array (Option Value)) (u : Tok) :
    Meets (Builtin.«tuple.__mul__» ⟨[.ref l, .int 1 u], []⟩) (fun _ R s => s.heap.get? l = some { cls := .type "tuple", dict := dd, data := .seq items n, slots := sl } ∧ R (.ok (.ret (Value.ref l))) { s with toks := s.toks }) :=
  .of_wp fun prog w A R s h => by
    obtain ⟨hp, g, d, tk, os⟩ := s
    obtain ⟨hl, h⟩ := h
    have f1 := AutoSeq1.idx_int
    have c1 : (items.isEmpty || (1 : Int) == 1) = true := by simp
    wp_walk using wpAny_loadPart' hl
    repeat (first
      | (refine wpAny_ite_true (decide_eq_true c1) ?_; wp_walk using wpAny_loadPart' hl)
      | (refine wpAny_ite_false (decide_eq_false (by decide)) ?_; wp_walk using wpAny_loadPart' hl))
    exact ⟨_, rfl, h⟩
def rRepA (K : PySem.W.Frag) : R2 := fun x y H Q => ∃ (l : Addr) (k : Nat) (xs : List V), x = .ref l ∧ y = .int (k : Nat) ∧ SqT K H l xs ∧ xs ≠ [] ∧ 1 ≤ k ∧ xs.length * k ≤ 1000000 ∧ (k = 1 → Q (.ref l) H) ∧
  (2 ≤ k → ∀ p, H p = none → Q (.ref p) (upd H p (.tup (List.replicate k xs).flatten)))
theorem op_repA {X : Cx} : OpR X (binaryOp .Mult) (rRepA X.K) := by
  intro pins s σ H x y v u Q I rx ry h
  obtain ⟨l, k, xs, rfl, rfl, hT, hne, h1, hz, q1, q2⟩ := h
  cases rx
  obtain ⟨t, rfl⟩ := ry
  obtain ⟨its, r, ⟨⟨cls, dd, data, sl⟩, ho, hc, n, hd⟩, hs⟩ := I.tuple hT
  simp only at hc hd
  subst hc hd
  have lx : 0 < xs.length := List.length_pos_iff.mpr hne
  have le : its.length = xs.length := r.length.symm
  have ke : k * xs.length ≤ 1000000 := by
    rw [Nat.mul_comm]
    exact hz
  have kl : k ≤ 1000000 := Nat.le_trans (Nat.le_mul_of_pos_right k lx) ke
  have ne : its.toArray.isEmpty = false := by
    cases its with
    | nil =>
      rw [← le] at lx
      cases lx
    | cons a b => rfl
  by_cases k1 : k = 1
  · subst k1
    refine wpAny_binaryOp_repeat_ref (T := "tuple") (U := "int") (by decide) ⟨_, ho, rfl⟩ (fun s' => typeIs_int s' _ t) noFill_tuple_mul F.fills_int_mul F.slot_int_rmul repeat_tuple F.slot_int_index.lookup
      (call_meets F.slot_int_rmul (typeIs_int s _ t) F.entry_int_rmul (F.args_int_rmul_2 _ _) (int_rmul_tuple _ t l its.toArray n dd sl)
        ⟨ho, rfl, ⟨_, ho, rfl⟩, call_meets F.slot_tuple_mul ⟨_, ho, rfl⟩ F.entry_tuple_mul (F.args_tuple_mul_2 _ _) (tuple_once l its.toArray n dd sl t) ⟨ho, ?_⟩⟩)
    exact ⟨.ref l, H, I, rfl, q1 rfl⟩
  · have k2 : 2 ≤ k := by omega
    have sz : its.toArray.size = xs.length := by rw [List.size_toArray, le]
    have pr : ((its.toArray.size : Nat) : Int) * (k : Int) ≤ 1000000 := by
      rw [sz, ← Int.natCast_mul]
      omega
    have fl : (List.replicate k its).flatten.length ≤ sizeLine := by
      rw [PyProof.Rows.lm_len_rep_flat, le, sizeLine_eq]
      omega
    have d0 : (decide ((k : Int) < -(2 ^ 63)) || decide ((k : Int) ≥ 2 ^ 63)) = false := by
      rw [decide_eq_false (show ¬ (k : Int) < -(2 ^ 63) by omega), decide_eq_false (show ¬ (k : Int) ≥ 2 ^ 63 by omega)] <;> rfl
    have d1 : (its.toArray.isEmpty || (k : Int) == 1) = false := by
      rw [ne, Bool.false_or]
      exact beq_eq_false_iff_ne.mpr (by omega)
    have d2 : (decide ((k : Int) ≤ 0) || its.toArray.isEmpty) = false := by
      rw [ne, Bool.or_false]
      exact decide_eq_false (by omega)
    have d4 : Builtin.Tuple.tupleTooMany (((its.toArray.size : Nat) : Int) * (k : Int)) = false := by
      unfold Builtin.Tuple.tupleTooMany
      rw [sizeLine_eq]
      exact decide_eq_false (by omega)
    refine wpAny_binaryOp_repeat_ref (T := "tuple") (U := "int") (by decide) ⟨_, ho, rfl⟩ (fun s' => typeIs_int s' _ t) noFill_tuple_mul F.fills_int_mul F.slot_int_rmul repeat_tuple F.slot_int_index.lookup
      (call_meets F.slot_int_rmul (typeIs_int s _ t) F.entry_int_rmul (F.args_int_rmul_2 _ _) (int_rmul_tuple _ t l its.toArray n dd sl)
        ⟨ho, rfl, ⟨_, ho, rfl⟩, call_meets F.slot_tuple_mul ⟨_, ho, rfl⟩ F.entry_tuple_mul (F.args_tuple_mul_2 _ _) (tuple_mulW l its.toArray n dd sl (k : Int) t d0 d1 d2 (by omega) d4 (by rw [Int.toNat_natCast, size_rep, List.size_toArray]; exact fl)) ⟨ho, ?_⟩⟩)
    rw [Int.toNat_natCast, size_rep]
    refine ⟨.ref s.heap.objs.size, _, I.laid (t' := s.toks) (o := .tup (List.replicate k xs).flatten) (fun b ob q => Heap.get?_push_of_some _ q) (Nat.le_refl _) ⟨?_, _, r.rep k, IsTup.new _ _⟩, rfl, q2 k2 _ (I.hok.fresh (Nat.le_refl _))⟩
    rw [PyProof.Rows.lm_len_rep_flat, sizeLine_eq]
    omega
/-! the law's own rows -/
def Bits (rs : List Int) : Prop := ∀ x, x ∈ rs → x = 0 ∨ x = 1
theorem Bits.snoc {rs : List Int} {x : Int} (h : Bits rs) (hx : x = 0 ∨ x = 1) : Bits (rs ++ [x]) := fun y hy => by
  rcases List.mem_append.mp hy with hy | hy
  · exact h y hy
  · rw [List.mem_singleton] at hy
    rw [hy]
    exact hx
theorem but_newer {p q : Addr} {H H' : Hp} {o : HO} (a : But p H H') (n : H q = none) : But p H (upd H' q o) := fun c x hn e => by
  rw [upd_ne (ne_of_none e n)]
  exact a c x hn e
theorem Bx.other {H : Hp} {p q : Addr} {n : Nat} {o : HO} (h : Bx H p n) (nq : q ≠ p) : Bx (L2.upd H q o) p n := by
  obtain ⟨a, b, c, hp, r⟩ := h
  exact ⟨a, b, c, by rw [upd_ne (Ne.symm nq)]; exact hp, r⟩
def PV (p D : Addr) (HX : Hp) (k i : Nat) (H1 : Hp) : Prop := ∃ rs : List Int, rs.length = i ∧ Bits rs ∧ But p HX H1 ∧ Bx H1 p (k + i) ∧ H1 D = some (.lst (rs.map V.int))
theorem pv_start {p D : Addr} {HX : Hp} {k : Nat} (nD : HX D = none) (B : Bx HX p k) : PV p D HX k 0 (upd HX D (.lst [])) := ⟨[], rfl, fun _ h => (by cases h), (But.refl p HX).new nD, B.new nD, upd_same⟩
theorem pv_step {p D : Addr} {HX H1 H4 : Hp} {k i : Nat} {x : Int} (nD : HX D = none) (Dp : D ≠ p) (h : PV p D HX k i H1) (b : But p H1 H4) (B : Bx H4 p (k + (i + 1))) (hi : i < 100000) (hx : x = 0 ∨ x = 1) :
    ∃ acc, H4 D = some (.lst acc) ∧ acc.length < sizeLine ∧ PV p D HX k (i + 1) (upd H4 D (.lst (acc ++ [.int x]))) := by
  obtain ⟨rs, hl, hb, b1, _, hD⟩ := h
  have hsl : sizeLine = 16777216 := by decide
  refine ⟨_, b _ _ Dp hD, by rw [List.length_map]; omega, rs ++ [x], by rw [List.length_append, hl]; rfl, hb.snoc hx, but_newer (b1.trans b) nD, B.other Dp, ?_⟩
  rw [upd_same, List.map_append]
  rfl
theorem rep_one (m : Nat) (x : Int) : (List.replicate m [V.int x]).flatten = (List.replicate m x).map V.int := by
  rw [List.map_replicate]
  induction m with
  | zero => rfl
  | succ m ih => rw [List.replicate_succ, List.flatten_cons, ih, List.replicate_succ]; rfl
/-! a tuple no times, too -/
theorem tuple_nought (l : Addr) (items : Array Value) (n : Nat) (dd : Option Addr) (sl : Array (Option Value)) (u : Tok) (hi : items.isEmpty = false) :
    Meets (Builtin.«tuple.__mul__» ⟨[.ref l, .int 0 u], []⟩) (fun _ R s => s.heap.get? l = some { cls := .type "tuple", dict := dd, data := .seq items n, slots := sl } ∧ R (.ok (.ret (Value.ref s.heap.objs.size))) { s with heap := s.heap.push { cls := Value.type "tuple", data := Data.seq #[] }, toks := s.toks }) :=
  .of_wp fun prog w A R s h => by
    obtain ⟨hp, g, d, tk, os⟩ := s
    obtain ⟨hl, h⟩ := h
    have f1 := AutoSeq1.idx_int
    have c1 : (items.isEmpty || (0 : Int) == 1) = false := by rw [hi]; rfl
    have c2 : (decide ((0 : Int) ≤ 0) || items.isEmpty) = true := by simp
    wp_walk using wpAny_loadPart' hl
    repeat (first
      | (refine wpAny_ite_false (decide_eq_false (by rw [c1]; exact Bool.false_ne_true)) ?_; wp_walk using wpAny_loadPart' hl)
      | (refine wpAny_ite_true (decide_eq_true c2) ?_; wp_walk using wpAny_loadPart' hl)
      | (refine wpAny_ite_false (decide_eq_false (by decide)) ?_; wp_walk using wpAny_loadPart' hl))
    exact ⟨_, rfl, h⟩
def rRepB (K : PySem.W.Frag) : R2 := fun x y H Q => ∃ (l : Addr) (k : Nat) (xs : List V), x = .ref l ∧ y = .int (k : Nat) ∧ SqT K H l xs ∧ xs ≠ [] ∧ xs.length * k ≤ 1000000 ∧ (k = 1 → Q (.ref l) H) ∧
  (k ≠ 1 → ∀ p, H p = none → Q (.ref p) (upd H p (.tup (List.replicate k xs).flatten)))
theorem op_repB {X : Cx} : OpR X (binaryOp .Mult) (rRepB X.K) := by
  intro pins s σ H x y v u Q I rx ry h
  obtain ⟨l, k, xs, rfl, rfl, hT, hne, hz, q1, q2⟩ := h
  by_cases k0 : k = 0
  · subst k0
    cases rx
    obtain ⟨t, rfl⟩ := ry
    obtain ⟨its, r, ⟨⟨cls, dd, data, sl⟩, ho, hc, n, hd⟩, hs⟩ := I.tuple hT
    simp only at hc hd
    subst hc hd
    have le : its.length = xs.length := r.length.symm
    have ne : its.toArray.isEmpty = false := by
      cases its with
      | nil => exact absurd (List.eq_nil_of_length_eq_zero le.symm) hne
      | cons a b => rfl
    refine wpAny_binaryOp_repeat_ref (T := "tuple") (U := "int") (by decide) ⟨_, ho, rfl⟩ (fun s' => typeIs_int s' _ t) noFill_tuple_mul F.fills_int_mul F.slot_int_rmul repeat_tuple F.slot_int_index.lookup
      (call_meets F.slot_int_rmul (typeIs_int s _ t) F.entry_int_rmul (F.args_int_rmul_2 _ _) (int_rmul_tuple _ t l its.toArray n dd sl)
        ⟨ho, rfl, ⟨_, ho, rfl⟩, call_meets F.slot_tuple_mul ⟨_, ho, rfl⟩ F.entry_tuple_mul (F.args_tuple_mul_2 _ _) (tuple_nought l its.toArray n dd sl t ne) ⟨ho, ?_⟩⟩)
    exact ⟨.ref s.heap.objs.size, _, I.laid (t' := s.toks) (o := .tup []) (fun b ob q => Heap.get?_push_of_some _ q) (Nat.le_refl _) ⟨Nat.zero_le _, [], .nil, IsTup.new _ _⟩, rfl, q2 (by decide) _ (I.hok.fresh (Nat.le_refl _))⟩
  · exact op_repA pins s σ H _ _ v u Q I rx ry ⟨l, k, xs, rfl, rfl, hT, hne, by omega, hz, q1, fun z => q2 (by omega)⟩
/-- (x,) so many times -/
theorem rep_go {K : PySem.W.Frag} {H : Hp} {t : Addr} {x v : Int} {k : Nat} {Q : VK} (hv : v = (k : Nat)) (ht : H t = some (.tup [.int x])) (hk : k ≤ 100000) (q : ∀ H' p, Same H H' → H' p = some (.tup ((List.replicate k x).map V.int)) → Q (.ref p) H') : rRepB K (.ref t) (.int v) H Q := by
  subst hv
  refine ⟨t, k, _, rfl, rfl, SqT.mk ht, by simp, (show 1 * k ≤ 1000000 by omega), fun z => ?_, fun z p np => ?_⟩
  · subst z
    exact q H t (Same.refl H) ht
  · exact q _ p (same_upd np) (by rw [upd_same, rep_one])
theorem cat_go {K : PySem.W.Frag} {H : Hp} {a b : Addr} {rs ss : List Int} {Q : VK} (ha : H a = some (.tup (rs.map V.int))) (hb : H b = some (.tup (ss.map V.int))) (hl : rs.length + ss.length ≤ 100000)
    (q : ∀ H' p, Same H H' → H' p = some (.tup ((rs ++ ss).map V.int)) → Q (.ref p) H') : rCatA K (.ref a) (.ref b) H Q := by
  have hsl : sizeLine = 16777216 := by decide
  refine ⟨a, b, _, _, rfl, rfl, SqT.mk ha, SqT.mk hb, by rw [List.length_map, List.length_map]; omega, fun z => ?_, fun _ z => ?_, fun _ _ p np => ?_⟩
  · rw [List.map_eq_nil_iff.mp z] at q
    exact q H b (Same.refl H) hb
  · rw [List.map_eq_nil_iff.mp z] at q
    exact q H a (Same.refl H) (by rw [List.append_nil]; exact ha)
  · exact q _ p (same_upd np) (by rw [upd_same, List.map_append])
theorem catK {X : Cx} {K : PySem.W.Frag} (h : X.K = K) : OpR X (binaryOp .Add) (rCatA K) := by
  subst h
  exact op_catA
theorem zipAK {X : Cx} {K : PySem.W.Frag} {e e2 : Expr} {ta : TA} {p pos tpos : Pos} {elts : List Expr} {kk : Nat} (h : X.K = K) (hg : Gl X "zip") (hm : X.mg "zip" = none) (ha : PA X [e, e2] ta)
    (hs : starEach [e, e2] X.env = (false, eval e X.env) :: starEach [e2] X.env := by rfl) (hpl : (backTo pos (starEach [e2] X.env)).any (·.1) = false := by rfl) :
    PI X (.Tuple elts kk tpos) (.Call (.Name "zip" p) [e, e2] [] pos) (RZ.iZipA K ta) := by
  subst h
  exact RZ.pi_zipA hg hm ha hs hpl
def sp_is_number (K : PySem.W.Frag) : Sp := fun vs H Q _ => ∃ (p : Addr → Prop) (x : V) (d : PyData), vs = [x] ∧ Tg p H x d ∧ Q (.bl (isIntD d)) H
theorem ok_is_number (T : Defs K mg) (TT : Tabs T base) : FnOk P w K mg base CX0 1 T.f_is_number T.fd_is_number ["thing"] (sp_is_number K) := by
  refine T.F_is_number.ok sc_is_number (fun vs H Q E h => ?_) (fun cdv A outer s H vs Q E hr h => ?_)
  · obtain ⟨p, x, d, rfl, hx, q⟩ := h
    rfl
  · obtain ⟨p, x, d, rfl, hx, q⟩ := h
    refine ⟨_, PSs.nox (pss_one (ps_ret (pe_and (pe_callB call_isi (by rfl) T.m_isinstance bt_isinstance (pa_cons (pv 0) (pa_cons (pe_bltn (v := .ty "int") (by rfl) T.m_int bt_int rfl) pa_nil))) (pe_one (pe_not (pe_callB call_isi (by rfl) T.m_isinstance bt_isinstance (pa_cons (pv 0) (pa_cons (pe_bltn (v := .ty "bool") (by rfl) T.m_bool bt_bool rfl) pa_nil)))))))), ?_⟩
    obtain ⟨t, ty, ki, kb, _⟩ := hx.ty (K := K)
    refine ⟨x, rfl, _, _, _, _, _, rfl, .ty "int", ty, ki, _, rfl, ?_⟩
    refine ite2 (fun e => ?_) (fun e => ?_)
    · refine ⟨x, rfl, _, _, _, _, _, rfl, .ty "bool", ty, kb, _, rfl, ?_⟩
      have ee : (!isBlD d) = isIntD d := by
        cases d <;> first | rfl | cases e
      rw [ee]
      exact q
    · have ee : isIntD d = false := by
        cases d <;> first | rfl | exact absurd rfl e
      rw [ee] at q
      exact q
def withinD (d : PyData) (lo hi : Int) : Bool := match d with
  | .int i => decide (lo ≤ i ∧ i ≤ hi)
  | _ => false
def sp_is_within (K : PySem.W.Frag) : Sp := fun vs H Q _ => ∃ (p : Addr → Prop) (x : V) (d : PyData) (lo hi : Int), vs = [x, .int lo, .int hi] ∧ Tg p H x d ∧ Q (.bl (withinD d lo hi)) H
theorem ok_is_within (T : Defs K mg) (TT : Tabs T base) : FnOk P w K mg base CX0 2 T.f_is_within T.fd_is_within ["thing", "least", "greatest"] (sp_is_within K) := by
  have G_is_number : FnOk P w K mg base CX0 1 T.f_is_number T.fd_is_number ["thing"] (sp_is_number K) := ok_is_number T TT
  refine T.F_is_within.ok sc_is_within (fun vs H Q E h => ?_) (fun cdv A outer s H vs Q E hr h => ?_)
  · obtain ⟨p, x, d, lo, hi, rfl, hx, q⟩ := h
    rfl
  · obtain ⟨p, x, d, lo, hi, rfl, hx, q⟩ := h
    refine ⟨_, PSs.nox (pss_one (ps_ret (pe_and (pe_call G_is_number (hr.mono (by decide)) (by rfl) T.g_is_number T.F_is_number.kp T.b_is_number .nil pass0 (pa_cons (pv 0) pa_nil)) (pe_one (pe_chain op_le op_le (pv 1) (pv 0) (pv 2)))))), ?_⟩
    refine ⟨x, rfl, p, x, d, rfl, hx, _, rfl, ?_⟩
    cases hx with
    | int i =>
      refine iteT ⟨_, rfl, _, rfl, _, _, rfl, rfl, _, rfl, ?_⟩
      by_cases z : lo ≤ i
      · rw [decide_eq_true z]
        refine iteT ⟨_, rfl, _, _, rfl, rfl, ?_⟩
        have e : decide (i ≤ hi) = withinD (.int i) lo hi := decide_eq_decide.mpr ⟨fun y => ⟨z, y⟩, fun y => y.2⟩
        show Q (.bl (decide (i ≤ hi))) H
        rw [e]
        exact q
      · rw [decide_eq_false z]
        refine iteF ?_
        have e : withinD (.int i) lo hi = false := decide_eq_false (fun y => z y.1)
        rw [e] at q
        exact q
    | _ => exact iteF q
/-! tuples joined, cut, repeated: one way on -/
def rCatS (_ : PySem.W.Frag) : R2 := fun x y H Q => ∃ a b xs ys, x = .ref a ∧ y = .ref b ∧ H a = some (.tup xs) ∧ H b = some (.tup ys) ∧ xs.length + ys.length ≤ sizeLine ∧ ∀ G c, Same H G → G c = some (.tup (xs ++ ys)) → Q (.ref c) G
theorem op_catS {X : Cx} : OpR X (binaryOp .Add) (rCatS X.K) := by
  intro pins s σ H x y v u Q I rx ry h
  obtain ⟨a, b, xs, ys, rfl, rfl, ha, hb, hz, q⟩ := h
  refine op_catA pins s σ H _ _ v u Q I rx ry ⟨a, b, xs, ys, rfl, rfl, SqT.mk ha, SqT.mk hb, hz, fun e => ?_, fun _ e => ?_, fun _ _ p np => ?_⟩
  · subst e
    exact q H b (Same.refl H) hb
  · subst e
    exact q H a (Same.refl H) (by rw [List.append_nil]; exact ha)
  · exact q _ p (same_upd np) upd_same
def rSlS (_ : PySem.W.Frag) : V → Option Int → Option Int → Hp → VK → Prop := fun x lo hi H Q => ∃ a xs, x = .ref a ∧ H a = some (.tup xs) ∧ ∀ G c, Same H G → G c = some (.tup (cutV xs lo hi)) → Q (.ref c) G
theorem sl_tupS {X : Cx} : SlR X (rSlS X.K) := by
  intro pins s σ H x v vl vu lo hi sl Q I rx hs pl pu h
  obtain ⟨a, xs, rfl, ha, q⟩ := h
  refine sl_tupA pins s σ H _ v vl vu lo hi sl Q I rx hs pl pu ⟨a, xs, rfl, SqT.mk ha, fun e => ?_, fun _ p np => ?_⟩
  · refine q H a (Same.refl H) ?_
    unfold cutV
    rw [e.1, e.2, List.drop_zero, Nat.sub_zero, List.take_length]
    exact ha
  · exact q _ p (same_upd np) upd_same
def rRepS (_ : PySem.W.Frag) : R2 := fun x y H Q => ∃ (l : Addr) (k : Nat) (v : V), x = .ref l ∧ y = .int (k : Nat) ∧ H l = some (.tup [v]) ∧ k ≤ 1000000 ∧ ∀ G c, Same H G → G c = some (.tup (List.replicate k v)) → Q (.ref c) G
theorem rep_flat {α : Type} (v : α) : ∀ k : Nat, (List.replicate k [v]).flatten = List.replicate k v
  | 0 => rfl
  | k + 1 => by rw [List.replicate_succ, List.flatten_cons, rep_flat v k, List.replicate_succ]; rfl
theorem op_repS {X : Cx} : OpR X (binaryOp .Mult) (rRepS X.K) := by
  intro pins s σ H x y v u Q I rx ry h
  obtain ⟨l, k, z, rfl, rfl, hl, hk, q⟩ := h
  refine op_repB pins s σ H _ _ v u Q I rx ry ⟨l, k, [z], rfl, rfl, SqT.mk hl, by simp, by simpa using hk, fun e => ?_, fun _ p np => ?_⟩
  · refine q H l (Same.refl H) ?_
    rw [e]
    exact hl
  · refine q _ p (same_upd np) ?_
    rw [rep_flat]
    exact upd_same
theorem cut_lo (xs : List V) (m : Nat) (h : m ≤ xs.length) : cutV xs none (some (m : Nat)) = xs.take m := by
  unfold cutV
  show (xs.drop 0).take _ = _
  rw [HT.sIx_nat, List.drop_zero, show HT.sIx xs.length 0 none = 0 from rfl, Nat.sub_zero, Nat.min_eq_left h]
theorem cut_hi (xs : List V) (m : Nat) : cutV xs (some (m : Nat)) none = xs.drop m := by
  unfold cutV
  rw [HT.sIx_nat, show HT.sIx xs.length xs.length none = xs.length from rfl]
  by_cases h : m ≤ xs.length
  · rw [Nat.min_eq_left h]
    exact List.take_of_length_le (by rw [List.length_drop]; exact Nat.le_refl _)
  · rw [Nat.min_eq_right (by omega), List.drop_of_length_le (Nat.le_refl _), List.drop_of_length_le (by omega), List.take_nil]
/-! str(x) of any thing -/
def strD (d : PyData) : Str := match d with
  | .str z => z
  | d => d.shown
def rStrX (K : PySem.W.Frag) : List V → Hp → VK → Prop := fun xs H Q => ∃ v d, xs = [v] ∧ Dp K H v d ∧ ((∃ z, d = .str z) ∨ Sho d) ∧ Q (.str (strD d)) H
theorem u70g {k : Nat} {A : Around} (r : Room k A) : A.units + 70 < cLine := by
  have := r.un
  omega
theorem call_strX {X : Cx} (hg : X.A.guards = some []) (hu : X.A.units + 70 < cLine) : CallR X (.type "str") (rStrX X.K) := by
  intro pins s σ H vs us Q I r h
  obtain ⟨v, d, rfl, hd, sh, q⟩ := h
  cases hd with
  | non =>
    obtain ⟨u, rfl, r1⟩ := vals1 r
    cases r1
    exact PySem.P.str_of_none ⟨.str _, H, I.tok _, ⟨_, rfl⟩, q⟩
  | bl b =>
    obtain ⟨u, rfl, r1⟩ := vals1 r
    cases r1
    exact PySem.P.str_of_bool ⟨.str _, H, I.tok _, ⟨_, rfl⟩, by cases b <;> exact q⟩
  | int i =>
    obtain ⟨u, rfl, t, rfl⟩ := vals1 r
    rcases sh with ⟨z, e⟩ | sh
    · cases e
    have hs := sh.s
    simp only [PyData.showable] at hs
    exact PySem.P.str_of_int (of_decide_eq_true hs) ⟨.str _, H, I.tok _, ⟨_, rfl⟩, q⟩
  | str z =>
    obtain ⟨u, rfl, t, rfl⟩ := vals1 r
    exact PySem.P.str_of_str ⟨.str _, H, I, ⟨_, rfl⟩, q⟩
  | lst h1 h2 =>
    rcases sh with ⟨z, e⟩ | sh
    · cases e
    obtain ⟨shs, nd, dd, sz⟩ := sh
    rw [Vals.ref1 r]
    obtain ⟨as, rd⟩ := Dp.reads I _ (.ref _) (.ref _) (Dp.lst h1 h2) rfl
    refine str_of_reads rd shs (fun z => by rw [nd] at z; cases z) hg (by omega) (fun _ _ e => e) (fun h' u tk hk => ?_) sz
    exact ⟨.str _, H, I.kept (t' := tk) hk, ⟨_, rfl⟩, q⟩
  | tup h1 h2 =>
    rcases sh with ⟨z, e⟩ | sh
    · cases e
    obtain ⟨shs, nd, dd, sz⟩ := sh
    rw [Vals.ref1 r]
    obtain ⟨as, rd⟩ := Dp.reads I _ (.ref _) (.ref _) (Dp.tup h1 h2) rfl
    refine str_of_reads rd shs (fun z => by rw [nd] at z; cases z) hg (by omega) (fun _ _ e => e) (fun h' u tk hk => ?_) sz
    exact ⟨.str _, H, I.kept (t' := tk) hk, ⟨_, rfl⟩, q⟩
/-! things with tables about -/
theorem Sam.tupO {H H' : Hp} {a : Addr} {xs : List V} (s : Sam H H') (h : TupO H a xs) : TupO H' a xs := by
  obtain ⟨ob, e⟩ := h
  exact ⟨ob, s.obj _ _ (fun _ z => by cases ob <;> cases z) e⟩
theorem Sam.fz {H H' : Hp} {a : Addr} {xs : List V} (s : Sam H H') (h : FzT H a xs) : FzT H' a xs := by
  obtain ⟨ob, h1, h2, e⟩ := h
  exact ⟨ob, h1, h2, s.obj _ _ (fun _ z => by cases z) e⟩
mutual
theorem Tg.kp {p q : Addr → Prop} {H H' : Hp} (s1 : ∀ a xs, ¬ p a → H a = some (.lst xs) → H' a = some (.lst xs) ∧ ¬ q a) (s2 : ∀ a xs, ¬ p a → TupO H a xs → TupO H' a xs ∧ ¬ q a) : ∀ (d : PyData) (v : V), Tg p H v d → Tg q H' v d
  | .none, _, h => by cases h; exact .non
  | .bool b, _, h => by cases h; exact .bl b
  | .int i, _, h => by cases h; exact .int i
  | .str x, _, h => by cases h; exact .str x
  | .list ds, _, h => by
    cases h with
    | lst n e t => exact .lst (s1 _ _ n e).2 (s1 _ _ n e).1 (TgA.kp s1 s2 ds _ t)
  | .tuple ds, _, h => by
    cases h with
    | tup n e t => exact .tup (s2 _ _ n e).2 (s2 _ _ n e).1 (TgA.kp s1 s2 ds _ t)
  | .dict _, _, h => by cases h
theorem TgA.kp {p q : Addr → Prop} {H H' : Hp} (s1 : ∀ a xs, ¬ p a → H a = some (.lst xs) → H' a = some (.lst xs) ∧ ¬ q a) (s2 : ∀ a xs, ¬ p a → TupO H a xs → TupO H' a xs ∧ ¬ q a) : ∀ (ds : List PyData) (vs : List V), TgA p H vs ds → TgA q H' vs ds
  | [], _, h => by cases h; exact .nil
  | d :: ds, _, h => by
    cases h with
    | cons a b => exact .cons (Tg.kp s1 s2 d _ a) (TgA.kp s1 s2 ds _ b)
end
theorem Tg.sam {p : Addr → Prop} {H H' : Hp} {v : V} {d : PyData} (h : Tg p H v d) (s : Sam H H') : Tg p H' v d := h.kp (fun a xs n e => ⟨s.lst e, n⟩) (fun a xs n e => ⟨s.tupO e, n⟩)
theorem TgA.sam {p : Addr → Prop} {H H' : Hp} {v : List V} {d : List PyData} (h : TgA p H v d) (s : Sam H H') : TgA p H' v d := h.kp (fun a xs n e => ⟨s.lst e, n⟩) (fun a xs n e => ⟨s.tupO e, n⟩)
theorem tg_ints {p : Addr → Prop} {H : Hp} : ∀ rs : List Int, TgA p H (rs.map V.int) (rs.map PyData.int)
  | [] => .nil
  | x :: rs => .cons (.int x) (tg_ints rs)
/-! tuples whose object is told: displays, joined, repeated -/
def tTupF (t : TA) : TE := fun σ H Q => t σ H fun xs H1 => xs.length ≤ sizeLine ∧ ∀ p G, Same H1 G → FzT G p xs → Q (.ref p) G
theorem fz_new {X : Cx} {pins : List (Addr × Obj)} {σ : List (Option V)} {H : Hp} {s : Shared} {xs : List V} {its : List Value} (I : Inv X pins σ H s) (r : Vals xs its) (hz : xs.length ≤ sizeLine) {Q : VK} (q : ∀ p G, Same H G → FzT G p xs → Q (.ref p) G) :
    EP X pins σ Q (.ref s.heap.objs.size) { s with heap := s.heap.push { cls := .type "tuple", data := .seq its.toArray }, toks := s.toks } := by
  have J : Inv X pins σ (upd H s.heap.objs.size (tupO (some { cls := .type "tuple", data := .seq its.toArray }) xs)) { s with heap := s.heap.push { cls := .type "tuple", data := .seq its.toArray }, toks := s.toks } :=
    I.laid (t' := s.toks) (fun b o e => Heap.get?_push_of_some _ e) (Nat.le_refl _) ⟨Heap.get?_push_size _ rfl, hz, its, r, IsTup.new _ _⟩
  exact ⟨.ref s.heap.objs.size, _, J, rfl, q _ _ (same_upd (I.hok.fresh (Nat.le_refl _))) ⟨_, rfl, rfl, upd_same⟩⟩
theorem pe_tupF {X : Cx} {es : List Expr} {t : TA} {pos : Pos} {x1 : Nat} (ha : PA X es t) : PE X (.Tuple es x1 pos) (tTupF t) := by
  refine ⟨fun pins s σ H Q I h => wpAny_Tuple (thn (ha.run pos pins s σ H _ I h) fun us s1 ⟨vs, H1, J, r, l, q⟩ => ?_)⟩
  exact ⟨by rw [← r.length]; exact l, fz_new J r l q⟩
def rRepF (_ : PySem.W.Frag) : R2 := fun x y H Q => ∃ (l : Addr) (k : Nat) (v : V), x = .ref l ∧ y = .int (k : Nat) ∧ FzT H l [v] ∧ k ≤ 1000000 ∧ ∀ G c, Same H G → FzT G c (List.replicate k v) → Q (.ref c) G
theorem op_repF {X : Cx} : OpR X (binaryOp .Mult) (rRepF X.K) := by
  intro pins s σ H x y v u Q I rx ry h
  obtain ⟨l, k, z, rfl, rfl, hF, hk, q⟩ := h
  have hT : SqT X.K H l [z] := hF.o.sq
  cases rx
  obtain ⟨t, rfl⟩ := ry
  obtain ⟨its, r, ⟨⟨cls, dd, data, sl⟩, ho, hc, n, hd⟩, hs⟩ := I.tuple hT
  simp only at hc hd
  subst hc hd
  have le : its.length = 1 := r.length.symm
  have ne : its.toArray.isEmpty = false := by
    cases its with
    | nil => cases le
    | cons a b => rfl
  by_cases k0 : k = 0
  · subst k0
    refine wpAny_binaryOp_repeat_ref (T := "tuple") (U := "int") (by decide) ⟨_, ho, rfl⟩ (fun s' => typeIs_int s' _ t) noFill_tuple_mul F.fills_int_mul F.slot_int_rmul repeat_tuple F.slot_int_index.lookup
      (call_meets F.slot_int_rmul (typeIs_int s _ t) F.entry_int_rmul (F.args_int_rmul_2 _ _) (int_rmul_tuple _ t l its.toArray n dd sl)
        ⟨ho, rfl, ⟨_, ho, rfl⟩, call_meets F.slot_tuple_mul ⟨_, ho, rfl⟩ F.entry_tuple_mul (F.args_tuple_mul_2 _ _) (tuple_nought l its.toArray n dd sl t ne) ⟨ho, ?_⟩⟩)
    exact fz_new (xs := []) (its := []) I .nil (Nat.zero_le _) fun p G s h => q G p s h
  by_cases k1 : k = 1
  · subst k1
    refine wpAny_binaryOp_repeat_ref (T := "tuple") (U := "int") (by decide) ⟨_, ho, rfl⟩ (fun s' => typeIs_int s' _ t) noFill_tuple_mul F.fills_int_mul F.slot_int_rmul repeat_tuple F.slot_int_index.lookup
      (call_meets F.slot_int_rmul (typeIs_int s _ t) F.entry_int_rmul (F.args_int_rmul_2 _ _) (int_rmul_tuple _ t l its.toArray n dd sl)
        ⟨ho, rfl, ⟨_, ho, rfl⟩, call_meets F.slot_tuple_mul ⟨_, ho, rfl⟩ F.entry_tuple_mul (F.args_tuple_mul_2 _ _) (tuple_once l its.toArray n dd sl t) ⟨ho, ?_⟩⟩)
    exact ⟨.ref l, H, I, rfl, q H l (Same.refl H) hF⟩
  · have k2 : 2 ≤ k := by omega
    have sz : its.toArray.size = 1 := by rw [List.size_toArray, le]
    have pr : ((its.toArray.size : Nat) : Int) * (k : Int) ≤ 1000000 := by
      rw [sz, ← Int.natCast_mul]
      omega
    have fl : (List.replicate k its).flatten.length ≤ sizeLine := by
      rw [PyProof.Rows.lm_len_rep_flat, le, sizeLine_eq]
      omega
    have d0 : (decide ((k : Int) < -(2 ^ 63)) || decide ((k : Int) ≥ 2 ^ 63)) = false := by
      rw [decide_eq_false (show ¬ (k : Int) < -(2 ^ 63) by omega), decide_eq_false (show ¬ (k : Int) ≥ 2 ^ 63 by omega)] <;> rfl
    have d1 : (its.toArray.isEmpty || (k : Int) == 1) = false := by
      rw [ne, Bool.false_or]
      exact beq_eq_false_iff_ne.mpr (by omega)
    have d2 : (decide ((k : Int) ≤ 0) || its.toArray.isEmpty) = false := by
      rw [ne, Bool.or_false]
      exact decide_eq_false (by omega)
    have d4 : Builtin.Tuple.tupleTooMany (((its.toArray.size : Nat) : Int) * (k : Int)) = false := by
      unfold Builtin.Tuple.tupleTooMany
      rw [sizeLine_eq]
      exact decide_eq_false (by omega)
    refine wpAny_binaryOp_repeat_ref (T := "tuple") (U := "int") (by decide) ⟨_, ho, rfl⟩ (fun s' => typeIs_int s' _ t) noFill_tuple_mul F.fills_int_mul F.slot_int_rmul repeat_tuple F.slot_int_index.lookup
      (call_meets F.slot_int_rmul (typeIs_int s _ t) F.entry_int_rmul (F.args_int_rmul_2 _ _) (int_rmul_tuple _ t l its.toArray n dd sl)
        ⟨ho, rfl, ⟨_, ho, rfl⟩, call_meets F.slot_tuple_mul ⟨_, ho, rfl⟩ F.entry_tuple_mul (F.args_tuple_mul_2 _ _) (tuple_mulW l its.toArray n dd sl (k : Int) t d0 d1 d2 (by omega) d4 (by rw [Int.toNat_natCast, size_rep, List.size_toArray]; exact fl)) ⟨ho, ?_⟩⟩)
    rw [Int.toNat_natCast, size_rep]
    refine fz_new (xs := List.replicate k z) I ?_ ?_ fun p G s h => q G p s h
    · have := r.rep k
      rw [rep_flat] at this
      exact this
    · rw [List.length_replicate, sizeLine_eq]
      omega
def rCatF (_ : PySem.W.Frag) : R2 := fun x y H Q => ∃ a b xs ys, x = .ref a ∧ y = .ref b ∧ FzT H a xs ∧ FzT H b ys ∧ xs.length + ys.length ≤ sizeLine ∧ ∀ G c, Same H G → FzT G c (xs ++ ys) → Q (.ref c) G
theorem op_catF {X : Cx} : OpR X (binaryOp .Add) (rCatF X.K) := by
  intro pins s σ H x y v u Q I rx ry h
  obtain ⟨a, b, xs, ys, rfl, rfl, ha, hb, hz, q⟩ := h
  cases rx
  cases ry
  obtain ⟨ix, r1, ⟨⟨cls, dd, data, sl⟩, ho, hc, n, hd⟩, _⟩ := I.tuple (show SqT X.K H a xs from ha.o.sq)
  simp only at hc hd
  subst hc hd
  obtain ⟨iy, r2, ⟨⟨cls2, dd2, data2, sl2⟩, ho2, hc2, n2, hd2⟩, _⟩ := I.tuple (show SqT X.K H b ys from hb.o.sq)
  simp only at hc2 hd2
  subst hc2 hd2
  have l1 := r1.length
  have l2 := r2.length
  refine wpAny_binaryOp_concat (T := "tuple") ⟨_, ho, rfl⟩ ⟨_, ho2, rfl⟩ noFill_tuple_add seq_tuple_add ?_
  by_cases e1 : xs = []
  · subst e1
    obtain rfl := List.eq_nil_of_length_eq_zero l1.symm
    refine call_meets F.slot_tuple_add ⟨_, ho, rfl⟩ F.entry_tuple_add (F.args_tuple_add_2 _ _) (tuple_addW0 a b _ _ n n2 dd dd2 sl sl2 rfl) ⟨ho, ho2, ?_⟩
    exact ⟨.ref b, H, I, rfl, q H b (Same.refl H) hb⟩
  have n1 : ¬ ix.toArray.isEmpty = true := fun z => e1 (List.eq_nil_of_length_eq_zero (by
    cases ix with
    | nil => exact l1
    | cons _ _ => cases z))
  by_cases e2 : ys = []
  · subst e2
    obtain rfl := List.eq_nil_of_length_eq_zero l2.symm
    refine call_meets F.slot_tuple_add ⟨_, ho, rfl⟩ F.entry_tuple_add (F.args_tuple_add_2 _ _) (tuple_addW1 a b _ _ n n2 dd dd2 sl sl2 n1 rfl) ⟨ho, ho2, ?_⟩
    exact ⟨.ref a, H, I, rfl, q H a (Same.refl H) (by rw [List.append_nil]; exact ha)⟩
  have n2' : ¬ iy.toArray.isEmpty = true := fun z => e2 (List.eq_nil_of_length_eq_zero (by
    cases iy with
    | nil => exact l2
    | cons _ _ => cases z))
  refine call_meets F.slot_tuple_add ⟨_, ho, rfl⟩ F.entry_tuple_add (F.args_tuple_add_2 _ _) (tuple_addW2 a b _ _ n n2 dd dd2 sl sl2 n1 n2' (by simp only [List.size_toArray]; omega)) ⟨ho, ho2, ?_⟩
  have e : ix.toArray ++ iy.toArray = (ix ++ iy).toArray := by simp
  rw [e]
  exact fz_new (xs := xs ++ ys) I (r1.append r2) (by rw [List.length_append]; exact hz) fun p G s h => q G p s h
/-! tuple(l), and a method of a tuple: the very object is told -/
def rTupF (K : PySem.W.Frag) : List V → Hp → VK → Prop := fun xs H Q => ∃ p ys, xs = [.ref p] ∧ SqL K H p ys ∧ ∀ l ob, H l = none → ob.dict = none → ob.cls = .type "tuple" → Q (.ref l) (upd H l (tupO (some ob) ys))
theorem call_tupleF {X : Cx} : CallR X (.type "tuple") (rTupF X.K) := by
  intro pins s σ H xs us Q I r h
  obtain ⟨p, ys, rfl, hq, q⟩ := h
  obtain ⟨u, rfl, rx⟩ := vals1 r
  cases rx
  obtain ⟨its, r', pl, hz⟩ := I.list hq
  have hl := r'.length
  refine call_tuple_list pl.isList (fun h' kp => ?_) (by simp only [List.size_toArray] <;> omega)
  have J : Inv X pins σ H { s with heap := h' } := I.kept (t' := s.toks) kp
  have J2 : Inv X pins σ (upd H h'.objs.size (tupO (some { cls := .type "tuple", data := .seq its.toArray }) ys)) { s with heap := h'.push { cls := .type "tuple", data := .seq its.toArray } } :=
    J.laid (t' := s.toks) (fun b o e => Heap.get?_push_of_some _ e) (Nat.le_refl _) ⟨Heap.get?_push_size _ rfl, hz, its, r', IsTup.new _ _⟩
  exact ⟨.ref h'.objs.size, _, J2, rfl, q _ _ (J.hok.fresh (Nat.le_refl _)) rfl rfl⟩
def tTM (r : V → List V → Hp → VK → Prop) (to : TE) (t : TA) : TE := fun σ H Q => to σ H fun x H1 => (∃ p ob xs, x = .ref p ∧ ob.dict = none ∧ ob.cls = .type "tuple" ∧ H1 p = some (tupO (some ob) xs)) ∧ t σ H1 fun xs H2 => r x xs H2 Q
theorem pe_tm {X : Cx} {id : String} {name : Str} {r : V → List V → Hp → VK → Prop} {o e : Expr} {es : List Expr} {to : TE} {t : TA} {apos cpos : Pos} (slot : Slot "tuple" name id) (hty : typeOf (.builtin id) = pure (.type "method_descriptor")) (hm : MtR X id r) (ho : PE X o to) (ha : PA X (e :: es) t) (h1 : attributeBase o name X.env (eval o X.env) = eval o X.env := by rfl) (h2 : ((backTo cpos (starEach (e :: es) X.env)).all (fun x => !x.1) && (backToKw cpos (keywordEach [] X.env)).all (fun x => x.1.isSome) && decide ((e :: es).length + ([] : List Keyword).length + (if ([] : List Keyword).isEmpty then 0 else 1) < 30)) = true := by rfl) (h3 : (apos.endLine == cpos.line) = true := by rfl) (h4 : starEach (e :: es) X.env = (false, eval e X.env) :: starEach es X.env := by rfl) (h5 : (backTo cpos (starEach es X.env)).any (·.1) = false := by rfl) : PE X (.Call (.Attribute o name apos) (e :: es) [] cpos) (tTM r to t) := by
  refine ⟨fun pins s σ H Q I h => wpAny_Call_method_late h1 h2 h3 rfl (thn (ho.run pins s σ H _ I h) fun v s1 ⟨x, H1, J, rv, ⟨p, ob, xs, ex, od, oc, hp⟩, q⟩ => ?_)⟩
  subst ex
  cases rv
  have hg : s1.heap.get? p = some ob := (J.hok p _ hp).1
  refine ⟨"tuple", id, PySem.F.plainAttrs_tuple, slot, hty, ⟨ob, hg, oc⟩, fun a ea => by cases ea; exact ⟨ob, hg, od⟩, ?_⟩
  have w := ha.run cpos pins s1 σ H1 _ J q
  rw [h4] at w ⊢
  refine Calls.callWith_builtin (by show (false || (backTo cpos (starEach es X.env)).any (·.1)) = false; rw [h5] <;> rfl) (Calls.evalArgs_plain ?_)
  exact thn w fun us s2 ⟨vs, H2, J2, r2, q2⟩ => hm pins s2 σ H2 (.ref p) vs (.ref p) us Q J2 rfl r2 q2
/-! a tuple's items, the last one first -/
section
variable {prog : Program} {w : World} {A : Around} {E : Value → Shared → Prop} {s : Shared}
theorem back_places (n : Nat) : Builtin.Slice.slicePlaces ((n : Int) - 1) (-1) (-1) = n := by
  unfold Builtin.Slice.slicePlaces
  rw [if_neg (show ¬ ((-1 : Int) > 0) by decide), show -(-1 : Int) = 1 by decide, Int.ediv_one]
  split <;> omega
theorem back_applied {c : Addr} {g1 g2 g3 : Value} {n : Nat} {Q : Int × Int × Nat → Shared → Prop} (hs : s.heap.IsSliceOf c g1 g2 g3) (p1 : IsPart g1 none) (p2 : IsPart g2 none) (p3 : IsPart g3 (some (-1))) (h : Q ((n : Int) - 1, -1, n) s) : wpAny (model prog w) A (Builtin.Slice.sliceApplied (.ref c) (pure (n : Int))) Q E s := by
  obtain ⟨ob, ho, _, hf⟩ := id hs
  unfold Builtin.Slice.sliceApplied Builtin.Slice.sliceFields
  refine wpAny_bind (wpAny_bind (wpAny_field ho hf (x := g1) rfl (wpAny_bind (wpAny_field ho hf (x := g2) rfl (wpAny_bind (wpAny_field ho hf (x := g3) rfl (wpAny_pure ?_)))))))
  refine wpAny_bind (HT.slicePart_ p3 ?_)
  show wpAny _ _ (if ((-1 : Int) == 0) = true then _ else _) _ _ s
  rw [if_neg (show ¬ ((-1 : Int) == 0) = true by decide)]
  refine wpAny_bind (HT.slicePart_ p1 (wpAny_bind (HT.slicePart_ p2 (wpAny_bind (wpAny_pure ?_)))))
  show wpAny _ _ (pure ((n : Int) - 1, (-1 : Int), Builtin.Slice.slicePlaces ((n : Int) - 1) (-1) (-1))) _ _ s
  rw [back_places]
  exact wpAny_pure h
theorem fm_all {α β : Type} {f : α → Option β} {g : α → β} : ∀ l : List α, (∀ m, m ∈ l → f m = some (g m)) → l.filterMap f = l.map g
  | [], _ => rfl
  | x :: r, h => by
    rw [List.filterMap_cons_some (h x List.mem_cons_self), List.map_cons, fm_all r fun m hm => h m (List.mem_cons_of_mem _ hm)]
theorem back_pick (xs : Array Value) : ((List.range xs.size).filterMap fun (m : Nat) => xs[(((xs.size : Int) - 1) + (m : Int) * (-1)).toNat]?).toArray = xs.toList.reverse.toArray := by
  congr 1
  have e : ∀ m, m ∈ List.range xs.size → xs[(((xs.size : Int) - 1) + (m : Int) * (-1)).toNat]? = some ((xs.toList.reverse)[m]?.getD .none) := fun m hm => by
    have hm := List.mem_range.mp hm
    rw [show (((xs.size : Int) - 1) + (m : Int) * (-1)).toNat = xs.size - 1 - m by omega, List.getElem?_reverse (by rw [Array.length_toList]; exact hm), Array.length_toList, Array.getElem?_toList, Array.getElem?_eq_getElem (by omega)]
    rfl
  rw [fm_all _ e]
  apply List.ext_getElem?
  intro i
  rw [List.getElem?_map]
  by_cases h : i < xs.size
  · have e2 := List.getElem?_eq_getElem (show i < xs.toList.reverse.length by rw [List.length_reverse, Array.length_toList]; exact h)
    rw [List.getElem?_range h, Option.map_some, e2]
    rfl
  · rw [List.getElem?_eq_none (by rw [List.length_range]; omega), List.getElem?_eq_none (by rw [List.length_reverse, Array.length_toList]; omega)]
    rfl
theorem back_get {t c : Addr} {items : Array Value} {g1 g2 g3 : Value} {Q : Value → Shared → Prop} (ht : IsTup s.heap t items) (hs : s.heap.IsSliceOf c g1 g2 g3) (p1 : IsPart g1 none) (p2 : IsPart g2 none) (p3 : IsPart g3 (some (-1)))
    (h : Q (.ref s.heap.objs.size) { s with heap := s.heap.push { cls := .type "tuple", data := .seq items.toList.reverse.toArray } }) (hz : items.size ≤ sizeLine) : wpAny (model prog w) A (getItem (.ref t) (.ref c)) Q E s := by
  have fits : sizeOk (.seq items.toList.reverse.toArray) := by
    show items.toList.reverse.toArray.size ≤ sizeLine
    rw [List.size_toArray, List.length_reverse, Array.length_toList]
    exact hz
  obtain ⟨ob, ho, hk, _⟩ := id hs
  have hT : s.TypeIs (.ref c) "slice" := ⟨ob, ho, hk⟩
  unfold getItem
  try with_reducible refine wpAny_holding ?_
  first | refine wpAny_bind (wpAny_pure ?_) | skip
  refine wpAny_bind (wpAny_sequenceKey ht.typeIs (by decide) (wpAny_bind (wpAny_callSpecial?_slot (name := Str.ofString "__getitem__") ht.typeIs PyProof.Rows.slot_tuple_getitem (wpAny_call_entry PyProof.Rows.slot_tuple_getitem ht.typeIs entry_tuple_getitem ?_ (args_tuple_getitem _ _)))))
  show wpAny _ _ (Builtin.Tuple.tupleItemsOf (.ref t) >>= _) _ _ s
  refine wpAny_bind (tupleItemsOf_ ht (wpAny_bind (wpAny_typeOf hT ?_)))
  rw [if_pos (show ((Value.type "slice" == Value.type "slice") = true) by decide)]
  refine wpAny_bind (back_applied hs p1 p2 p3 ?_)
  have no : ¬ (((((items.size : Int) - 1) == 0 && (-1 : Int) == 1 && items.size == items.size)) = true) := fun z => by
    rw [Bool.and_eq_true, Bool.and_eq_true] at z
    exact absurd z.1.2 (by decide)
  show wpAny _ _ (if (((items.size : Int) - 1) == 0 && (-1 : Int) == 1 && items.size == items.size) = true then _ else _) _ _ s
  rw [if_neg no, back_pick]
  first
    | exact wpAny_bind (m := Builtin.Tuple.tupleExact _) (wpAny_newObj_type (wpAny_pure ⟨_, rfl, wpAny_pure h⟩) fits)
    | exact wpAny_bind (m := Builtin.Tuple.tupleExact _) (wpAny_newObj_type (wpAny_bind (wpAny_pure (wpAny_pure ⟨_, rfl, wpAny_pure h⟩))) fits)
    | exact wpAny_bind (wpAny_bind (m := Builtin.Tuple.tupleExact _) (wpAny_newObj_type (wpAny_pure (wpAny_pure ⟨_, rfl, wpAny_pure h⟩)) fits))
    | exact wpAny_bind (wpAny_bind (m := Builtin.Tuple.tupleExact _) (wpAny_newObj_type (wpAny_pure ⟨_, rfl, wpAny_pure h⟩) fits))
end
def tRevT (K : PySem.W.Frag) (te : TE) : TE := fun σ H Q => te σ H fun x H1 => ∃ a xs, x = .ref a ∧ SqT K H1 a xs ∧ ∀ p, H1 p = none → Q (.ref p) (upd H1 p (.tup xs.reverse))
theorem pe_revT {X : Cx} {e : Expr} {te : TE} {k : Nat} {p1 p2 p3 pos : Pos} (he : PE X e te) : PE X (.Subscript e (.Slice none none (some (.UnaryOp .USub (.Constant (.int 1) k p1) p2)) p3) pos) (tRevT X.K te) := by
  refine ⟨fun pins s σ H Q I h => Subscript_ (thn (he.run pins s σ H _ I h) fun v s1 ⟨x, H1, I1, r1, q1⟩ => ?_)⟩
  obtain ⟨a, xs, rfl, hx, q⟩ := q1
  cases r1
  have hm : PO X (some (.UnaryOp .USub (.Constant (.int 1) k p1) p2)) (tPart (tUn (rU fun i => .int (-i)) (tC (.int 1)))) := po_some (pe_un un_neg pe_int)
  refine wpAny_Slice (thn (po_none.run pins s1 σ H1 (fun o G => o = none ∧ G = H1) I1 ⟨rfl, rfl⟩) fun g1 s2 ⟨o1, G1, I2, i1, z1, z2⟩ => thn (po_none.run pins s2 σ G1 (fun o G => o = none ∧ G = G1) I2 ⟨rfl, rfl⟩) fun g2 s3 ⟨o2, G2, I3, i2, z3, z4⟩ => thn (hm.run pins s3 σ G2 (fun o G => o = some (-1) ∧ G = G2) I3 ⟨1, rfl, -1, rfl, rfl, rfl⟩) fun g3 s4 ⟨o3, G3, I4, i3, z5, z6⟩ => ?_)
  subst z1 z2 z3 z4 z5 z6
  have I5 : Inv X pins σ G3 { s4 with heap := s4.heap.push { cls := .type "slice", data := .fields #[g1, g2, g3] } } := I4.kept (t' := s4.toks) fun b ob e => Heap.get?_push_of_some _ e
  obtain ⟨its, rv, ht, hz⟩ := I5.tuple hx
  have hl := rv.length
  refine tail_any (ops := [.ref a, .ref s4.heap.objs.size]) ht.typeIs PyProof.Rows.slot_tuple_getitem.lookup ?_ (by with_unfolding_all rfl)
  refine back_get ht (Heap.IsSliceOf.new _ g1 g2 g3) i1 i2 i3 ?_ (by rw [List.size_toArray]; omega)
  exact ⟨.ref _, _, I5.laid (t' := s4.toks) (o := .tup xs.reverse) (fun b ob e => Heap.get?_push_of_some _ e) (Nat.le_refl _) ⟨by rw [List.length_reverse]; exact hz, _, rv.reverse, IsTup.new _ _⟩, rfl, q _ (I5.hok.fresh (Nat.le_refl _))⟩
/-! texts and numbers -/
theorem op_addS {X : Cx} : OpR X (binaryOp .Add) (fun x y H Q => ∃ a b, x = .str a ∧ y = .str b ∧ a.length + b.length ≤ sizeLine ∧ Q (.str (a ++ b)) H) := by
  intro pins s σ H x y v u Q I rx ry h
  obtain ⟨a, b, rfl, rfl, hz, q⟩ := h
  obtain ⟨t, rfl⟩ := rx
  obtain ⟨t', rfl⟩ := ry
  exact add_str (fun t' tk => ⟨.str _, H, I.tok _, ⟨_, rfl⟩, q⟩) hz
theorem op_mulS {X : Cx} : OpR X (binaryOp .Mult) (fun x y H Q => ∃ a i, x = .str a ∧ y = .int i ∧ (i = 0 ∨ i = 1) ∧ ∀ b, (b = Str.empty ∨ b = a) → Q (.str b) H) := by
  intro pins s σ H x y v u Q I rx ry h
  obtain ⟨a, i, rfl, rfl, h, q⟩ := h
  obtain ⟨t, rfl⟩ := rx
  obtain ⟨t', rfl⟩ := ry
  rcases h with rfl | rfl
  · exact PySem.P.mul_str_none (by decide) (by decide) ⟨.str _, H, I.tok _, ⟨_, rfl⟩, q _ (.inl rfl)⟩
  · refine PySem.P.mul_str (by decide) (fun _ h => ?_) (fun _ h => ?_) ?_
    · simp at h
    · simp at h
    · rw [if_neg (by decide), if_pos (by rfl)]
      exact ⟨.str _, H, I, ⟨_, rfl⟩, q _ (.inr rfl)⟩
def numV (v : V) (i : Int) : Prop := v = .int i ∨ ∃ b, v = .bl b ∧ i = if b = true then 1 else 0
theorem op_addN1 {X : Cx} : OpR X (binaryOp .Add) (fun x y H Q => ∃ i j, numV x i ∧ y = .int j ∧ Q (.int (i + j)) H) := by
  intro pins s σ H x y v u Q I rx ry h
  obtain ⟨i, j, hx, rfl, q⟩ := h
  obtain ⟨t', rfl⟩ := ry
  rcases hx with rfl | ⟨b, rfl, rfl⟩
  · obtain ⟨t, rfl⟩ := rx
    exact add_int ⟨.int _, H, I.tok _, ⟨_, rfl⟩, q⟩
  · cases rx
    exact PySem.IntBool.add_bool_int ⟨.int _, H, I.tok _, ⟨_, rfl⟩, q⟩
theorem op_subN1 {X : Cx} : OpR X (binaryOp .Sub) (fun x y H Q => ∃ i j, numV x i ∧ y = .int j ∧ Q (.int (i - j)) H) := by
  intro pins s σ H x y v u Q I rx ry h
  obtain ⟨i, j, hx, rfl, q⟩ := h
  obtain ⟨t', rfl⟩ := ry
  rcases hx with rfl | ⟨b, rfl, rfl⟩
  · obtain ⟨t, rfl⟩ := rx
    exact sub_int ⟨.int _, H, I.tok _, ⟨_, rfl⟩, q⟩
  · cases rx
    exact PySem.IntBool.sub_bool_int ⟨.int _, H, I.tok _, ⟨_, rfl⟩, q⟩
theorem op_subN2 {X : Cx} : OpR X (binaryOp .Sub) (fun x y H Q => ∃ i j, x = .int i ∧ numV y j ∧ Q (.int (i - j)) H) := by
  intro pins s σ H x y v u Q I rx ry h
  obtain ⟨i, j, rfl, hy, q⟩ := h
  obtain ⟨t, rfl⟩ := rx
  rcases hy with rfl | ⟨b, rfl, rfl⟩
  · obtain ⟨t', rfl⟩ := ry
    exact sub_int ⟨.int _, H, I.tok _, ⟨_, rfl⟩, q⟩
  · cases ry
    exact PySem.IntBool.sub_int_bool ⟨.int _, H, I.tok _, ⟨_, rfl⟩, q⟩
theorem call_strN {X : Cx} : CallR X (.type "str") (fun xs H Q => ∃ x i, xs = [x] ∧ numV x i ∧ i.natAbs.log2 < 1920 ∧ ∀ z : Str, (z = Str.ofString (toString i) ∨ z = "True" ∨ z = "False") → Q (.str z) H) := by
  intro pins s σ H xs us Q I r h
  obtain ⟨x, i, rfl, hx, hz, q⟩ := h
  rcases hx with rfl | ⟨b, rfl, _⟩
  · obtain ⟨u, rfl, t, rfl⟩ := vals1 r
    exact PySem.P.str_of_int hz ⟨.str _, H, I.tok _, ⟨_, rfl⟩, q _ (.inl rfl)⟩
  · obtain ⟨u, rfl, r1⟩ := vals1 r
    cases r1
    exact PySem.P.str_of_bool ⟨.str _, H, I.tok _, ⟨_, rfl⟩, q _ (by cases b <;> simp)⟩
theorem call_lenX {X : Cx} : CallR X (.builtin "len") (fun xs H Q => (∃ z, xs = [.str z] ∧ z.length ≤ sizeLine ∧ Q (.int z.length) H) ∨ ∃ p ys, xs = [.ref p] ∧ (SqL X.K H p ys ∨ SqT X.K H p ys) ∧ Q (.int ys.length) H) := by
  intro pins s σ H xs us Q I r h
  rcases h with h | h
  · exact call_len_str pins s σ H xs us Q I r h
  · exact call_len_seq pins s σ H xs us Q I r h
/-! texts and things that are small -/
theorem ok_iff {x : Str} : PyData.strOk x = true ↔ ∀ c, c ∈ x.cps.toList → c < 0x110000 := by
  unfold PyData.strOk
  rw [Array.all_eq_true_iff_forall_mem]
  exact ⟨fun h c hc => by simpa using h c (Array.mem_toList_iff.mp hc), fun h c hc => by simpa using h c (Array.mem_toList_iff.mpr hc)⟩
theorem ok_app {a b : Str} (h : PyData.strOk a = true) (g : PyData.strOk b = true) : PyData.strOk (a ++ b) = true := by
  refine ok_iff.mpr fun c hc => ?_
  have hc : c ∈ (a.cps ++ b.cps).toList := hc
  rw [Array.toList_append] at hc
  rcases List.mem_append.mp hc with hc | hc
  · exact ok_iff.mp h c hc
  · exact ok_iff.mp g c hc
theorem ok_cut {a : Str} (lo hi : Option Int) (h : PyData.strOk a = true) : PyData.strOk (cutS a lo hi) = true := by
  refine ok_iff.mpr fun c hc => ?_
  have hc : c ∈ ((a.cps.toList.drop (HT.sIx a.length 0 lo)).take (HT.sIx a.length a.length hi - HT.sIx a.length 0 lo)).toArray.toList := hc
  rw [List.toList_toArray] at hc
  exact ok_iff.mp h c (List.mem_of_mem_drop (List.mem_of_mem_take hc))
theorem ok_of (s : String) : PyData.strOk (Str.ofString s) = true := by
  refine ok_iff.mpr fun c hc => ?_
  rw [Str.ofString_eq_toList] at hc
  simp only [List.toList_toArray, List.mem_map] at hc
  obtain ⟨x, _, rfl⟩ := hc
  have := x.valid
  rcases this with h | ⟨_, h⟩
  · show x.val.toNat < _
    omega
  · exact h
theorem bd_int {k : Nat} {i : Int} (h : i.natAbs < 10 ^ k) : Bd k 0 (4 * k + 1) (.int i) := ⟨by simp only [gd]; exact decide_eq_true h, (shs_int h).dp, (shs_int h).wt⟩
theorem bd_str {k : Nat} {z : Str} (h : PyData.strOk z = true) : Bd k 0 z.length (.str z) := ⟨by simpa only [gd] using h, by simp only [PyData.depth]; decide, by simp only [PyData.weight]; exact Nat.le_refl _⟩
theorem bd_bl {k : Nat} {b : Bool} : Bd k 0 0 (.bool b) := ⟨rfl, by simp only [PyData.depth]; decide, by simp only [PyData.weight]; decide⟩
theorem bd_len {k n w : Nat} {z : Str} (h : Bd k n w (.str z)) : PyData.strOk z = true ∧ z.length ≤ w := ⟨by simpa only [gd] using h.g, by have := h.wt; simp only [PyData.weight] at this; exact this⟩
theorem pow_t {k : Nat} (h : 2 ≤ k) : 100 ≤ 10 ^ k ∧ 10 ^ (k + 1) = 10 * 10 ^ k := ⟨Nat.le_trans (by decide) (Nat.pow_le_pow_right (n := 10) (by decide) h), by rw [Nat.pow_succ]; omega⟩
/-- six numbers and texts near a number -/
theorem num_bd {k : Nat} {i : Int} {b0 : Bool} {z : Str} (hk : 2 ≤ k) (k20 : k ≤ 20) (hi : i.natAbs < 10 ^ k) (hz : z = Str.ofString (toString i) ∨ z = "True" ∨ z = "False") : ∀ d, d ∈ [PyData.int (i + 1), .int (i - 1), .bool b0, .int 6, .str z, .int (5 - i)] → Bd (k + 1) 0 100 d := by
  obtain ⟨t1, t2⟩ := pow_t hk
  have ok : PyData.strOk z = true ∧ z.length ≤ 100 := by
    rcases hz with rfl | rfl | rfl
    · refine ⟨ok_of _, ?_⟩
      rw [PySem.ofString_length]
      have := int_text_length_le10 (k := k) (by omega) hi
      omega
    · exact ⟨ok_of _, by decide +kernel⟩
    · exact ⟨ok_of _, by decide +kernel⟩
  intro d hd
  simp only [List.mem_cons, List.not_mem_nil, or_false] at hd
  rcases hd with rfl | rfl | rfl | rfl | rfl | rfl
  · exact (bd_int (by omega)).mono (Nat.le_refl _) (Nat.le_refl _) (by omega)
  · exact (bd_int (by omega)).mono (Nat.le_refl _) (Nat.le_refl _) (by omega)
  · exact bd_bl.mono (Nat.le_refl _) (Nat.le_refl _) (by omega)
  · exact (bd_int (by omega)).mono (Nat.le_refl _) (Nat.le_refl _) (by omega)
  · exact (bd_str ok.1).mono (Nat.le_refl _) (Nat.le_refl _) ok.2
  · exact (bd_int (by omega)).mono (Nat.le_refl _) (Nat.le_refl _) (by omega)
theorem ix_at {n j : Nat} (h : j < n) : ixN n (j : Int) = some j := by
  unfold ixN
  rw [if_pos (by omega), if_pos (by omega)]
  simp
theorem ix_prev {n j : Nat} (h : j < n) : ∃ m, ixN n ((j : Int) - 1) = some m ∧ m < n := by
  by_cases z : j = 0
  · subst z
    exact ⟨n - 1, by unfold ixN; rw [if_neg (by omega), if_pos (by omega)]; exact congrArg some (by omega), by omega⟩
  · exact ⟨j - 1, by rw [show (j : Int) - 1 = ((j - 1 : Nat) : Int) by omega]; exact ix_at (by omega), by omega⟩
theorem weiA_set : ∀ {ds : List PyData} {i : Nat} {d x : PyData}, ds[i]? = some d → PyData.weightAll (ds.set i x) + d.weight = PyData.weightAll ds + x.weight
  | y :: ds, 0, d, x, h => by
    cases h
    simp only [List.set_cons_zero, PyData.weightAll]
    omega
  | y :: ds, i + 1, d, x, h => by
    have := weiA_set (ds := ds) (i := i) (d := d) (x := x) (by simpa using h)
    simp only [List.set_cons_succ, PyData.weightAll]
    omega
theorem weiA_erase : ∀ (ds : List PyData) (i : Nat), PyData.weightAll (ds.eraseIdx i) ≤ PyData.weightAll ds
  | [], _ => by simp
  | y :: ds, 0 => by
    simp only [List.eraseIdx_cons_zero, PyData.weightAll]
    omega
  | y :: ds, i + 1 => by
    have := weiA_erase ds i
    simp only [List.eraseIdx_cons_succ, PyData.weightAll]
    omega
theorem BdA.of {k n w : Nat} {ds : List PyData} (h : ∀ d, d ∈ ds → gd k d = true ∧ d.depth ≤ n) (l : PyData.weightAll ds ≤ w) : BdA k n w ds := ⟨gdA_all.mpr fun d hd => (h d hd).1, depA_of ds fun d hd => (h d hd).2, l⟩
theorem BdA.each {k n w : Nat} {ds : List PyData} (h : BdA k n w ds) {d : PyData} (hd : d ∈ ds) : gd k d = true ∧ d.depth ≤ n := ⟨gdA_all.mp h.g d hd, depA_mem hd h.dp⟩
theorem BdA.erase {k n w : Nat} {ds : List PyData} (h : BdA k n w ds) (i : Nat) : BdA k n w (ds.eraseIdx i) := .of (fun _ hd => h.each (List.mem_of_mem_eraseIdx hd)) (Nat.le_trans (weiA_erase ds i) h.wt)
theorem BdA.set {k n w v : Nat} {ds : List PyData} (h : BdA k n w ds) {i : Nat} {d x : PyData} (hd : ds[i]? = some d) (g : gd k x = true) (p : x.depth ≤ n) (l : PyData.weightAll ds + x.weight ≤ v + d.weight) : BdA k n v (ds.set i x) := .of (fun y hy => by
  rcases List.mem_or_eq_of_mem_set hy with hy | rfl
  · exact h.each hy
  · exact ⟨g, p⟩) (by have := weiA_set (x := x) hd; omega)
theorem weiA_ins (ds : List PyData) (i : Nat) (x : PyData) : PyData.weightAll (ds.take i ++ [x] ++ ds.drop i) = PyData.weightAll ds + x.weight + 1 := by
  have := weiA_app (ds.take i) (ds.drop i)
  rw [List.take_append_drop] at this
  rw [weiA_app, weiA_app, this]
  simp only [PyData.weightAll]
  omega
theorem BdA.ins {k n w v : Nat} {ds : List PyData} (h : BdA k n w ds) (i : Nat) {x : PyData} (g : gd k x = true) (p : x.depth ≤ n) (l : w + x.weight + 1 ≤ v) : BdA k n v (ds.take i ++ [x] ++ ds.drop i) := .of (fun y hy => by
  rcases List.mem_append.mp hy with hy | hy
  · rcases List.mem_append.mp hy with hy | hy
    · exact h.each (List.mem_of_mem_take hy)
    · rw [List.mem_singleton.mp hy]
      exact ⟨g, p⟩
  · exact h.each (List.mem_of_mem_drop hy)) (by rw [weiA_ins]; have := h.wt; omega)
theorem TgA.set {p : Addr → Prop} {H : Hp} {x : V} {d : PyData} (hx : Tg p H x d) : ∀ {ds : List PyData} {vs : List V}, TgA p H vs ds → ∀ i : Nat, TgA p H (vs.set i x) (ds.set i d)
  | [], _, h, i => by cases h; exact .nil
  | e :: ds, _, h, i => by
    cases h with
    | cons a b =>
      cases i with
      | zero => exact .cons hx b
      | succ i => exact .cons a (TgA.set hx b i)
theorem TgA.erase {p : Addr → Prop} {H : Hp} : ∀ {ds : List PyData} {vs : List V}, TgA p H vs ds → ∀ i : Nat, TgA p H (vs.eraseIdx i) (ds.eraseIdx i)
  | [], _, h, i => by cases h; exact .nil
  | e :: ds, _, h, i => by
    cases h with
    | cons a b =>
      cases i with
      | zero => exact b
      | succ i => exact .cons a (TgA.erase b i)
theorem TgA.ins {p : Addr → Prop} {H : Hp} {ds : List PyData} {vs : List V} (h : TgA p H vs ds) {x : V} {d : PyData} (hx : Tg p H x d) (i : Nat) : TgA p H (vs.take i ++ [x] ++ vs.drop i) (ds.take i ++ [d] ++ ds.drop i) := ((h.split i).1.app (.cons hx .nil)).app (h.split i).2
theorem at_menuV {Pr : V → Prop} {xs : List V} {r : Int} (h0 : 0 ≤ r) (h1 : r < xs.length) (hx : ∀ x, x ∈ xs → Pr x) : ∃ v, atI xs r = some v ∧ Pr v := by
  obtain ⟨j, rfl⟩ := Int.eq_ofNat_of_zero_le h0
  have hj : j < xs.length := by omega
  exact ⟨xs[j], atI_nat (List.getElem?_eq_getElem hj), hx _ (List.getElem_mem hj)⟩
theorem len_wei : ∀ ds : List PyData, ds.length ≤ PyData.weightAll ds
  | [] => Nat.zero_le _
  | x :: ds => by
    have := len_wei ds
    simp only [List.length_cons, PyData.weightAll]
    omega
theorem Bx.upd {H : Hp} {p l : Addr} {n : Nat} {o : HO} (B : Bx H p n) (h : l ≠ p) : Bx (upd H l o) p n := by
  obtain ⟨a, b, c, e, r⟩ := B
  exact ⟨a, b, c, (upd_ne h.symm).trans e, r⟩
/-- lists that stand -/
def Sts (E : Addr → Prop) (H : Hp) : Prop := ∀ q, E q → H q ≠ none
theorem Sts.not {E : Addr → Prop} {H : Hp} {t : Addr} (h : Sts E H) (n : H t = none) : ¬ E t := fun e => h t e n
theorem Sts.same {E : Addr → Prop} {H H' : Hp} (h : Sts E H) (s : Same H H') : Sts E H' := fun q e n => by
  cases z : H q with
  | none => exact h q e z
  | some o =>
    rw [s _ _ z] at n
    cases n
theorem Bx.some {H : Hp} {p : Addr} {n : Nat} (B : Bx H p n) : H p ≠ none := by
  obtain ⟨a, b, c, h, _⟩ := B
  rw [h]
  exact fun z => by cases z
theorem Sts.but {E : Addr → Prop} {H H' : Hp} {p : Addr} {n : Nat} (h : Sts E H) (s : But p H H') (B : Bx H' p n) : Sts E H' := fun q e z => by
  by_cases qp : q = p
  · subst qp
    exact B.some z
  · cases y : H q with
    | none => exact h q e y
    | some o =>
      rw [s _ _ qp y] at z
      cases z
theorem Tg.bt {E : Addr → Prop} {H H' : Hp} {v : V} {d : PyData} {p : Addr} (h : Tg E H v d) (e : E p) (s : But p H H') : Tg E H' v d := h.keep fun a o n q => s a o (fun z => n (z ▸ e)) q
theorem TgA.bt {E : Addr → Prop} {H H' : Hp} {v : List V} {d : List PyData} {p : Addr} (h : TgA E H v d) (e : E p) (s : But p H H') : TgA E H' v d := h.keep fun a o n q => s a o (fun z => n (z ▸ e)) q
/-! slices of lists and tuples alike; numbers times things -/
def rSlU (K : PySem.W.Frag) : V → Option Int → Option Int → Hp → VK → Prop := fun x lo hi H Q => ∃ a xs, x = .ref a ∧ (H a = some (.lst xs) ∨ H a = some (.tup xs)) ∧ ∀ G c, Same H G → (SqL K G c (cutV xs lo hi) ∨ SqT K G c (cutV xs lo hi)) → Q (.ref c) G
theorem sl_any {X : Cx} : SlR X (rSlU X.K) := by
  intro pins s σ H x v vl vu lo hi sl Q I rx hs pl pu h
  obtain ⟨a, xs, rfl, ha, q⟩ := h
  rcases ha with ha | ha
  · exact sl_list pins s σ H _ v vl vu lo hi sl Q I rx hs pl pu ⟨a, xs, rfl, SqL.mk ha, fun p np => q _ p (same_upd np) (.inl (SqL.mk upd_same))⟩
  · exact sl_tupS pins s σ H _ v vl vu lo hi sl Q I rx hs pl pu ⟨a, xs, rfl, ha, fun G c sG hc => q G c sG (.inr (SqT.mk hc))⟩
theorem cut_mid (xs : List V) (j : Nat) (x : V) (h : xs[j]? = some x) : cutV xs (some (j : Nat)) (some ((j : Nat) + 1)) = [x] := by
  have jl := (List.getElem?_eq_some_iff.mp h).1
  unfold cutV
  rw [show ((j : Int) + 1) = ((j + 1 : Nat) : Int) by omega]
  have e1 : HT.sIx xs.length 0 (some ((j : Nat) : Int)) = j := by
    rw [HT.sIx_nat]
    omega
  have e2 : HT.sIx xs.length xs.length (some ((j + 1 : Nat) : Int)) = j + 1 := by
    rw [HT.sIx_nat]
    omega
  rw [e1, e2, show j + 1 - j = 1 by omega, List.drop_eq_getElem_cons jl]
  simp only [List.take_succ_cons, List.take_zero]
  rw [(List.getElem?_eq_some_iff.mp h).2]
theorem split_at {α : Type} (xs : List α) (j : Nat) (x : α) (h : xs[j]? = some x) : xs = xs.take j ++ [x] ++ xs.drop (j + 1) := by
  have jl := (List.getElem?_eq_some_iff.mp h).1
  have e := (List.getElem?_eq_some_iff.mp h).2
  have := List.take_append_drop j xs
  rw [List.drop_eq_getElem_cons jl, e] at this
  rw [List.append_assoc]
  exact this.symm
theorem op_mulN2 {X : Cx} : OpR X (binaryOp .Mult) (fun x y H Q => ∃ i j, x = .int i ∧ numV y j ∧ Builtin.Int.intBits i ≤ 64 ∧ Q (.int (i * j)) H) := by
  intro pins s σ H x y v u Q I rx ry h
  obtain ⟨i, j, rfl, hy, hb, q⟩ := h
  obtain ⟨t, rfl⟩ := rx
  rcases hy with rfl | ⟨b, rfl, rfl⟩
  · obtain ⟨t', rfl⟩ := ry
    exact mul_int ⟨.int _, H, I.tok _, ⟨_, rfl⟩, q⟩ (IntMulOk.of_left hb)
  · cases ry
    exact PySem.IntBool.mul_int_bool ⟨.int _, H, I.tok _, ⟨_, rfl⟩, q⟩
/-! k03: what a row is, and what is none -/
def isRowD (d : PyData) : Bool := match d with
  | .tuple ds => decide (1 ≤ ds.length ∧ ds.length ≤ 4096) && ds.all fun x => withinD x 0 1
  | _ => false
def sp_is_bit (K : PySem.W.Frag) : Sp := fun vs H Q _ => ∃ (p : Addr → Prop) (x : V) (d : PyData), vs = [x] ∧ Tg p H x d ∧ Q (.bl (withinD d 0 1)) H
theorem ok_is_bit (T : Defs K mg) (TT : Tabs T base) : FnOk P w K mg base CX0 3 T.f_is_bit T.fd_is_bit ["thing"] (sp_is_bit K) := by
  have G_is_within : FnOk P w K mg base CX0 2 T.f_is_within T.fd_is_within ["thing", "least", "greatest"] (sp_is_within K) := ok_is_within T TT
  refine T.F_is_bit.ok sc_is_bit (fun vs H Q E h => ?_) (fun cdv A outer s H vs Q E hr h => ?_)
  · obtain ⟨p, x, d, rfl, hx, q⟩ := h
    rfl
  · obtain ⟨p, x, d, rfl, hx, q⟩ := h
    refine ⟨_, PSs.nox (pss_one (ps_ret (pe_call G_is_within (hr.mono (by decide)) (by rfl) T.g_is_within T.F_is_within.kp T.b_is_within .nil pass0 (pa_cons (pv 0) (pa_cons pe_int (pa_cons pe_int pa_nil)))))), ?_⟩
    exact ⟨x, rfl, p, x, d, 0, 1, rfl, hx, q⟩
theorem all_take {α : Type} (f : α → Bool) (xs : List α) (i : Nat) (x : α) (h : xs[i]? = some x) (a : ∀ j y, j < i → xs[j]? = some y → f y = true) (b : f x = true) : ∀ j y, j < i + 1 → xs[j]? = some y → f y = true := fun j y hj e => by
  by_cases z : j < i
  · exact a j y z e
  · obtain rfl : j = i := by omega
    rw [h] at e
    cases e
    exact b
theorem all_of_get {α : Type} (f : α → Bool) (xs : List α) (h : ∀ j y, j < xs.length → xs[j]? = some y → f y = true) : xs.all f = true := List.all_eq_true.mpr fun x hx => by
  obtain ⟨i, e⟩ := List.getElem?_of_mem hx
  exact h i x (List.getElem?_eq_some_iff.mp e).1 e
theorem not_all {α : Type} (f : α → Bool) (xs : List α) {i : Nat} {x : α} (h : xs[i]? = some x) (b : f x = false) : xs.all f = false := by
  cases e : xs.all f
  · rfl
  · rw [List.all_eq_true.mp e x (List.mem_of_getElem? h)] at b
    cases b
def sp_is_row {K : PySem.W.Frag} {mg : Str → Option Value} (T : Defs K mg) : Sp := fun vs H Q _ => ∃ (p : Addr → Prop) (v : V) (d : PyData), vs = [v] ∧ Tg p H v d ∧ GxR.TabG H T.P_is_row ∧ ∀ H', Sam H H' → Q (.bl (isRowD d)) H'
theorem ok_is_row (T : Defs K mg) (TT : Tabs T base) : FnOk P w K mg base CX0 5 T.f_is_row T.fd_is_row ["thing"] (sp_is_row T) := by
  have G_is_bit : FnOk P w K mg base CX0 3 T.f_is_bit T.fd_is_bit ["thing"] (sp_is_bit K) := ok_is_bit T TT
  refine okC T.F_is_row T.k_is_row sc_is_row (fun vs H Q E h => ?_) (fun A outer s H vs Q E hr h => ?_)
  · obtain ⟨p, v, d, rfl, hv, tab, q⟩ := h
    rfl
  · obtain ⟨p, v, d, rfl, hv, tab, q⟩ := h
    refine ⟨_, PSs.nox (pss_cons (ps_if (PW.pt (pw_or (pt_not (pt_val (pe_callB call_isi (by rfl) T.m_isinstance bt_isinstance (pa_cons (pv 0) (pa_cons (pe_bltn (v := .ty "tuple") (by rfl) T.m_tuple bt_tuple rfl) pa_nil))))) (pw_or1 (pt_not (pt_chain op_le op_le pe_int (pe_callB call_len_seq (by rfl) T.m_len bt_len (pa_cons (pv 0) pa_nil)) (pe_globI (by rfl) T.i_LONGEST)))))) (pss_one (ps_ret pe_bl)) pss_nil)
    (pss_one (ps_ret (pe_allE (k := 3) (own := [("bit", 1)]) (g := gName 1) (tt := tYes) (hr.mono (by decide)) (by rfl) T.m_all bt_all rfl sc_is_row.nd TT.t_is_row rfl (genOk_by (N := N_is_row) (sc := defScope s_is_row) (own := [("bit", 1)]) (by decide +kernel) rfl (by decide +kernel) rfl) (pi_tup (pv 0)) (fun _ _ _ _ _ hr => (pg_name (i := 1) sc_is_row.nd rfl (.inl rfl))) (fun _ _ _ _ _ hr => pts_nil) (fun _ _ _ _ _ hr => (pe_call G_is_bit (hr.mono (by decide)) (by rfl) T.g_is_bit T.F_is_bit.kp T.b_is_bit .nil pass0 (pa_cons (pv 1) pa_nil))))))), ?_⟩
    have hsl : sizeLine = 16777216 := by decide
    obtain ⟨t, ty, -, -, kt, -, -⟩ := hv.ty (K := K)
    refine ⟨v, rfl, _, _, _, _, _, rfl, .ty "tuple", ty, kt, _, rfl, ?_⟩
    cases hv with
    | tup np ha hxs =>
      rename_i a xs ds
      have ln := hxs.len
      refine iteF ⟨.ref a, rfl, a, _, rfl, .inr (ha.sq), _, _, rfl, rfl, _, rfl, ?_⟩
      have no : ¬ (1 ≤ ds.length ∧ ds.length ≤ 4096) → isRowD (.tuple ds) = false := fun z => by
        show (decide (1 ≤ ds.length ∧ ds.length ≤ 4096) && _) = false
        rw [decide_eq_false z]
        rfl
      by_cases c1 : (1 : Int) ≤ (xs.length : Nat)
      · rw [decide_eq_true c1]
        refine iteT ⟨_, _, rfl, rfl, _, rfl, ?_⟩
        by_cases c2 : ((xs.length : Nat) : Int) ≤ 4096
        · rw [decide_eq_true c2]
          refine iteF ?_
          refine ⟨.ref a, rfl, a, rfl, ⟨_, ha.sq⟩, tab, fun H2 tb => ?_⟩
          have s2 := Sam.tabbed tab tb
          refine ga_it (walk_tup (xs := xs)) (fun i H3 => Sam H H3 ∧ ∀ j y, j < i → ds[j]? = some y → withinD y 0 1 = true) ⟨s2, fun j y hj => absurd hj (Nat.not_lt_zero j)⟩ (fun i H3 _ h => (h.1.tupO ha).sq) ?_ ?_
          · rintro i x H3 H4 hi ⟨s3, hb⟩ ⟨rfl, hx⟩
            obtain ⟨e, he, tx⟩ := hxs.get hx
            refine ⟨rfl, yes_ite ?_⟩
            refine ⟨x, rfl, p, x, e, rfl, tx.sam s3, ⟨withinD e 0 1, rfl, fun z => ?_⟩, fun z => ⟨s3, all_take _ ds i e he hb (by injection z)⟩⟩
            have r : isRowD (.tuple ds) = false := by
              show (_ && ds.all fun x => withinD x 0 1) = false
              rw [not_all _ ds he z, Bool.and_false]
            rw [r] at q
            exact q _ s3
          · rintro H3 ⟨s3, hb⟩
            have r : isRowD (.tuple ds) = true := by
              show (decide (1 ≤ ds.length ∧ ds.length ≤ 4096) && ds.all fun x => withinD x 0 1) = true
              rw [decide_eq_true (by omega), all_of_get _ ds fun j y hj e => hb j y (by omega) e]
              rfl
            rw [r] at q
            exact q _ s3
        · rw [decide_eq_false c2]
          rw [no (by omega)] at q
          exact iteT (q _ (Sam.refl _))
      · rw [decide_eq_false c1]
        rw [no (by omega)] at q
        exact iteF ⟨_, rfl, iteT (q _ (Sam.refl _))⟩
    | _ => exact iteT (iteT (q _ (Sam.refl _)))
def dot (rs ss : List Int) : Int := (List.zipWith (fun x y => x * y) rs ss).sum
def allRows : Nat → List (List Int)
  | 0 => [[]]
  | k + 1 => (allRows k).map (· ++ [0]) ++ (allRows k).map (· ++ [1])
theorem all_sound : ∀ (k : Nat) (r : List Int), r ∈ allRows k → r.length = k ∧ Bits r
  | 0, r, h => by
    rw [show r = [] from List.mem_singleton.mp h]
    exact ⟨rfl, fun x hx => by cases hx⟩
  | k + 1, r, h => by
    have aux : ∀ (b : Int), (b = 0 ∨ b = 1) → r ∈ (allRows k).map (· ++ [b]) → r.length = k + 1 ∧ Bits r := fun b hb hm => by
      obtain ⟨q, hq, rfl⟩ := List.mem_map.mp hm
      obtain ⟨h1, h2⟩ := all_sound k q hq
      refine ⟨by rw [List.length_append, h1]; rfl, fun x hx => ?_⟩
      rcases List.mem_append.mp hx with hx | hx
      · exact h2 x hx
      · rw [List.mem_singleton.mp hx]
        exact hb
    rcases List.mem_append.mp h with h | h
    · exact aux 0 (.inl rfl) h
    · exact aux 1 (.inr rfl) h
theorem all_full : ∀ (k : Nat) (r : List Int), r.length = k → Bits r → r ∈ allRows k
  | 0, r, h, _ => by
    rw [List.eq_nil_of_length_eq_zero h]
    exact List.mem_singleton.mpr rfl
  | k + 1, r, h, hb => by
    have hne : r ≠ [] := fun z => by
      rw [z] at h
      cases h
    have e := List.dropLast_concat_getLast hne
    have m1 : r.dropLast ∈ allRows k := all_full k _ (by rw [List.length_dropLast, h]; rfl) fun x hx => hb x (List.dropLast_subset r hx)
    rcases hb _ (List.getLast_mem hne) with z | z
    · rw [z] at e
      exact List.mem_append.mpr (.inl (List.mem_map.mpr ⟨_, m1, e⟩))
    · rw [z] at e
      exact List.mem_append.mpr (.inr (List.mem_map.mpr ⟨_, m1, e⟩))
theorem all_len : ∀ k, (allRows k).length = 2 ^ k
  | 0 => rfl
  | k + 1 => by
    show ((allRows k).map (· ++ [0]) ++ (allRows k).map (· ++ [1])).length = _
    rw [List.length_append, List.length_map, List.length_map, all_len k, Nat.pow_succ]
    omega
theorem bits_sum : ∀ (r : List Int), Bits r → 0 ≤ r.sum ∧ r.sum ≤ r.length
  | [], _ => ⟨Int.le_refl 0, Int.le_refl 0⟩
  | x :: r, h => by
    have ih := bits_sum r fun y hy => h y (List.mem_cons_of_mem _ hy)
    have hx := h x List.mem_cons_self
    rw [List.sum_cons, List.length_cons]
    omega
theorem sum_rep (k : Nat) (x : Int) : (List.replicate k x).sum = k * x := by
  induction k with
  | zero => simp
  | succ k ih =>
    rw [List.replicate_succ, List.sum_cons, ih, Int.natCast_add, Int.add_mul]
    omega
theorem sum_split (r : List Int) (a : Nat) : r.sum = (r.take a).sum + (r.drop a).sum := by
  conv => lhs; rw [← List.take_append_drop a r, List.sum_append]
theorem dot_zero (k : Nat) : ∀ r : List Int, dot (List.replicate k 0) r = 0 := by
  unfold dot
  induction k with
  | zero => intro r; simp
  | succ k ih =>
    intro r
    cases r with
    | nil => simp
    | cons x r =>
      rw [List.replicate_succ, List.zipWith_cons_cons, List.sum_cons, ih]
      omega
theorem dot_one : ∀ (a k : Nat) (r : List Int), r.length = a + k → dot (List.replicate a 1 ++ List.replicate k 0) r = (r.take a).sum
  | 0, k, r, _ => by
    rw [List.replicate_zero, List.nil_append, dot_zero]
    rfl
  | a + 1, k, [], h => by
    simp at h
    omega
  | a + 1, k, x :: r, h => by
    have ih := dot_one a k r (by rw [List.length_cons] at h; omega)
    unfold dot at *
    rw [List.replicate_succ, List.cons_append, List.zipWith_cons_cons, List.sum_cons, ih, List.take_succ_cons, List.sum_cons]
    omega
def nearR (n b : Nat) : List Int := List.replicate b 1 ++ List.replicate (n - b) 0
def farR (n b : Nat) : List Int := List.replicate (n - b) 0 ++ List.replicate b 1
theorem near_bits (n b : Nat) : Bits (nearR n b) := fun x hx => by
  rcases List.mem_append.mp hx with h | h
  · exact .inr (List.eq_of_mem_replicate h)
  · exact .inl (List.eq_of_mem_replicate h)
theorem far_bits (n b : Nat) : Bits (farR n b) := fun x hx => by
  rcases List.mem_append.mp hx with h | h
  · exact .inl (List.eq_of_mem_replicate h)
  · exact .inr (List.eq_of_mem_replicate h)
theorem near_len {n b : Nat} (h : b ≤ n) : (nearR n b).length = n := by
  unfold nearR
  rw [List.length_append, List.length_replicate, List.length_replicate]
  omega
theorem far_len {n b : Nat} (h : b ≤ n) : (farR n b).length = n := by
  unfold farR
  rw [List.length_append, List.length_replicate, List.length_replicate]
  omega
theorem near_sum (n b : Nat) : (nearR n b).sum = b := by
  unfold nearR
  rw [List.sum_append, sum_rep, sum_rep]
  omega
theorem far_sum (n b : Nat) : (farR n b).sum = b := by
  unfold farR
  rw [List.sum_append, sum_rep, sum_rep]
  omega
theorem near_take (n a b : Nat) : ((nearR n b).take a).sum = (min a b : Nat) := by
  unfold nearR
  rw [List.take_append, List.sum_append, List.take_replicate, List.take_replicate, sum_rep, sum_rep]
  omega
theorem far_take {n a b : Nat} (hb : b ≤ n) (ha : a ≤ n) : ((farR n b).take a).sum = (a + b - n : Nat) := by
  unfold farR
  rw [List.take_append, List.sum_append, List.take_replicate, List.take_replicate, sum_rep, sum_rep, List.length_replicate]
  omega
/-- how far the first a bits of a row may go -/
theorem take_ends {n a b : Nat} {r : List Int} (hl : r.length = n) (hb : Bits r) (hs : r.sum = b) (ha : a ≤ n) : (a + b - n : Nat) ≤ (r.take a).sum ∧ (r.take a).sum ≤ (min a b : Nat) := by
  have e := sum_split r a
  have h1 := bits_sum (r.take a) fun x hx => hb x (List.mem_of_mem_take hx)
  have h2 := bits_sum (r.drop a) fun x hx => hb x (List.mem_of_mem_drop hx)
  rw [List.length_take] at h1
  rw [List.length_drop] at h2
  omega
/-! an error that is caught, and kept beyond the suite -/
def ExK (cls : Value) (d : Option Addr) (a : Addr) : HO := .ext fun h => ∃ (oe : Obj) (vs : Array Value), h.get? a = some oe ∧ Zc cls d oe ∧ oe.data = .fields vs
theorem exK_in {P : Program} {w : World} {G : Hp} {h : Heap} {a : Addr} {cls : Value} {d : Option Addr} {oe : Obj} {vs : Array Value} (e : h.get? a = some oe) (z : Zc cls d oe) (f : oe.data = .fields vs) : ObjOk P w G h a (ExK cls d a) :=
  ⟨⟨oe, vs, e, z, f⟩, ⟨oe, e⟩, fun _ _ hh k => by
    obtain ⟨o, v, q, r⟩ := hh
    exact ⟨o, v, k o q, r⟩⟩
section
variable {X : Cx} {pins : List (Addr × Obj)} {σ : L2.St} {H : Hp} {s : Shared} {a : Addr} {oe : Obj} {vs : Array Value} {cls : Value} {d : Option Addr}
theorem keep_track (I : Inv (X.suite a ((a, oe) :: (X.pn ++ pins))) [] σ H s) (ok : X.Ok) (new : X.s_0.heap.get? a = none) (other : ∀ p, p ∈ X.pn ++ pins → p.1 ≠ a) (hz : Zc cls d oe) (hd : oe.data = .fields vs) :
    Inv X pins σ (upd H a (ExK cls d a)) s := by
  obtain ⟨hget, hnone, nloc, nfs, ncell⟩ := I.pin (a, oe) (List.mem_append_left _ List.mem_cons_self)
  have hne : ∀ {b : Addr} {o : HO}, H b = some o → b ≠ a := fun e => ne_of_none e hnone
  have up : ∀ {b : Addr} {o : HO}, H b = some o → (upd H a (ExK cls d a)) b = some o := fun e => by
    rw [upd_ne (hne e)]
    exact e
  refine ⟨ok, I.os, I.bare, ⟨I.base.keep, I.base.slot, fun b o e n x => ?_, I.base.there, fun b xs e => up (I.base.tups b xs e), fun b o u e => up (I.base.frzs b o u e), fun b ps e => ?_⟩, I.loc, I.cell, ?_, fun x c e => ?_, fun p hp => ?_, fun b u e => ?_, I.len⟩
  · have hb : b ≠ a := fun z => by
      rw [z, new] at e
      cases e
    rw [upd_ne hb]
    exact I.base.free b o e n x
  · obtain ⟨more, q⟩ := I.base.tbls b ps e
    exact ⟨more, up q⟩
  · rw [upd_ne (Ne.symm nloc)]
    exact I.free
  · have hc : c ≠ a := fun z => by
      obtain ⟨v, o, q, r⟩ := I.cell x c e
      rw [z, hget] at q
      cases q
      first
        | exact ncell _ r
        | exact ncell _ r.1
        | exact ncell _ r.2
    rw [upd_ne hc]
    exact I.freeC x c e
  · obtain ⟨q1, q2, q3, q4, q5⟩ := I.pin p (List.mem_append_left _ (List.mem_cons_of_mem _ hp))
    exact ⟨q1, by rw [upd_ne (other p hp)]; exact q2, q3, q4, q5⟩
  · by_cases hb : b = a
    · subst hb
      rw [upd_same] at e
      cases e
      exact exK_in hget hz hd
    · rw [upd_ne hb] at e
      exact (I.hok b u e).stay (fun _ _ _ q => q) (fun _ q => up q) fun _ _ q => up q
end
def wHeld (K : PySem.W.Frag) (c : Value) (i : Nat) (ts : Addr → Value → Option Addr → TS) (Wout : WX) (D : Ends) : WX := fun cls d σ H =>
  ∃ b, PySem.W.exmOne K cls c = some b ∧ (b = false → Wout cls d σ H) ∧
    (b = true → ∀ a, H a = none → ts a cls d { nx := fun σ' G => D.nx (σ'.set i none) (upd G a (ExK cls d a)), rt := fun _ _ => False, bk := fun _ _ => False, ct := fun _ _ => False } (σ.set i (some (.ref a))) H)
theorem ps_try_held {X : Cx} {x n : Str} {c : Value} {i : Nat} {body suite : List Stmt} {b₀ : Stmt} {np pos pos' : Pos} {tb : WX → TS} {ts : Addr → Value → Option Addr → TS} {Wout : WX} (hex : X.ex = []) (hs : X.stack = X.env :: X.outer) (hf : X.env.frame = some X.env.locals) (hN : X.N.Nodup) (hi : X.N[i]? = some n) (hln : X.env.kindOf n = some .local)
    (hc : Names X x c) (tk : Takes X Wout) (hb : ∀ (W : WX) (pn : List (Addr × Obj)) (xe : Value → Shared → Prop), Takes (X.tr pn xe) W → PassesOwn (model X.prog X.w) X.A X.env xe → PSs (X.tr pn xe) body (tb W))
    (hsu : ∀ (a : Addr) (oe : Obj) (cls : Value) (d : Option Addr) (pn : List (Addr × Obj)), Zc cls d oe → (∃ vs, oe.data = .fields vs) → PSs (X.suite a ((a, oe) :: pn)) (b₀ :: suite) (ts a cls d)) :
    PS X (.Try body [.ExceptHandler (some (.Name x np)) (some n) (b₀ :: suite) pos'] [] [] pos) (fun D σ H => tb (wHeld X.K c i ts Wout D) D σ H) := by
  refine ⟨fun pins s σ H D I h => ?_⟩
  have ok := I.ok
  have hA : X.A.frames = some (X.env :: X.outer) := by
    rw [ok.frames, hs]
  let catcher : Value → Shared → Prop := fun u s₁ => wpAny (model X.prog X.w) X.A (noteFrame u X.env) (fun _ s₂ => wpAny (model X.prog X.w) X.A (setFlight u none)
    (fun _ s₃ => wpAny (model X.prog X.w) X.A (handleBy u X.env [.ExceptHandler (some (.Name x np)) (some n) (b₀ :: suite) pos']) (SP X pins D) X.xe s₃) X.xe s₂) X.xe s₁
  have main := (hb (wHeld X.K c i ts Wout D) (X.pn ++ pins) catcher ?_ PassesOwn.looking).run [] s σ H D (I.toTry _) h
  · refine wpAny_Try_except (wpAny_mono main (fun fl s1 r => ?_) fun _ _ z => z)
    cases fl with
    | next =>
      obtain ⟨σ', G, J, q⟩ := r
      exact wpAny_execs_nil ⟨σ', G, J.ofTry ok, q⟩
    | brk =>
      obtain ⟨σ', G, J, q⟩ := r
      exact ⟨σ', G, J.ofTry ok, q⟩
    | cont =>
      obtain ⟨σ', G, J, q⟩ := r
      exact ⟨σ', G, J.ofTry ok, q⟩
    | ret u =>
      obtain ⟨v, σ', G, J, q⟩ := r
      exact ⟨v, σ', G, J.ofTry ok, q⟩
  intro u s' air
  obtain ⟨a, B, sI, ps, σ', G, cls, d, rfl, J', nb, up, sky, na, os, ag, b, eb, no, yes⟩ := air
  have J : Inv X pins σ' G sI := J'.ofTry ok
  rw [show (X.tr (X.pn ++ pins) catcher).stack = X.env :: X.outer from hs] at sky nb
  have nB : B.get? a = none := by
    rcases sky with k | k | k
    · exact k.2.1
    · exact k.2.1
    · exact k.2.1
  show wpAny (model X.prog X.w) X.A (noteFrame (.ref a) X.env) _ _ _
  refine Sky.land Zc.steady hA hf sky fun h3 f3 u3 => ?_
  have nb' : ∀ b o, sI.heap.get? b = some o → b ∉ frs X.stack → B.get? b = some o := by
    rw [hs]
    exact nb
  have J3 : Inv X pins σ' G { s' with heap := h3 } := J.landed nb' f3.1 (up.trans u3) os ag
  obtain ⟨o3, v3, g3, z3, d3⟩ := f3.there
  have nfr : a ∉ frs (X.env :: X.outer) := fun hm => by
    obtain ⟨_, o', e', nf⟩ := f3.2.2.1.mem hm
    rw [g3] at e'
    cases e'
    exact nf _ d3
  have nL : a ≠ X.env.locals := fun z => nfr (List.mem_filterMap.mpr ⟨_, List.mem_cons_self, by rw [hf, z]⟩)
  have nF : a ∉ X.fs := fun hm => by
    obtain ⟨v, hv, q⟩ := List.mem_filterMap.mp hm
    exact nfr (List.mem_filterMap.mpr ⟨v, List.mem_cons_of_mem _ hv, q⟩)
  have nI : sI.heap.get? a = none := by
    cases q : sI.heap.get? a with
    | none => rfl
    | some o =>
      have := nb a o q nfr
      rw [nB] at this
      cases this
  have n0 : X.s_0.heap.get? a = none := by
    cases q : X.s_0.heap.get? a with
    | none => rfl
    | some o =>
      obtain ⟨o', e'⟩ := J.base.there a o q (by rw [hex]; exact List.not_mem_nil)
      rw [nI] at e'
      cases e'
  have nP : ∀ p, p ∈ X.pn ++ pins → p.1 ≠ a := fun p hp z => by
    have e := (J.pin p hp).1
    rw [z, nI] at e
    cases e
  have S3 := J3.suite g3 d3 na nL nF
  refine wpAny_handleBy_cons (codeAny_handlers_test ?_) (fun q => by cases q)
  have look : PySem.W.Looks (model X.prog X.w) h3 (typeOf (.ref a)) cls := fun A' Q' E' t k q => wpAny_typeOf_ref (k _ _ g3) (by rw [z3.1]; exact q)
  have fits := PySem.W.exm_one (M := model X.prog X.w) J3.kIn look eb
  have asked : ∀ {Q' : Value → Shared → Prop} {E' : Value → Shared → Prop}, Q' c { s' with heap := h3 } → wpAny (model X.prog X.w) (X.A.mark (some (.ref a))) (eval (.Name x np) X.env) Q' E' { s' with heap := h3 } := fun q => by
    obtain ⟨g, dbg, m | ⟨m, v, nn⟩⟩ := hc
    · exact ld_glob (X := X.suite a ((a, o3) :: (X.pn ++ pins))) S3 g m q dbg
    · exact ld_blt (X := X.suite a ((a, o3) :: (X.pn ++ pins))) S3 g m v q nn dbg
  refine asked (fits.here ?_)
  cases b with
  | true =>
    refine codeAny_handlers_suite_as (HandSPX.lands_againZ f3 fun h4 f4 u4 => ?_)
    have J4 : Inv X pins σ' G { s' with heap := h4 } := J.landed nb' f4.1 ((up.trans u3).trans u4) os ag
    obtain ⟨o4, v4, g4, z4, d4⟩ := f4.there
    refine store_ok (X := X.suite a ((a, o4) :: (X.pn ++ pins))) (v := .ref a) (J4.suite g4 d4 na nL nF) hN hi (.inl hln) rfl (fun s5 S5 => ?_) (.inr hln)
    refine wpAny_mono ((hsu a o4 cls d (X.pn ++ pins) z4 ⟨_, d4⟩).run [] s5 _ G _ S5 (yes rfl a na)) (fun fl s6 r => ?_) fun _ _ z => z.elim
    cases fl with
    | next =>
      obtain ⟨σ6, G6, S6, q6⟩ := r
      exact gone_ok (keep_track S6 ok n0 nP z4 d4) hN hi hln fun s7 J7 => ⟨_, _, J7, q6⟩
    | brk =>
      obtain ⟨_, _, _, q6⟩ := r
      exact q6.elim
    | cont =>
      obtain ⟨_, _, _, q6⟩ := r
      exact q6.elim
    | ret u =>
      obtain ⟨_, _, _, _, _, q6⟩ := r
      exact q6.elim
  | false =>
    show wpAny _ X.A (handleBy (.ref a) X.env []) _ _ _
    refine wpAny_handleBy_nil ?_
    have f3' := f3
    obtain ⟨_, _, _, oe, ws, T, _, _, ge, _, de, te, _⟩ := f3'
    unfold PySem.passOn
    refine wpAny_bind (wpAny_field ge de te ?_)
    rw [if_neg (by simp)]
    have out : wpAny (model X.prog X.w) X.A (setFlight (.ref a) X.env.frame) (fun _ s4 => wpAny (model X.prog X.w) X.A (throw (.ref a) : Sem Flow) (SP X pins D) X.xe s4) X.xe { s' with heap := h3 } := by
      rw [hf]
      refine HandSPX.setFlight_upZ f3 fun h4 hold u4 => wpAny_throw (tk _ _ ?_)
      refine ⟨a, B, sI, pins, σ', G, cls, d, rfl, J, nb', (up.trans u3).trans u4, .inr (.inr ?_), na, os, ag, no rfl⟩
      rw [hs]
      exact hold
    first
      | exact wpAny_bind (wpAny_pure (wpAny_bind out))
      | exact wpAny_bind out
/-! isinstance of a kept error -/
theorem kit_kept {X : Cx} {pins : List (Addr × Obj)} {σ : L2.St} {H : Hp} {s : Shared} {a D : Addr} (I : Inv X pins σ H s) (C : ExcC X.K D) (e : H a = some (ExK (.ref D) none a)) : ∃ P : Heap → Prop, PySem.W.KitX X.K (.ref a) (.ref D) P ∧ P s.heap := by
  obtain ⟨⟨oe, vs, hg, hz, hd⟩, _, _⟩ := (show ObjOk X.prog X.w H s.heap a (ExK (.ref D) none a) from I.hok a _ e)
  have J : PySem.W.InstAt s.heap a oe D none := by
    obtain ⟨c1, c2, c3, c4⟩ := oe
    obtain ⟨z1, z2⟩ := hz
    dsimp only at z1 z2 hd
    subst z1 z2 hd
    exact ⟨hg, rfl, rfl, trivial⟩
  exact ⟨_, PySem.W.handS_kitx_exc C.hg C.hk C.hs C.hd C.ha C.hn C.ht C.hm, J⟩
def rIsK (K : PySem.W.Frag) : List V → Hp → VK → Prop := fun xs H Q => ∃ (a D : Addr) (c : V) (u : Value) (b : Bool), xs = [.ref a, c] ∧ H a = some (ExK (.ref D) none a) ∧ ExcC K D ∧ ClsV c u ∧ PySem.W.kitOne K (.ref D) u = some b ∧ Q (.bl b) H
theorem call_isK {X : Cx} : CallR X (.builtin "isinstance") (rIsK X.K) := by
  intro pins s σ H xs us Q I r h
  obtain ⟨a, D, c, u, b, rfl, ha, C, k, e, q⟩ := h
  obtain ⟨u1, u2, rfl, r1, r2⟩ := vals2 r
  cases (show u1 = Value.ref a from r1)
  cases k.eq r2
  obtain ⟨P, Z, p⟩ := kit_kept I C ha
  exact PySem.W.kia_one Z I.kIn p e (fun z => nomatch z) fun tk => ⟨.bl b, H, I.tok tk, rfl, q⟩
def rIsKT (K : PySem.W.Frag) : List V → Hp → VK → Prop := fun xs H Q => ∃ (a D tp : Addr) (cs : List V) (us : List Value) (b : Bool), xs = [.ref a, .ref tp] ∧ H a = some (ExK (.ref D) none a) ∧ ExcC K D ∧ H tp = some (.tup cs) ∧ Paired ClsV cs us ∧ PySem.W.kitAny K (.ref D) us = some b ∧ Q (.bl b) H
theorem call_isKT {X : Cx} : CallR X (.builtin "isinstance") (rIsKT X.K) := by
  intro pins s σ H xs us Q I r h
  obtain ⟨a, D, tp, cs, ws, b, rfl, ha, C, hT, k, e, q⟩ := h
  obtain ⟨u1, u2, rfl, r1, r2⟩ := vals2 r
  cases (show u1 = Value.ref a from r1)
  cases (show u2 = Value.ref tp from r2)
  obtain ⟨P, Z, p⟩ := kit_kept I C ha
  obtain ⟨_, its, rv, o, h1, h2, n, h3⟩ := (show ObjOk X.prog X.w H s.heap tp (.tup cs) from I.hok tp _ hT)
  cases ClsV.all k rv
  obtain ⟨oc, od, dt, sl⟩ := o
  simp only at h2 h3
  subst h2 h3
  exact PySem.W.kia_tup Z I.kIn p h1 e (fun z => nomatch z) fun tk => ⟨.bl b, H, I.tok tk, rfl, q⟩
theorem listK {X : Cx} {K : PySem.W.Frag} {tg e : Expr} {t : TE} (h : X.K = K) (he : PE X e t) : PI X tg e (iList K t) := by
  subst h
  exact pi_list he
theorem inK {X : Cx} {K : PySem.W.Frag} (h : X.K = K) : OpR X (compareOp .In) (rIn K false) := by
  subst h
  exact op_in_seq
/-! the program -/
theorem cnt_same {ls : List Int} {c : Int} (h : ∀ x, x ∈ ls → x = c) (hne : ls ≠ []) : cnt ls = 1 := by
  have aux : ∀ (rs : List Int), (∀ x, x ∈ rs → x = c) → rs ≠ [] → cnt rs.reverse = 1 := by
    intro rs
    induction rs with
    | nil => intro _ z; exact absurd rfl z
    | cons x r ih =>
      intro hr _
      rw [List.reverse_cons, cnt_snoc]
      by_cases z : r = []
      · subst z
        rfl
      · have hx : x = c := hr x List.mem_cons_self
        have h1 : ∀ y, y ∈ r → y = c := fun y hy => hr y (List.mem_cons_of_mem _ hy)
        obtain ⟨y, t, e⟩ : ∃ y t, r = y :: t := by
          cases r with
          | nil => exact absurd rfl z
          | cons y t => exact ⟨y, t, rfl⟩
        have hm : x ∈ r.reverse := by
          rw [List.mem_reverse, e, hx, ← h1 y (by rw [e]; exact List.mem_cons_self)]
          exact List.mem_cons_self
        rw [if_pos hm]
        exact ih h1 z
  have := aux ls.reverse (fun x hx => h x (List.mem_reverse.mp hx)) (fun z => hne (List.reverse_eq_nil_iff.mp z))
  rw [List.reverse_reverse] at this
  exact this
def sp_refuse_unlike (_ : PySem.W.Frag) : Sp := fun vs H Q _ => ∃ (l : Addr) (as : List (Addr × List V)) (n : Nat), vs = [.ref l] ∧ H l = some (.lst (as.map fun q => V.ref q.1)) ∧ as.length ≤ 8 ∧ as ≠ [] ∧ (∀ q ∈ as, TupO H q.1 q.2) ∧ (∀ q ∈ as, q.2.length = n) ∧ Q .non H
theorem ok_refuse_unlike (T : Defs K mg) (TT : Tabs T base) : FnOk P w K mg base CX0 1 T.f_refuse_unlike T.fd_refuse_unlike ["rows"] (sp_refuse_unlike K) := by
  refine T.F_refuse_unlike.ok sc_refuse_unlike (fun vs H Q E h => ?_) (fun cdv A outer s H vs Q E hr h => ?_)
  · obtain ⟨l, as, n, rfl, hl, hn, hne, hts, heq, q⟩ := h
    rfl
  · obtain ⟨l, as, n, rfl, hl, hn, hne, hts, heq, q⟩ := h
    refine ⟨_, PSs.nox (pss_one (ps_if (pt_cmpR op_gt (pe_lenSC (i := 0) (by rfl) T.m_len rfl rfl (.inl rfl) rfl (by decide +kernel) (by decide +kernel) (by decide +kernel) rfl rfl) pe_int (nomark _)) (pss_one ps_never) pss_nil)), ?_⟩
    refine ⟨l, as, rfl, hl, hn, hts, _, _, rfl, rfl, _, rfl, ?_⟩
    rw [cnt_same (c := (n : Int)) (fun x hx => by
      obtain ⟨p, hp, rfl⟩ := List.mem_map.mp hx
      rw [heq p hp]) (fun z => hne (List.map_eq_nil_iff.mp z))]
    exact iteF q
def sp_ones (_ : PySem.W.Frag) : Sp := fun vs H Q _ => ∃ (a : Addr) (rs : List Int), vs = [.ref a] ∧ TupO H a (rs.map V.int) ∧ Q (.int rs.sum) H
theorem ok_ones (T : Defs K mg) (TT : Tabs T base) : FnOk P w K mg base CX0 1 T.f_ones T.fd_ones ["row"] (sp_ones K) := by
  refine T.F_ones.ok sc_ones (fun vs H Q E h => ?_) (fun cdv A outer s H vs Q E hr h => ?_)
  · obtain ⟨a, rs, rfl, ha, q⟩ := h
    rfl
  · obtain ⟨a, rs, rfl, ha, q⟩ := h
    refine ⟨_, PSs.nox (pss_one (ps_ret (pe_callB (cr_sumT rfl) (by rfl) T.m_sum bt_sum (pa_cons (pv 0) pa_nil)))), ?_⟩
    exact ⟨.ref a, rfl, a, rs, rfl, ha.sq, q⟩
theorem and_bits {x y : Int} (hx : x = 0 ∨ x = 1) (hy : y = 0 ∨ y = 1) : Builtin.bitAnd x y = x * y := by
  rcases hx with rfl | rfl <;> rcases hy with rfl | rfl <;> decide
def sp_both {K : PySem.W.Frag} {mg : Str → Option Value} (T : Defs K mg) : Sp := fun vs H Q _ => ∃ (a b : Addr) (rs ss : List Int), vs = [.ref a, .ref b] ∧ TupO H a (rs.map V.int) ∧ TupO H b (ss.map V.int) ∧ rs.length = ss.length ∧ Bits rs ∧ Bits ss ∧ GxR.TabG H T.P_both ∧
  ∀ H' p, Sam H H' → H p = none → H' p = some (.tup ((List.zipWith (fun x y => x * y) rs ss).map V.int)) → Q (.ref p) H'
theorem ok_both (T : Defs K mg) (TT : Tabs T base) : FnOk P w K mg base CX0 2 T.f_both T.fd_both ["one", "other"] (sp_both T) := by
  have G_refuse_unlike : FnOk P w K mg base CX0 1 T.f_refuse_unlike T.fd_refuse_unlike ["rows"] (sp_refuse_unlike K) := ok_refuse_unlike T TT
  refine okC T.F_both T.k_both sc_both (fun vs H Q E h => ?_) (fun A outer s H vs Q E hr h => ?_)
  · obtain ⟨a, b, rs, ss, rfl, ha, hb, hl, br, bs, tg, q⟩ := h
    rfl
  · obtain ⟨a, b, rs, ss, rfl, ha, hb, hl, br, bs, tg, q⟩ := h
    refine ⟨_, PSs.nox (pss_cons (ps_expr (pe_call G_refuse_unlike (hr.mono (by decide)) (by rfl) T.g_refuse_unlike T.F_refuse_unlike.kp T.b_refuse_unlike .nil pass0 (pa_cons (pe_lst (pa_cons (pv 0) (pa_cons (pv 1) pa_nil))) pa_nil)))
    (pss_one (ps_ret (pe_tupZ hr (by rfl) T.m_tuple bt_tuple (by rfl) T.m_zip TT.t_both rfl ⟨⟨rfl, rfl, by decide +kernel, rfl, rfl, gs_free rfl⟩, rfl, by decide⟩ (pa_cons (pv 0) (pa_cons (pv 1) pa_nil)) (elt_and rfl rfl rfl) (fun _ => rfl))))), ?_⟩
    refine ⟨.ref a, rfl, .ref b, rfl, (show 2 ≤ sizeLine by decide), fun l nl => ?_⟩
    have s1 : Same H (upd H l (.lst [.ref a, .ref b])) := same_upd nl
    refine ⟨l, [(a, rs.map V.int), (b, ss.map V.int)], rs.length, rfl, upd_same, (show 2 ≤ 8 by decide), by simp, ?_, ?_, ?_⟩
    · intro p hp
      rcases List.mem_cons.mp hp with rfl | hp
      · exact ha.same s1
      · rw [List.mem_singleton.mp hp]
        exact hb.same s1
    · intro p hp
      rcases List.mem_cons.mp hp with rfl | hp
      · exact List.length_map ..
      · rw [List.mem_singleton.mp hp, hl]
        exact List.length_map ..
    have tg1 := (Sam.of s1).tabG tg
    refine ⟨.ref a, rfl, .ref b, rfl, a, b, _, _, rfl, ha.same s1, hb.same s1, by rw [List.length_map, List.length_map, hl], tg1, (List.zipWith (fun x y => x * y) rs ss).map V.int, ?_, ?_, ?_⟩
    · rw [List.length_map, List.length_map, List.length_zipWith]
      omega
    · intro i x y hx hy
      rw [List.getElem?_map] at hx hy
      have hi : i < rs.length := by
        by_cases z : i < rs.length
        · exact z
        · rw [List.getElem?_eq_none (by omega)] at hx
          cases hx
      rw [List.getElem?_eq_getElem hi] at hx
      rw [List.getElem?_eq_getElem (show i < ss.length by omega)] at hy
      cases hx
      cases hy
      refine ⟨.int (rs[i] * ss[i]), ?_, rs[i], ss[i], rfl, rfl, ?_⟩
      · rw [List.getElem?_map, List.getElem?_zipWith, List.getElem?_eq_getElem hi, List.getElem?_eq_getElem (show i < ss.length by omega)]
        rfl
      · rw [and_bits (br _ (List.getElem_mem hi)) (bs _ (List.getElem_mem _))]
    · intro H2 p tb np
      have s2 := Sam.tabbed tg1 tb
      have s3 := (Sam.of s1).trans s2
      exact q _ p (sam_newer s3 (s3.free np)) (s3.free np) upd_same
def sp_overlap {K : PySem.W.Frag} {mg : Str → Option Value} (T : Defs K mg) : Sp := fun vs H Q _ => ∃ (a b : Addr) (rs ss : List Int), vs = [.ref a, .ref b] ∧ TupO H a (rs.map V.int) ∧ TupO H b (ss.map V.int) ∧ rs.length = ss.length ∧ Bits rs ∧ Bits ss ∧ GxR.TabG H T.P_both ∧
  ∀ H', Sam H H' → Q (.int (dot rs ss)) H'
theorem ok_overlap (T : Defs K mg) (TT : Tabs T base) : FnOk P w K mg base CX0 3 T.f_overlap T.fd_overlap ["one", "other"] (sp_overlap T) := by
  have G_ones : FnOk P w K mg base CX0 1 T.f_ones T.fd_ones ["row"] (sp_ones K) := ok_ones T TT
  have G_both : FnOk P w K mg base CX0 2 T.f_both T.fd_both ["one", "other"] (sp_both T) := ok_both T TT
  refine T.F_overlap.ok sc_overlap (fun vs H Q E h => ?_) (fun cdv A outer s H vs Q E hr h => ?_)
  · obtain ⟨a, b, rs, ss, rfl, ha, hb, hl, br, bs, tg, q⟩ := h
    rfl
  · obtain ⟨a, b, rs, ss, rfl, ha, hb, hl, br, bs, tg, q⟩ := h
    refine ⟨_, PSs.nox (pss_one (ps_ret (pe_call G_ones (hr.mono (by decide)) (by rfl) T.g_ones T.F_ones.kp T.b_ones .nil pass0 (pa_cons (pe_call G_both (hr.mono (by decide)) (by rfl) T.g_both T.F_both.kp T.b_both .nil pass0 (pa_cons (pv 0) (pa_cons (pv 1) pa_nil))) pa_nil)))), ?_⟩
    refine ⟨.ref a, rfl, .ref b, rfl, a, b, rs, ss, rfl, ha, hb, hl, br, bs, tg, fun H1 p s1 np hp => ?_⟩
    exact ⟨p, _, rfl, .mk hp, q H1 s1⟩
def sp_overlap_ends (_ : PySem.W.Frag) : Sp := fun vs H Q _ => ∃ (n a b : Nat), vs = [.int (n : Nat), .int (a : Nat), .int (b : Nat)] ∧ ∀ H' p, Same H H' → H' p = some (.tup [.int ((a + b - n : Nat) : Int), .int ((min a b : Nat) : Int)]) → Q (.ref p) H'
theorem ok_overlap_ends (T : Defs K mg) (TT : Tabs T base) : FnOk P w K mg base CX0 1 T.f_overlap_ends T.fd_overlap_ends ["n", "a", "b"] (sp_overlap_ends K) := by
  refine T.F_overlap_ends.ok sc_overlap_ends (fun vs H Q E h => ?_) (fun cdv A outer s H vs Q E hr h => ?_)
  · obtain ⟨n, a, b, rfl, q⟩ := h
    rfl
  · obtain ⟨n, a, b, rfl, q⟩ := h
    refine ⟨_, PSs.nox (pss_one (ps_ret (pe_tup (pa_cons (pe_callB (call_max2 rfl) (by rfl) T.m_max bt_max (pa_cons pe_int (pa_cons (pe_op op_sub (pe_op op_add (pv 1) (pv 2)) (pv 0)) pa_nil))) (pa_cons (pe_callB (call_min2 rfl) (by rfl) T.m_min bt_min (pa_cons (pv 1) (pa_cons (pv 2) pa_nil))) pa_nil))))), ?_⟩
    refine ⟨_, rfl, _, rfl, _, _, rfl, rfl, _, rfl, _, _, rfl, rfl, _, _, rfl, _, rfl, _, rfl, _, _, rfl, (show 2 ≤ sizeLine by decide), fun p np => ?_⟩
    refine q _ p (same_upd np) ?_
    rw [upd_same]
    have e1 : (if (a : Int) + (b : Int) - (n : Int) > 0 then (a : Int) + (b : Int) - (n : Int) else 0) = ((a + b - n : Nat) : Int) := by
      split <;> omega
    have e2 : (if (b : Int) < (a : Int) then (b : Int) else (a : Int)) = ((min a b : Nat) : Int) := by
      split <;> omega
    rw [← e1, ← e2]
def sp_lean_ends (_ : PySem.W.Frag) : Sp := fun vs H Q _ => ∃ (n a b : Nat), vs = [.int (n : Nat), .int (a : Nat), .int (b : Nat)] ∧ n ≤ 100000 ∧ a ≤ 100000 ∧
  ∀ H' p, Same H H' → H' p = some (.tup (([n * ((a + b - n : Nat) : Int) - a * b, n * ((min a b : Nat) : Int) - a * b] : List Int).map V.int)) → Q (.ref p) H'
theorem Tg.tupv {p : Addr → Prop} {H : Hp} {v : V} {ds : List PyData} (h : Tg p H v (.tuple ds)) : ∃ a xs, v = .ref a ∧ ¬ p a ∧ TupO H a xs ∧ TgA p H xs ds := by
  cases h with
  | tup np ha hx => exact ⟨_, _, rfl, np, ha, hx⟩
/-! k08: how often a number stands in a tuple -/
def rCntT (K : PySem.W.Frag) : V → List V → Hp → VK → Prop := fun x xs H Q => ∃ (p : Addr) (ns : List Int) (k : Int), x = .ref p ∧ xs = [.int k] ∧ SqT K H p (ns.map V.int) ∧ Q (.int (ns.count k : Nat)) H
theorem mt_tcount {X : Cx} : MtR X "tuple.count" (rCntT X.K) := by
  intro pins s σ H x xs v us Q I rx rxs h
  obtain ⟨p, ns, k, rfl, rfl, hs, q⟩ := h
  cases rx
  obtain ⟨u, rfl, ru⟩ := rxs.one
  obtain ⟨t, rfl⟩ := ru
  obtain ⟨its, rv, ⟨⟨cls, dd, data, sl⟩, ho, hc, n, hd⟩, hlen⟩ := I.tuple hs
  simp only at hc hd
  subst hc hd
  have hi := ints_of_vals rv
  refine call_meets PySem.F.slot_tuple_count ⟨_, ho, rfl⟩ PySem.F.entry_tuple_count (PySem.F.args_tuple_count_2 _ _)
    (SeqAt.tuple_countAt p its.toArray n dd sl (.int k t) (eqk k)) ⟨ho, fun y hy => (eqk_gives hi y (by simpa using hy)).at _ _, ?_⟩
  have ec : its.toArray.toList.countP (eqk k) = ns.count k := eqk_count hi
  refine ⟨.int (ns.count k : Nat), H, I.tok _, ⟨s.toks, ?_⟩, q⟩
  show Value.int ((its.toArray.toList.countP (eqk k) : Nat) : Int) s.toks = Value.int ((ns.count k : Nat) : Int) s.toks
  rw [ec]
/-! two rows that meet so often -/
def lrB (n a b m : Nat) : List Int := List.replicate m 1 ++ List.replicate (a - m) 0 ++ List.replicate (b - m) 1 ++ List.replicate (n + m - a - b) 0
structure MetOk (n a b m : Nat) : Prop where
  ha : m ≤ a
  hb : m ≤ b
  hn : a + b ≤ n + m
theorem MetOk.ab {n a b m : Nat} (h : MetOk n a b m) : a ≤ n ∧ b ≤ n := by
  have := h.ha
  have := h.hb
  have := h.hn
  omega
theorem rep_bits1 (k : Nat) : Bits (List.replicate k 1) := fun x hx => .inr (List.eq_of_mem_replicate hx)
theorem rep_bits0 (k : Nat) : Bits (List.replicate k 0) := fun x hx => .inl (List.eq_of_mem_replicate hx)
theorem bits_cat {xs ys : List Int} (h : Bits xs) (g : Bits ys) : Bits (xs ++ ys) := fun x hx => by
  rcases List.mem_append.mp hx with hx | hx
  · exact h x hx
  · exact g x hx
theorem lrB_bits (n a b m : Nat) : Bits (lrB n a b m) := bits_cat (bits_cat (bits_cat (rep_bits1 _) (rep_bits0 _)) (rep_bits1 _)) (rep_bits0 _)
theorem lrB_len {n a b m : Nat} (h : MetOk n a b m) : (lrB n a b m).length = n := by
  have := h.ha
  have := h.hb
  have := h.hn
  simp only [lrB, List.length_append, List.length_replicate]
  omega
theorem lrB_sum {n a b m : Nat} (h : MetOk n a b m) : (lrB n a b m).sum = b := by
  have := h.hb
  simp only [lrB, List.sum_append, sum_rep]
  omega
theorem lrB_dot {n a b m : Nat} (h : MetOk n a b m) : dot (nearR n a) (lrB n a b m) = m := by
  have h1 := h.ha
  have e : dot (nearR n a) (lrB n a b m) = ((lrB n a b m).take a).sum := dot_one a (n - a) _ (by rw [lrB_len h]; have := h.ab; omega)
  have l : (List.replicate m (1 : Int) ++ List.replicate (a - m) 0).length = a := by
    rw [List.length_append, List.length_replicate, List.length_replicate]
    omega
  rw [e]
  unfold lrB
  rw [List.append_assoc, List.take_append_of_le_length (by omega), List.take_of_length_le (by omega), List.sum_append, sum_rep, sum_rep]
  omega
theorem repI (k : Nat) (x : Int) : List.replicate k (V.int x) = (List.replicate k x).map V.int := (List.map_replicate).symm
def sp_leaning_rows {K : PySem.W.Frag} {mg : Str → Option Value} (T : Defs K mg) : Sp := fun vs H Q E => ∃ (n a b : Nat) (met : Int), vs = [.int (n : Nat), .int (a : Nat), .int (b : Nat), .int met] ∧ 1 ≤ n ∧ n ≤ 4096 ∧ a ≤ n ∧ b ≤ n ∧
  ((∃ m : Nat, met = (m : Nat) ∧ MetOk n a b m ∧ ∀ H' p x y, Same H H' → H' p = some (.tup [.ref x, .ref y]) → FzT H' x ((nearR n a).map V.int) → FzT H' y ((lrB n a b m).map V.int) → Q (.ref p) H') ∨
   (¬ (∃ m : Nat, met = (m : Nat) ∧ MetOk n a b m) ∧ ∀ H', Same H H' → E (.ref T.C_NoSuch) none H'))
theorem ok_leaning_rows (T : Defs K mg) (TT : Tabs T base) : FnOk P w K mg base (L2.CX P w) 2 T.f_leaning_rows T.fd_leaning_rows ["n", "a", "b", "met"] (sp_leaning_rows T) := by
  have G_overlap_ends : FnOk P w K mg base CX0 1 T.f_overlap_ends T.fd_overlap_ends ["n", "a", "b"] (sp_overlap_ends K) := ok_overlap_ends T TT
  refine okX T.F_leaning_rows sc_leaning_rows (fun vs H Q E h => ?_) (fun cdv A outer s H vs Q E hr h => ?_)
  · obtain ⟨n, a, b, met, rfl, n1, n2, an, bn, h⟩ := h
    rfl
  · obtain ⟨n, a, b, met, rfl, n1, n2, an, bn, h⟩ := h
    refine ⟨_, (pss_cons (ps_asg (pe_call G_overlap_ends (hr.mono (by decide)) (by rfl) T.g_overlap_ends T.F_overlap_ends.kp T.b_overlap_ends .nil pass0 (pa_cons (pv 0) (pa_cons (pv 1) (pa_cons (pv 2) pa_nil)))) (pg_tup rfl (pgs_cons (pg_name (i := 4) sc_leaning_rows.nd rfl (.inl rfl)) (pgs_cons (pg_name (i := 5) sc_leaning_rows.nd rfl (.inl rfl)) pgs_nil))))
    (pss_cons (ps_if (PW.pt (pw_or (pt_not (pt_chain op_le op_le pe_int (pv 0) (pe_globI (by rfl) T.i_LONGEST))) (pw_or1 (pt_not (pt_chain op_le op_le (pv 4) (pv 3) (pv 5)))))) (pss_one (ps_raise rfl (takes_of (E := E) rfl rfl rfl rfl) (pmk_own PySem.F.excBase_ValueError T.xi_NoSuch T.g_NoSuch T.xk_NoSuch (raises_own T.xs_NoSuch T.xt_NoSuch) (by rfl)))) pss_nil)
    (pss_cons (ps_set (i := 6) sc_leaning_rows.nd rfl (.inl rfl) (pe_op op_catF (pe_op op_repF ((pe_tupF (pa_cons pe_int pa_nil))) (pv 1)) (pe_op op_repF ((pe_tupF (pa_cons pe_int pa_nil))) (pe_op op_sub (pv 0) (pv 1)))))
    (pss_cons (ps_set (i := 7) sc_leaning_rows.nd rfl (.inl rfl) (pe_op op_catF (pe_op op_catF (pe_op op_catF (pe_op op_repF ((pe_tupF (pa_cons pe_int pa_nil))) (pv 3)) (pe_op op_repF ((pe_tupF (pa_cons pe_int pa_nil))) (pe_op op_sub (pv 1) (pv 3)))) (pe_op op_repF ((pe_tupF (pa_cons pe_int pa_nil))) (pe_op op_sub (pv 2) (pv 3)))) (pe_op op_repF ((pe_tupF (pa_cons pe_int pa_nil))) (pe_op op_add (pe_op op_sub (pe_op op_sub (pv 0) (pv 1)) (pv 2)) (pv 3)))))
    (pss_one (ps_ret (pe_tup (pa_cons (pv 6) (pa_cons (pv 7) pa_nil))))))))), ?_⟩
    refine ⟨_, rfl, _, rfl, _, rfl, n, a, b, rfl, fun H1 p s1 hp => ?_⟩
    refine ⟨p, _, rfl, SqT.mk hp, rfl, _, _, rfl, _, _, rfl, rfl, ?_⟩
    refine ⟨_, rfl, _, _, rfl, rfl, _, rfl, ?_⟩
    rw [decide_eq_true (show (1 : Int) ≤ (n : Nat) by omega)]
    refine iteT ⟨_, _, rfl, rfl, _, rfl, ?_⟩
    rw [decide_eq_true (show ((n : Nat) : Int) ≤ 4096 by omega)]
    refine iteF ⟨_, rfl, _, rfl, _, _, rfl, rfl, _, rfl, ?_⟩
    rcases h with ⟨m, rfl, mo, q⟩ | ⟨no, q⟩
    rotate_left
    · by_cases c1 : ((a + b - n : Nat) : Int) ≤ met
      · rw [decide_eq_true c1]
        refine iteT ⟨_, rfl, _, _, rfl, rfl, _, rfl, ?_⟩
        by_cases c2 : met ≤ ((min a b : Nat) : Int)
        · exact absurd ⟨met.toNat, by omega, ⟨by omega, by omega, by omega⟩⟩ no
        · rw [decide_eq_false c2]
          exact iteT (q _ s1)
      · rw [decide_eq_false c1]
        exact iteF ⟨_, rfl, iteT (q _ s1)⟩
    have m1 := mo.ha
    have m2 := mo.hb
    have m3 := mo.hn
    rw [decide_eq_true (show ((a + b - n : Nat) : Int) ≤ (m : Nat) by omega)]
    refine iteT ⟨_, rfl, _, _, rfl, rfl, _, rfl, ?_⟩
    rw [decide_eq_true (show ((m : Nat) : Int) ≤ ((min a b : Nat) : Int) by omega)]
    have hsl : sizeLine = 16777216 := by decide
    refine iteF ⟨(show 1 ≤ sizeLine by decide), fun t1 G1 g1 f1 => ?_⟩
    refine ⟨_, rfl, t1, a, .int 1, rfl, rfl, f1, by omega, fun G2 c1 g2 f2 => ⟨(show 1 ≤ sizeLine by decide), fun t2 G3 g3 f3 => ?_⟩⟩
    refine ⟨_, rfl, _, rfl, _, _, rfl, rfl, t2, n - a, .int 0, rfl, congrArg V.int (by omega), f3, by omega, fun G4 c2 g4 f4 => ?_⟩
    refine ⟨c1, c2, _, _, rfl, rfl, (f2.same g3).same g4, f4, by rw [List.length_replicate, List.length_replicate]; omega, fun G5 c3 g5 f5 => ?_⟩
    have s5 := s1.trans (g1.trans (g2.trans (g3.trans (g4.trans g5))))
    have e1 : List.replicate a (V.int 1) ++ List.replicate (n - a) (V.int 0) = (nearR n a).map V.int := by
      rw [repI, repI, ← List.map_append]
      rfl
    rw [e1] at f5
    clear f1 f2 f3 f4 g1 g2 g3 g4 g5 s1
    refine ⟨(show 1 ≤ sizeLine by decide), fun t3 F1 h1 k1 => ?_⟩
    refine ⟨_, rfl, t3, m, .int 1, rfl, rfl, k1, by omega, fun F2 d1 h2 k2 => ⟨(show 1 ≤ sizeLine by decide), fun t4 F3 h3 k3 => ?_⟩⟩
    refine ⟨_, rfl, _, rfl, _, _, rfl, rfl, t4, a - m, .int 0, rfl, congrArg V.int (by omega), k3, by omega, fun F4 d2 h4 k4 => ?_⟩
    refine ⟨d1, d2, _, _, rfl, rfl, (k2.same h3).same h4, k4, by rw [List.length_replicate, List.length_replicate]; omega, fun F5 d3 h5 k5 => ?_⟩
    refine ⟨(show 1 ≤ sizeLine by decide), fun t5 F6 h6 k6 => ?_⟩
    refine ⟨_, rfl, _, rfl, _, _, rfl, rfl, t5, b - m, .int 1, rfl, congrArg V.int (by omega), k6, by omega, fun F7 d4 h7 k7 => ?_⟩
    refine ⟨d3, d4, _, _, rfl, rfl, (k5.same h6).same h7, k7, by simp only [List.length_append, List.length_replicate]; omega, fun F8 d5 h8 k8 => ?_⟩
    refine ⟨(show 1 ≤ sizeLine by decide), fun t6 F9 h9 k9 => ?_⟩
    refine ⟨_, rfl, _, rfl, _, _, rfl, rfl, _, rfl, _, _, rfl, rfl, _, rfl, _, _, rfl, rfl, t6, n + m - a - b, .int 0, rfl, congrArg V.int (by omega), k9, by omega, fun F10 d6 h10 k10 => ?_⟩
    refine ⟨d5, d6, _, _, rfl, rfl, (k8.same h9).same h10, k10, by simp only [List.length_append, List.length_replicate]; omega, fun F11 d7 h11 k11 => ?_⟩
    have zz := h1.trans (h2.trans (h3.trans (h4.trans (h5.trans (h6.trans (h7.trans (h8.trans (h9.trans (h10.trans h11)))))))))
    have e2 : List.replicate m (V.int 1) ++ List.replicate (a - m) (V.int 0) ++ List.replicate (b - m) (V.int 1) ++ List.replicate (n + m - a - b) (V.int 0) = (lrB n a b m).map V.int := by
      rw [repI, repI, repI, repI, ← List.map_append, ← List.map_append, ← List.map_append]
      rfl
    rw [e2] at k11
    refine ⟨_, rfl, _, rfl, (show 2 ≤ sizeLine by decide), fun p np => ?_⟩
    have s9 := same_upd np (o := .tup [.ref c3, .ref d7])
    exact q _ p c3 d7 (s5.trans (zz.trans s9)) upd_same ((f5.same zz).same s9) (k11.same s9)
/-- what shows that two rows meet so often -/
def DueD (n a b : Nat) (met : Int) (d : PyData) : Prop := ∃ rs ss : List Int, d = .tuple [.tuple (rs.map PyData.int), .tuple (ss.map PyData.int)] ∧ Bits rs ∧ Bits ss ∧ rs.length = n ∧ ss.length = n ∧ rs.sum = a ∧ ss.sum = b ∧ dot rs ss = met
theorem row_ints {ds : List PyData} (h : ∀ e, e ∈ ds → withinD e 0 1 = true) : ∃ rs : List Int, ds = rs.map PyData.int ∧ Bits rs := by
  induction ds with
  | nil => exact ⟨[], rfl, fun _ h => (by cases h)⟩
  | cons e es ih =>
    obtain ⟨rs, rfl, hb⟩ := ih fun x hx => h x (List.mem_cons_of_mem _ hx)
    have he := h e List.mem_cons_self
    cases e with
    | int i =>
      have hi : 0 ≤ i ∧ i ≤ 1 := of_decide_eq_true he
      exact ⟨i :: rs, rfl, fun x hx => by
        rcases List.mem_cons.mp hx with rfl | hx
        · omega
        · exact hb x hx⟩
    | _ => cases he
theorem bits_within {rs : List Int} (h : Bits rs) : ∀ e, e ∈ rs.map PyData.int → withinD e 0 1 = true := fun e he => by
  obtain ⟨x, hx, rfl⟩ := List.mem_map.mp he
  rcases h x hx with rfl | rfl <;> rfl
theorem ints_tgA {p : Addr → Prop} {H : Hp} {xs : List V} {rs : List Int} (h : TgA p H xs (rs.map PyData.int)) : xs = rs.map V.int := by
  induction rs generalizing xs with
  | nil => cases h; rfl
  | cons r rs ih =>
    cases h with
    | cons a b =>
      cases a
      rw [ih b]
      rfl
theorem isRowD_is {d : PyData} (h : isRowD d = true) : ∃ rs : List Int, d = .tuple (rs.map PyData.int) ∧ Bits rs ∧ 1 ≤ rs.length ∧ rs.length ≤ 4096 := by
  cases d with
  | tuple ds =>
    have h : (decide (1 ≤ ds.length ∧ ds.length ≤ 4096) && ds.all fun x => withinD x 0 1) = true := h
    obtain ⟨h1, h2⟩ := Bool.and_eq_true_iff.mp h
    obtain ⟨rs, rfl, hb⟩ := row_ints (List.all_eq_true.mp h2)
    have h1 := of_decide_eq_true h1
    rw [List.length_map] at h1
    exact ⟨rs, rfl, hb, h1⟩
  | _ => cases h
theorem isRowD_of {rs : List Int} (hb : Bits rs) (h1 : 1 ≤ rs.length) (h2 : rs.length ≤ 4096) : isRowD (.tuple (rs.map PyData.int)) = true := by
  show (decide (1 ≤ (rs.map PyData.int).length ∧ (rs.map PyData.int).length ≤ 4096) && (rs.map PyData.int).all fun x => withinD x 0 1) = true
  rw [List.length_map, decide_eq_true ⟨h1, h2⟩, Bool.true_and]
  exact List.all_eq_true.mpr (bits_within hb)
theorem map_int_inj {rs ss : List Int} (h : rs.map PyData.int = ss.map PyData.int) : rs = ss := by
  induction rs generalizing ss with
  | nil => cases ss with
    | nil => rfl
    | cons => cases h
  | cons r rs ih => cases ss with
    | nil => cases h
    | cons s ss =>
      simp only [List.map_cons, List.cons.injEq, PyData.int.injEq] at h
      rw [h.1, ih h.2]
def sp_shows_rows {K : PySem.W.Frag} {mg : Str → Option Value} (T : Defs K mg) : Sp := fun vs H Q _ => ∃ (p : Addr → Prop) (n a b : Nat) (met : Int) (v : V) (d : PyData), vs = [.int (n : Nat), .int (a : Nat), .int (b : Nat), .int met, v] ∧ 1 ≤ n ∧ n ≤ 4096 ∧ Tg p H v d ∧ GxR.TabG H T.P_is_row ∧ GxR.TabG H T.P_both ∧
  ∀ H' r, Sam H H' → (r = true ↔ DueD n a b met d) → Q (.bl r) H'
theorem ok_shows_rows (T : Defs K mg) (TT : Tabs T base) : FnOk P w K mg base CX0 6 T.f_shows_rows T.fd_shows_rows ["n", "a", "b", "met", "thing"] (sp_shows_rows T) := by
  have G_is_row : FnOk P w K mg base CX0 5 T.f_is_row T.fd_is_row ["thing"] (sp_is_row T) := ok_is_row T TT
  have G_ones : FnOk P w K mg base CX0 1 T.f_ones T.fd_ones ["row"] (sp_ones K) := ok_ones T TT
  have G_overlap : FnOk P w K mg base CX0 3 T.f_overlap T.fd_overlap ["one", "other"] (sp_overlap T) := ok_overlap T TT
  refine T.F_shows_rows.ok sc_shows_rows (fun vs H Q E h => ?_) (fun cdv A outer s H vs Q E hr h => ?_)
  · obtain ⟨p, n, a, b, met, v, d, rfl, n1, n2, hv, tr, tb, q⟩ := h
    rfl
  · obtain ⟨p, n, a, b, met, v, d, rfl, n1, n2, hv, tr, tb, q⟩ := h
    refine ⟨_, PSs.nox (pss_cons (ps_if (PW.pt (pw_or (pt_not (pt_val (pe_callB call_isi (by rfl) T.m_isinstance bt_isinstance (pa_cons (pv 4) (pa_cons (pe_bltn (v := .ty "tuple") (by rfl) T.m_tuple bt_tuple rfl) pa_nil))))) (pw_or1 (pt_cmpR op_ne (pe_callB call_len_seq (by rfl) T.m_len bt_len (pa_cons (pv 4) pa_nil)) pe_int (nomark _))))) (pss_one (ps_ret pe_bl)) pss_nil)
    (pss_cons (ps_asg (pv 4) (pg_tup rfl (pgs_cons (pg_name (i := 5) sc_shows_rows.nd rfl (.inl rfl)) (pgs_cons (pg_name (i := 6) sc_shows_rows.nd rfl (.inl rfl)) pgs_nil))))
    (pss_cons (ps_if (PW.pt (pw_or (pt_not (pt_val (pe_call G_is_row (hr.mono (by decide)) (by rfl) T.g_is_row T.F_is_row.kp T.b_is_row .nil pass0 (pa_cons (pv 5) pa_nil)))) (pw_or (pt_not (pt_val (pe_call G_is_row (hr.mono (by decide)) (by rfl) T.g_is_row T.F_is_row.kp T.b_is_row .nil pass0 (pa_cons (pv 6) pa_nil)))) (pw_or (pt_cmpR op_ne (pe_callB call_len_seq (by rfl) T.m_len bt_len (pa_cons (pv 5) pa_nil)) (pv 0) (nomark _)) (pw_or1 (pt_cmpR op_ne (pe_callB call_len_seq (by rfl) T.m_len bt_len (pa_cons (pv 6) pa_nil)) (pv 0) (nomark _))))))) (pss_one (ps_ret pe_bl)) pss_nil)
    (pss_one (ps_ret (pe_and (pe_cmpR op_eq (pe_call G_ones (hr.mono (by decide)) (by rfl) T.g_ones T.F_ones.kp T.b_ones .nil pass0 (pa_cons (pv 5) pa_nil)) (pv 1) (nomark _)) (pe_and (pe_cmpR op_eq (pe_call G_ones (hr.mono (by decide)) (by rfl) T.g_ones T.F_ones.kp T.b_ones .nil pass0 (pa_cons (pv 6) pa_nil)) (pv 2) (nomark _)) (pe_one (pe_cmpR op_eq (pe_call G_overlap (hr.mono (by decide)) (by rfl) T.g_overlap T.F_overlap.kp T.b_overlap .nil pass0 (pa_cons (pv 5) (pa_cons (pv 6) pa_nil))) (pv 3) (nomark _)))))))))), ?_⟩
    have no : ¬ DueD n a b met d → ∀ H', Sam H H' → Q (.bl false) H' := fun z H' s => q H' false s ⟨fun e => (by cases e), fun e => absurd e z⟩
    obtain ⟨t, ty, -, -, kt, -, -⟩ := hv.ty (K := K)
    refine ⟨v, rfl, _, _, _, _, _, rfl, .ty "tuple", ty, kt, _, rfl, ?_⟩
    cases hv with
    | tup np ha hxs =>
      rename_i t0 xs ds
      have ln := hxs.len
      refine iteF ⟨.ref t0, rfl, t0, _, rfl, .inr (ha.sq), rfl, _, rfl, ?_⟩
      by_cases l2 : ds.length = 2
      rotate_left
      · rw [decide_eq_false (show ¬ V.int ((xs.length : Nat) : Int) = V.int 2 from fun e => l2 (by have := V.int.inj e; omega))]
        refine iteT (no ?_ H (Sam.refl H))
        rintro ⟨rs, ss, e, _⟩
        cases e
        exact l2 rfl
      rw [decide_eq_true (show V.int ((xs.length : Nat) : Int) = V.int 2 from congrArg V.int (by omega))]
      obtain ⟨d1, d2, rfl⟩ : ∃ d1 d2, ds = [d1, d2] := by
        match ds, l2 with
        | [d1, d2], _ => exact ⟨d1, d2, rfl⟩
      cases hxs with
      | cons h1 hr =>
      cases hr with
      | cons h2 hr =>
      cases hr
      rename_i x1 x2
      refine iteF ⟨.ref t0, rfl, t0, _, rfl, ha.sq, rfl, _, _, rfl, _, _, rfl, rfl, ?_⟩
      refine ⟨x1, rfl, p, x1, d1, rfl, h1, tr, fun H1 s1 => ⟨_, rfl, ?_⟩⟩
      cases r1 : isRowD d1 with
      | false =>
        refine iteT (no ?_ H1 s1)
        rintro ⟨rs, ss, e, br, bs, lr, ls, _⟩
        cases e
        rw [isRowD_of br (by omega) (by omega)] at r1
        cases r1
      | true =>
      refine iteF ⟨x2, rfl, p, x2, d2, rfl, h2.sam s1, s1.tabG tr, fun H2 s2 => ⟨_, rfl, ?_⟩⟩
      have s12 := s1.trans s2
      cases r2 : isRowD d2 with
      | false =>
        refine iteT (no ?_ H2 s12)
        rintro ⟨rs, ss, e, br, bs, lr, ls, _⟩
        cases e
        rw [isRowD_of bs (by omega) (by omega)] at r2
        cases r2
      | true =>
      obtain ⟨rs, rfl, br, _, _⟩ := isRowD_is r1
      obtain ⟨ss, rfl, bs, _, _⟩ := isRowD_is r2
      obtain ⟨a1, ys, rfl, _, g1, e1⟩ := (h1.sam s12).tupv
      obtain ⟨a2, zs, rfl, _, g2, e2⟩ := (h2.sam s12).tupv
      obtain rfl := ints_tgA e1
      obtain rfl := ints_tgA e2
      have inv : DueD n a b met (.tuple [.tuple (rs.map PyData.int), .tuple (ss.map PyData.int)]) → rs.length = n ∧ ss.length = n ∧ rs.sum = a ∧ ss.sum = b ∧ dot rs ss = met := by
        rintro ⟨rs', ss', e, _, _, h1, h2, h3, h4, h5⟩
        simp only [PyData.tuple.injEq, List.cons.injEq, and_true] at e
        obtain rfl := map_int_inj e.1
        obtain rfl := map_int_inj e.2
        exact ⟨h1, h2, h3, h4, h5⟩
      refine iteF ⟨.ref a1, rfl, a1, _, rfl, .inr (g1.sq), _, rfl, rfl, _, rfl, ?_⟩
      by_cases l1 : rs.length = n
      rotate_left
      · rw [decide_eq_false (show ¬ V.int (((rs.map V.int).length : Nat) : Int) = V.int (n : Nat) from fun e => l1 (by have e := V.int.inj e; rw [List.length_map] at e; omega))]
        exact iteT (iteT (no (fun z => l1 (inv z).1) H2 s12))
      rw [decide_eq_true (show V.int (((rs.map V.int).length : Nat) : Int) = V.int (n : Nat) from congrArg V.int (by rw [List.length_map]; omega))]
      refine iteF ⟨.ref a2, rfl, a2, _, rfl, .inr (g2.sq), _, rfl, rfl, _, rfl, ?_⟩
      by_cases l2 : ss.length = n
      rotate_left
      · rw [decide_eq_false (show ¬ V.int (((ss.map V.int).length : Nat) : Int) = V.int (n : Nat) from fun e => l2 (by have e := V.int.inj e; rw [List.length_map] at e; omega))]
        exact iteT (no (fun z => l2 (inv z).2.1) H2 s12)
      rw [decide_eq_true (show V.int (((ss.map V.int).length : Nat) : Int) = V.int (n : Nat) from congrArg V.int (by rw [List.length_map]; omega))]
      refine iteF ⟨.ref a1, rfl, a1, rs, rfl, g1, _, rfl, rfl, _, rfl, ?_⟩
      by_cases c1 : rs.sum = a
      rotate_left
      · rw [decide_eq_false (show ¬ V.int rs.sum = V.int (a : Nat) from fun e => c1 (V.int.inj e))]
        exact iteF (no (fun z => c1 (inv z).2.2.1) H2 s12)
      rw [decide_eq_true (show V.int rs.sum = V.int (a : Nat) from congrArg V.int c1)]
      refine iteT ⟨.ref a2, rfl, a2, ss, rfl, g2, _, rfl, rfl, _, rfl, ?_⟩
      by_cases c2 : ss.sum = b
      rotate_left
      · rw [decide_eq_false (show ¬ V.int ss.sum = V.int (b : Nat) from fun e => c2 (V.int.inj e))]
        exact iteF (no (fun z => c2 (inv z).2.2.2.1) H2 s12)
      rw [decide_eq_true (show V.int ss.sum = V.int (b : Nat) from congrArg V.int c2)]
      refine iteT ⟨.ref a1, rfl, .ref a2, rfl, a1, a2, rs, ss, rfl, g1, g2, by omega, br, bs, s12.tabG tb, fun H3 s3 => ⟨_, rfl, rfl, ?_⟩⟩
      refine q H3 _ (s12.trans s3) ⟨fun e => ⟨rs, ss, rfl, br, bs, l1, l2, c1, c2, V.int.inj (of_decide_eq_true e)⟩, fun z => decide_eq_true (congrArg V.int (inv z).2.2.2.2)⟩
    | _ => exact iteT (no (by rintro ⟨rs, ss, e, _⟩; cases e) H (Sam.refl H))
/-- a row in a pair: its object told where it is a tuple -/
def RowF (b : Addr) (H : Hp) (x : V) (d : PyData) : Prop := Tg (· = b) H x d ∧ ∀ es, d = .tuple es → ∃ r ys, x = .ref r ∧ r ≠ b ∧ FzT H r ys ∧ TgA (· = b) H ys es
def Th (b : Addr) (H : Hp) (v : V) (d : PyData) : Prop := Tg (· = b) H v d ∧ ∀ d1 d2, d = .tuple [d1, d2] → ∃ a x1 x2, v = .ref a ∧ a ≠ b ∧ TupO H a [x1, x2] ∧ RowF b H x1 d1 ∧ RowF b H x2 d2
theorem TupO.but {b : Addr} {H G : Hp} {a : Addr} {xs : List V} (h : TupO H a xs) (n : a ≠ b) (s : But b H G) : TupO G a xs := by
  obtain ⟨ob, e⟩ := h
  exact ⟨ob, s _ _ n e⟩
theorem FzT.but {b : Addr} {H G : Hp} {a : Addr} {xs : List V} (h : FzT H a xs) (n : a ≠ b) (s : But b H G) : FzT G a xs := by
  obtain ⟨ob, h1, h2, e⟩ := h
  exact ⟨ob, h1, h2, s _ _ n e⟩
theorem RowF.but {b : Addr} {H G : Hp} {x : V} {d : PyData} (h : RowF b H x d) (s : But b H G) : RowF b G x d := ⟨h.1.but s, fun es e => by
  obtain ⟨r, ys, e1, n, f, t⟩ := h.2 es e
  exact ⟨r, ys, e1, n, f.but n s, t.but s⟩⟩
theorem Th.but {b : Addr} {H G : Hp} {x : V} {d : PyData} (h : Th b H x d) (s : But b H G) : Th b G x d := ⟨h.1.but s, fun d1 d2 e => by
  obtain ⟨a, x1, x2, e1, n, t, r1, r2⟩ := h.2 d1 d2 e
  exact ⟨a, x1, x2, e1, n, t.but n s, r1.but s, r2.but s⟩⟩
theorem Th.same {b : Addr} {H G : Hp} {x : V} {d : PyData} (h : Th b H x d) (s : Same H G) : Th b G x d := h.but (same_but s)
theorem none_of {t c1 c2 c3 c4 c5 : Value} (h1 : PySem.W.kitOne K t c1 = some false) (h2 : PySem.W.kitOne K t c2 = some false) (h3 : PySem.W.kitOne K t c3 = some false) (h4 : PySem.W.kitOne K t c4 = some false) (h5 : PySem.W.kitOne K t c5 = some false) : PySem.W.kitAny K t [c1, c2, c3, c4, c5] = some false :=
  kitAny_cons h1 (fun _ => kitAny_cons h2 (fun _ => kitAny_cons h3 (fun _ => kitAny_cons h4 (fun _ => kitAny_cons h5 (fun _ => rfl) (fun z => by cases z)) (fun z => by cases z)) (fun z => by cases z)) (fun z => by cases z)) (fun z => by cases z)
def sp__law_told {K : PySem.W.Frag} {mg : Str → Option Value} (T : Defs K mg) : Sp := fun vs H Q _ => ∃ (n a b : Nat) (met : Int), vs = [.int (n : Nat), .int (a : Nat), .int (b : Nat), .int met] ∧ 1 ≤ n ∧ n ≤ 4096 ∧ a ≤ n ∧ b ≤ n ∧
  ((∃ m : Nat, met = (m : Nat) ∧ MetOk n a b m ∧ ∀ H' p x y, Same H H' → H' p = some (.tup [.ref x, .ref y]) → FzT H' x ((nearR n a).map V.int) → FzT H' y ((lrB n a b m).map V.int) → Q (.ref p) H') ∨
   (¬ (∃ m : Nat, met = (m : Nat) ∧ MetOk n a b m) ∧ ∀ H', Same H H' → Q (.str "none") H'))
theorem ok__law_told (T : Defs K mg) (TT : Tabs T base) : FnOk P w K mg base CX0 3 T.f__law_told T.fd__law_told ["_law_n", "_law_a", "_law_b", "_law_met"] (sp__law_told T) := by
  have G_leaning_rows : FnOk P w K mg base (L2.CX P w) 2 T.f_leaning_rows T.fd_leaning_rows ["n", "a", "b", "met"] (sp_leaning_rows T) := ok_leaning_rows T TT
  refine T.F__law_told.ok sc__law_told (fun vs H Q E h => ?_) (fun cdv A outer s H vs Q E hr h => ?_)
  · obtain ⟨n, a, b, met, rfl, n1, n2, an, bn, h⟩ := h
    rfl
  · obtain ⟨n, a, b, met, rfl, n1, n2, an, bn, h⟩ := h
    refine ⟨_, PSs.nox (pss_cons (ps_asg (pe_tup (pa_cons pe_non (pa_cons pe_non pa_nil))) (pg_tup rfl (pgs_cons (pg_name (i := 4) sc__law_told.nd rfl (.inl rfl)) (pgs_cons (pg_name (i := 5) sc__law_told.nd rfl (.inl rfl)) pgs_nil))))
    (pss_cons (ps_try_held (i := 6) rfl rfl rfl sc__law_told.nd rfl rfl ⟨by rfl, by decide, .inl T.g_OnesError⟩ takes0 (fun W pn xe tk pa => (pss_one (ps_set (i := 4) sc__law_told.nd rfl (.inl rfl) (pe_callS G_leaning_rows (hr.mono (by decide)) (by rfl) T.g_leaning_rows T.F_leaning_rows.kp T.b_leaning_rows (fun σ => passAt tk σ) (pa_cons (pv 0) (pa_cons (pv 1) (pa_cons (pv 2) (pa_cons (pv 3) pa_nil)))))))) (fun a oe cls d pn hz hf => (pss_one (ps_set (i := 5) sc__law_told.nd rfl (.inl rfl) (pv 6)))))
    (pss_cons (ps_if (pt_cmpR op_isN (pv 5) pe_non (nomark _)) (pss_one (ps_ret (pv 4))) pss_nil)
    (pss_cons (ps_set (i := 7) sc__law_told.nd rfl (.inl rfl) (pe_callB call_isKT (by rfl) T.m_isinstance bt_isinstance (pa_cons (pv 5) (pa_cons (pe_tup (pa_cons (pe_glob (v := .ref T.C_BadSheet) (by rfl) T.g_BadSheet rfl) (pa_cons (pe_glob (v := .ref T.C_BadText) (by rfl) T.g_BadText rfl) (pa_cons (pe_glob (v := .ref T.C_NoOne) (by rfl) T.g_NoOne rfl) (pa_cons (pe_glob (v := .ref T.C_NoRound) (by rfl) T.g_NoRound rfl) (pa_cons (pe_glob (v := .ref T.C_Unlike) (by rfl) T.g_Unlike rfl) pa_nil)))))) pa_nil))))
    (pss_one (ps_ret (pe_ifExp (PW.pt (pw_and (pt_val (pe_callB call_isK (by rfl) T.m_isinstance bt_isinstance (pa_cons (pv 5) (pa_cons (pe_glob (v := .ref T.C_NoSuch) (by rfl) T.g_NoSuch rfl) pa_nil)))) (pw_and (pt_val (pe_callB call_isK (by rfl) T.m_isinstance bt_isinstance (pa_cons (pv 5) (pa_cons (pe_bltn (v := .ty "ValueError") (by rfl) T.m_ValueError bt_ValueError rfl) pa_nil)))) (pw_and1 (pt_not (pt_val (pv 7))))))) pe_str pe_str))))))), ?_⟩
    refine ⟨(show 2 ≤ sizeLine by decide), fun t nt => ⟨t, _, rfl, SqT.mk upd_same, rfl, _, _, rfl, _, _, rfl, rfl, ?_⟩⟩
    have s1 := same_upd nt (o := .tup [.non, .non])
    generalize upd H t (.tup [.non, .non]) = H1 at s1 ⊢
    refine ⟨_, rfl, _, rfl, _, rfl, _, rfl, n, a, b, met, rfl, n1, n2, an, bn, ?_⟩
    rcases h with ⟨m, e, mo, q⟩ | ⟨no, q⟩
    · refine .inl ⟨m, e, mo, fun H2 p x y s2 hp hx hy => ?_⟩
      refine ⟨.non, rfl, rfl, _, rfl, iteT ?_⟩
      exact ⟨.ref p, rfl, q _ p x y (s1.trans s2) hp hx hy⟩
    · refine .inr ⟨no, fun H2 s2 => ?_⟩
      refine ⟨true, T.xm_NoSuch, fun z => (by cases z), fun _ e ne => ?_⟩
      refine ⟨.ref e, rfl, ?_⟩
      have s3 : Same H (upd H2 e (ExK (.ref T.C_NoSuch) none e)) := s1.trans (s2.trans (same_upd ne))
      have he : (upd H2 e (ExK (.ref T.C_NoSuch) none e)) e = some (ExK (.ref T.C_NoSuch) none e) := upd_same
      refine ⟨.ref e, rfl, rfl, _, rfl, iteF ?_⟩
      refine ⟨.ref e, rfl, (show 5 ≤ sizeLine by decide), fun tu nu => ?_⟩
      have s4 := same_upd nu (o := .tup [.ref T.C_BadSheet, .ref T.C_BadText, .ref T.C_NoOne, .ref T.C_NoRound, .ref T.C_Unlike])
      have he4 := s4 _ _ he
      refine ⟨e, T.C_NoSuch, tu, _, _, false, rfl, he4, T.xc_NoSuch, upd_same, .cons (.own _) (.cons (.own _) (.cons (.own _) (.cons (.own _) (.cons (.own _) .nil)))), none_of T.xo_NoSuch_BadSheet T.xo_NoSuch_BadText T.xo_NoSuch_NoOne T.xo_NoSuch_NoRound T.xo_NoSuch_Unlike, ?_⟩
      refine ⟨.ref e, rfl, e, T.C_NoSuch, _, _, true, rfl, he4, T.xc_NoSuch, .own _, T.xo_NoSuch_NoSuch, _, rfl, iteT ?_⟩
      refine ⟨.ref e, rfl, e, T.C_NoSuch, _, _, true, rfl, he4, T.xc_NoSuch, .ty "ValueError", T.xv_NoSuch, _, rfl, iteT ?_⟩
      refine ⟨.bl false, rfl, false, rfl, q _ (s3.trans s4)⟩
theorem cnt_one {rs : List Int} (h : Bits rs) : ((rs.count 1 : Nat) : Int) = rs.sum := by
  induction rs with
  | nil => rfl
  | cons x xs ih =>
    have ih := ih fun y hy => h y (List.mem_cons_of_mem _ hy)
    rw [List.sum_cons, ← ih]
    rcases h x List.mem_cons_self with rfl | rfl
    · rw [List.count_cons_of_ne (by decide)]
      omega
    · rw [List.count_cons_self]
      omega
/-- the places at which both have 1 -/
def meetL (rs ss : List Int) (i : Nat) : List Nat := (List.range i).filter fun j => decide (rs.getD j 0 + ss.getD j 0 = 2)
theorem meetL_succ (rs ss : List Int) (i : Nat) : meetL rs ss (i + 1) = meetL rs ss i ++ (if rs.getD i 0 + ss.getD i 0 = 2 then [i] else []) := by
  unfold meetL
  rw [List.range_succ, List.filter_append, List.filter_cons, List.filter_nil]
  by_cases h : rs.getD i 0 + ss.getD i 0 = 2
  · rw [if_pos (decide_eq_true h), if_pos h]
  · rw [if_neg (fun z => h (of_decide_eq_true z)), if_neg h]
theorem meetL_le (rs ss : List Int) (i : Nat) : (meetL rs ss i).length ≤ i := Nat.le_trans (List.length_filter_le _ _) (by rw [List.length_range]; exact Nat.le_refl _)
theorem meetL_len {rs ss : List Int} (br : Bits rs) (bs : Bits ss) (hl : rs.length = ss.length) : ∀ i, i ≤ rs.length → (((meetL rs ss i).length : Nat) : Int) = ((List.zipWith (fun x y => x * y) rs ss).take i).sum
  | 0, _ => rfl
  | i + 1, h => by
    have h1 : i < rs.length := h
    have h2 : i < ss.length := by omega
    have e : (List.zipWith (fun x y => x * y) rs ss)[i]? = some (rs[i] * ss[i]) := by
      rw [List.getElem?_zipWith, List.getElem?_eq_getElem h1, List.getElem?_eq_getElem h2]
    rw [meetL_succ, List.length_append, Int.natCast_add, meetL_len br bs hl i (by omega), List.take_add_one, List.sum_append, e, List.getD_eq_getElem?_getD, List.getD_eq_getElem?_getD, List.getElem?_eq_getElem h1, List.getElem?_eq_getElem h2]
    simp only [Option.getD_some, Option.toList_some, List.sum_cons, List.sum_nil, Int.add_zero]
    rcases br _ (List.getElem_mem h1) with e1 | e1 <;> rcases bs _ (List.getElem_mem h2) with e2 | e2 <;> rw [e1, e2] <;> rfl
theorem meetL_dot {rs ss : List Int} (br : Bits rs) (bs : Bits ss) (hl : rs.length = ss.length) : (((meetL rs ss rs.length).length : Nat) : Int) = dot rs ss := by
  rw [meetL_len br bs hl _ (Nat.le_refl _), List.take_of_length_le (by rw [List.length_zipWith]; omega)]
  rfl
def GoodRow (n : Nat) (d : PyData) : Prop := ∃ rs : List Int, d = .tuple (rs.map PyData.int) ∧ Bits rs ∧ rs.length = n
def sp__law_due (_ : PySem.W.Frag) : Sp := fun vs H Q _ => ∃ (b : Addr) (n a c : Nat) (met : Int) (v : V) (d : PyData), vs = [.int (n : Nat), .int (a : Nat), .int (c : Nat), .int met, v] ∧ 1 ≤ n ∧ n ≤ 4096 ∧ Th b H v d ∧
  ∀ H' r, Same H H' → (r = true ↔ DueD n a c met d) → Q (.bl r) H'
theorem ok__law_due (T : Defs K mg) (TT : Tabs T base) : FnOk P w K mg base CX0 1 T.f__law_due T.fd__law_due ["_law_n", "_law_a", "_law_b", "_law_met", "_law_thing"] (sp__law_due K) := by
  refine T.F__law_due.ok sc__law_due (fun vs H Q E h => ?_) (fun cdv A outer s H vs Q E hr h => ?_)
  · obtain ⟨b, n, a, c, met, v, d, rfl, n1, n2, hv, q⟩ := h
    rfl
  · obtain ⟨b, n, a, c, met, v, d, rfl, n1, n2, hv, q⟩ := h
    refine ⟨_, PSs.nox (pss_cons (ps_if (PW.pt (pw_or (pt_not (pt_val (pe_callB call_isi (by rfl) T.m_isinstance bt_isinstance (pa_cons (pv 4) (pa_cons (pe_bltn (v := .ty "tuple") (by rfl) T.m_tuple bt_tuple rfl) pa_nil))))) (pw_or1 (pt_cmpR op_ne (pe_callB call_len_seq (by rfl) T.m_len bt_len (pa_cons (pv 4) pa_nil)) pe_int (nomark _))))) (pss_one (ps_ret pe_bl)) pss_nil)
    (pss_cons ((ps_for PassesOwn.never rfl (pi_tup (pv 4)) (pg_name (i := 5) sc__law_due.nd rfl (.inl rfl)) (pss_cons (ps_if (PW.pt (pw_or (pt_not (pt_val (pe_callB call_isi (by rfl) T.m_isinstance bt_isinstance (pa_cons (pv 5) (pa_cons (pe_bltn (v := .ty "tuple") (by rfl) T.m_tuple bt_tuple rfl) pa_nil))))) (pw_or1 (pt_cmpR op_ne (pe_callB call_len_seq (by rfl) T.m_len bt_len (pa_cons (pv 5) pa_nil)) (pv 0) (nomark _))))) (pss_one (ps_ret pe_bl)) pss_nil)
    (pss_one (ps_if (pt_val (pe_callB (cr_any rfl) (by rfl) T.m_any bt_any (pa_cons (pe_lc (own := [("_law_bit", 8)]) (g := gName 8) (tt := tYes) rfl sc__law_due.nd (pi_tup (pv 5)) (blkOk_by (N := N__law_due) (sc := defScope s__law_due) (by decide +kernel)) (fun _ _ _ _ _ => (pg_name (i := 8) sc__law_due.nd rfl (.inl rfl))) (fun _ _ _ _ _ => pts_nil) (fun _ _ _ _ _ => (pe_or (pe_not (pe_callB (isiK (K := K) rfl) (by rfl) T.m_isinstance bt_isinstance (pa_cons (pv 8) (pa_cons (pe_bltn (v := .ty "int") (by rfl) T.m_int bt_int rfl) pa_nil)))) (pe_or (pe_callB (isiK (K := K) rfl) (by rfl) T.m_isinstance bt_isinstance (pa_cons (pv 8) (pa_cons (pe_bltn (v := .ty "bool") (by rfl) T.m_bool bt_bool rfl) pa_nil))) (pe_or (pe_cmpR op_lt (pv 8) pe_int (nomark _)) (pe_one (pe_cmpR op_gt (pv 8) pe_int (nomark _)))))))) pa_nil))) (pss_one (ps_ret pe_bl)) pss_nil)))))
    (pss_cons (ps_asg (pv 4) (pg_tup rfl (pgs_cons (pg_name (i := 6) sc__law_due.nd rfl (.inr rfl)) (pgs_cons (pg_name (i := 7) sc__law_due.nd rfl (.inr rfl)) pgs_nil))))
    (pss_cons (ps_if (PW.pt (pw_or (pt_cmpR op_ne ((pe_tm PySem.F.slot_tuple_count PySem.F.type_tuple_count mt_tcount (pv 6) (pa_cons pe_int pa_nil))) (pv 1) (nomark _)) (pw_or1 (pt_cmpR op_ne ((pe_tm PySem.F.slot_tuple_count PySem.F.type_tuple_count mt_tcount (pv 7) (pa_cons pe_int pa_nil))) (pv 2) (nomark _))))) (pss_one (ps_ret pe_bl)) pss_nil)
    (pss_one (ps_ret (pe_cmpR op_eq (pe_callB call_len_seq (by rfl) T.m_len bt_len (pa_cons (pe_lc (own := [("_law_place", 9)]) (g := gName 9) rfl sc__law_due.nd (pi_range1 (by rfl) T.m_range (pa_cons (pv 0) pa_nil)) (blkOk_by (N := N__law_due) (sc := defScope s__law_due) (by decide +kernel)) (fun _ _ _ _ _ => (pg_name (i := 9) sc__law_due.nd rfl (.inl rfl))) (fun _ _ _ _ _ => pts_one (pt_cmpR op_eq (pe_op op_add (pe_ix (ixtK (K := K) rfl) (pv 6) (pv 9) (fun _ _ => rfl)) (pe_ix (ixtK (K := K) rfl) (pv 7) (pv 9) (fun _ _ => rfl))) pe_int (nomark _))) (fun _ _ _ _ _ => (pv 9))) pa_nil)) (pv 3) (nomark _)))))))), ?_⟩
    have no : ¬ DueD n a c met d → ∀ H', Same H H' → Q (.bl false) H' := fun z H' s => q H' false s ⟨fun e => (by cases e), fun e => absurd e z⟩
    obtain ⟨t, ty, -, -, kt, -, -⟩ := hv.1.ty (K := K)
    refine ⟨v, rfl, _, _, _, _, _, rfl, .ty "tuple", ty, kt, _, rfl, ?_⟩
    have hv1 := hv.1
    cases hv1 with
    | tup np ha hxs =>
      rename_i t0 xs ds
      have ln := hxs.len
      refine iteF ⟨.ref t0, rfl, t0, _, rfl, .inr ha.sq, rfl, _, rfl, ?_⟩
      by_cases l2 : ds.length = 2
      rotate_left
      · rw [decide_eq_false (show ¬ V.int ((xs.length : Nat) : Int) = V.int 2 from fun e => l2 (by have := V.int.inj e; omega))]
        refine iteT (no ?_ H (Same.refl H))
        rintro ⟨rs, ss, e, _⟩
        cases e
        exact l2 rfl
      rw [decide_eq_true (show V.int ((xs.length : Nat) : Int) = V.int 2 from congrArg V.int (by omega))]
      obtain ⟨d1, d2, rfl⟩ : ∃ d1 d2, ds = [d1, d2] := by
        match ds, l2 with
        | [d1, d2], _ => exact ⟨d1, d2, rfl⟩
      obtain ⟨t0', x1, x2, e0, -, hx, f1, f2⟩ := hv.2 d1 d2 rfl
      cases e0
      obtain rfl : xs = [x1, x2] := by
        obtain ⟨o1, h1⟩ := ha
        obtain ⟨o2, h2⟩ := hx
        rw [h1] at h2
        cases o1 <;> cases o2 <;> cases h2 <;> rfl
      refine iteF ⟨.ref t0, rfl, t0, rfl, ⟨_, ha.sq⟩, ?_⟩
      refine for_tup (xs := [x1, x2]) (fun i σ G => Same H G ∧ (∃ y5 y8, σ = [some (.int (n : Nat)), some (.int (a : Nat)), some (.int (c : Nat)), some (.int met), some (.ref t0), y5, none, none, y8, none]) ∧ ∀ j e, j < i → [d1, d2][j]? = some e → GoodRow n e) ⟨Same.refl H, ⟨none, none, rfl⟩, fun j e h => absurd h (Nat.not_lt_zero _)⟩ ?_ ?_ ?_
      · rintro i σ G _ ⟨s, _, _⟩
        exact (ha.same s).sq
      · rintro i x σ G hxi ⟨s, ⟨y5, y8, rfl⟩, hg⟩
        obtain ⟨e, he, tx⟩ := (hxs.same s).get hxi
        have noe : ¬ GoodRow n e → ∀ H', Same H H' → Q (.bl false) H' := fun z H' s' => no (fun dd => z (by
          obtain ⟨rs, ss, e0, b1, b2, m1, m2, _⟩ := dd
          simp only [PyData.tuple.injEq, List.cons.injEq, and_true] at e0
          obtain ⟨rfl, rfl⟩ := e0
          match i, he with
          | 0, he => cases he; exact ⟨rs, rfl, b1, m1⟩
          | 1, he => cases he; exact ⟨ss, rfl, b2, m2⟩)) H' s'
        obtain ⟨tt, ty1, -, -, kt1, -, -⟩ := tx.ty (K := K)
        refine ⟨x, rfl, _, _, _, _, _, rfl, .ty "tuple", ty1, kt1, _, rfl, ?_⟩
        cases tx with
        | tup np1 ha1 hxs1 =>
          rename_i t1 ys es
          have ln1 := hxs1.len
          refine iteF ⟨.ref t1, rfl, t1, _, rfl, .inr ha1.sq, _, rfl, rfl, _, rfl, ?_⟩
          by_cases l1 : es.length = n
          rotate_left
          · rw [decide_eq_false (show ¬ V.int ((ys.length : Nat) : Int) = V.int (n : Nat) from fun e => l1 (by have := V.int.inj e; omega))]
            refine iteT (noe ?_ G s)
            rintro ⟨rs, e, _, l⟩
            cases e
            rw [List.length_map] at l1
            exact l1 l
          rw [decide_eq_true (show V.int ((ys.length : Nat) : Int) = V.int (n : Nat) from congrArg V.int (by omega))]
          refine iteF ⟨.ref t1, rfl, t1, rfl, ⟨_, ha1.sq⟩, fun C nC => ?_⟩
          refine lc_it (walk_tup (xs := ys)) (fun i G3 => Same G G3 ∧ G3 C = some (.lst (((es.take i).map fun e => !withinD e 0 1).map V.bl))) ⟨same_upd nC, upd_same⟩ (fun i G3 _ h => (ha1.same h.1).sq) (fun k v G3 G4 hk h y => ?_) (fun G3 h => ?_)
          · obtain ⟨s3, hC⟩ := h
            obtain ⟨rfl, hv'⟩ := y
            obtain ⟨f, hf, tf⟩ := hxs1.get hv'
            refine ⟨rfl, yes_ite ?_⟩
            have fin : ∀ bb, bb = (!withinD f 0 1) → ∃ acc, G4 C = some (.lst acc) ∧ acc.length < sizeLine ∧ Same G (upd G4 C (.lst (acc ++ [.bl bb]))) ∧ (upd G4 C (.lst (acc ++ [.bl bb]))) C = some (.lst (((es.take (k + 1)).map fun e => !withinD e 0 1).map V.bl)) := fun bb eb => by
              refine ⟨_, hC, ?_, same_newer s3 nC, ?_⟩
              · rw [List.length_map, List.length_map, List.length_take]
                show _ < 16777216
                omega
              · rw [upd_same, List.take_add_one, hf, List.map_append, List.map_append, eb]
                rfl
            obtain ⟨t3, ty3, ki3, kb3, -, -, -⟩ := (tf.same s3).ty (K := K)
            refine ⟨v, rfl, _, _, _, _, _, rfl, .ty "int", ty3, ki3, _, rfl, _, rfl, ?_⟩
            cases tf with
            | int z =>
              refine iteF ⟨.int z, rfl, _, _, _, _, _, rfl, .ty "bool", ty3, kb3, _, rfl, iteF ?_⟩
              refine ⟨_, rfl, _, _, rfl, rfl, _, rfl, ?_⟩
              by_cases z0 : z < 0
              · rw [decide_eq_true z0]
                exact iteT (fin _ (by show true = !decide (0 ≤ z ∧ z ≤ 1); rw [decide_eq_false (by omega)]; rfl))
              · rw [decide_eq_false z0]
                refine iteF ⟨_, rfl, _, _, rfl, rfl, ?_⟩
                exact fin _ (by
                  show decide (1 < z) = !decide (0 ≤ z ∧ z ≤ 1)
                  by_cases z1 : 1 < z
                  · rw [decide_eq_true z1, decide_eq_false (by omega)]; rfl
                  · rw [decide_eq_false z1, decide_eq_true (by omega)]; rfl)
            | bl bb => exact iteF ⟨.bl bb, rfl, _, _, _, _, _, rfl, .ty "bool", ty3, kb3, _, rfl, iteT (fin _ rfl)⟩
            | _ => exact iteT (fin _ rfl)
          · obtain ⟨s3, hC⟩ := h
            rw [List.take_of_length_le (by omega)] at hC
            refine ⟨C, _, rfl, SqL.mk hC, _, rfl, ?_⟩
            have e1 : (es.map fun e => !withinD e 0 1).any id = !(es.all fun e => withinD e 0 1) := by
              rw [List.any_map, List.not_all_eq_any_not]
              rfl
            rw [e1]
            cases c1 : es.all fun e => withinD e 0 1 with
            | false =>
              refine iteT (noe ?_ G3 (s.trans s3))
              rintro ⟨rs, e, br, _⟩
              cases e
              rw [List.all_eq_true.mpr (bits_within br)] at c1
              cases c1
            | true =>
              refine iteF ⟨s.trans s3, ⟨_, _, rfl⟩, fun j e hj hje => ?_⟩
              by_cases z : j < i
              · exact hg j e z hje
              · obtain rfl : j = i := by omega
                rw [he] at hje
                cases hje
                obtain ⟨rs, rfl, br⟩ := row_ints (List.all_eq_true.mp c1)
                rw [List.length_map] at l1
                exact ⟨rs, rfl, br, l1⟩
        | _ =>
          refine iteT (noe ?_ G s)
          rintro ⟨rs, e, _⟩
          cases e
      · rintro σ G ⟨s, ⟨y5, y8, rfl⟩, hg⟩
        rw [show [x1, x2].length = 2 from rfl] at hg
        obtain ⟨rs, rfl, br, lr⟩ := hg 0 _ (by decide) rfl
        obtain ⟨ss, rfl, bs, ls⟩ := hg 1 _ (by decide) rfl
        obtain ⟨a1, ys, rfl, n1', g1, e1⟩ := f1.2 _ rfl
        obtain ⟨a2, zs, rfl, n2', g2, e2⟩ := f2.2 _ rfl
        obtain rfl := ints_tgA e1
        obtain rfl := ints_tgA e2
        have inv : DueD n a c met (.tuple [.tuple (rs.map PyData.int), .tuple (ss.map PyData.int)]) → rs.sum = a ∧ ss.sum = c ∧ dot rs ss = met := by
          rintro ⟨rs', ss', e, _, _, h1, h2, h3, h4, h5⟩
          simp only [PyData.tuple.injEq, List.cons.injEq, and_true] at e
          obtain rfl := map_int_inj e.1
          obtain rfl := map_int_inj e.2
          exact ⟨h3, h4, h5⟩
        refine ⟨.ref t0, rfl, t0, _, rfl, (ha.same s).sq, rfl, _, _, rfl, _, _, rfl, rfl, ?_⟩
        obtain ⟨o1, od1, oc1, g1'⟩ := g1.same s
        obtain ⟨o2, od2, oc2, g2'⟩ := g2.same s
        refine ⟨.ref a1, rfl, ⟨a1, o1, _, rfl, od1, oc1, g1'⟩, a1, rs, 1, rfl, rfl, (g1.same s).o.sq, _, rfl, rfl, _, rfl, ?_⟩
        rw [cnt_one br]
        by_cases c1 : rs.sum = a
        rotate_left
        · rw [decide_eq_false (show ¬ V.int rs.sum = V.int (a : Nat) from fun e => c1 (V.int.inj e))]
          exact iteT (iteT (no (fun z => c1 (inv z).1) G s))
        rw [decide_eq_true (show V.int rs.sum = V.int (a : Nat) from congrArg V.int c1)]
        refine iteF ⟨.ref a2, rfl, ⟨a2, o2, _, rfl, od2, oc2, g2'⟩, a2, ss, 1, rfl, rfl, (g2.same s).o.sq, _, rfl, rfl, _, rfl, ?_⟩
        rw [cnt_one bs]
        by_cases c2 : ss.sum = c
        rotate_left
        · rw [decide_eq_false (show ¬ V.int ss.sum = V.int (c : Nat) from fun e => c2 (V.int.inj e))]
          exact iteT (no (fun z => c2 (inv z).2.1) G s)
        rw [decide_eq_true (show V.int ss.sum = V.int (c : Nat) from congrArg V.int c2)]
        refine iteF ⟨_, rfl, _, rfl, by omega, by omega, fun C nC => ?_⟩
        refine lc_range (fun i G3 => Same G G3 ∧ G3 C = some (.lst ((meetL rs ss i).map fun (j : Nat) => V.int j))) ⟨same_upd nC, upd_same⟩ (fun i G3 hi h => ?_) (fun G3 h => ?_)
        · obtain ⟨s3, hC⟩ := h
          have i1 : i < rs.length := by omega
          have i2 : i < ss.length := by omega
          have ml := meetL_le rs ss i
          refine ⟨rfl, _, rfl, _, rfl, a1, _, (i : Nat), .int rs[i], rfl, by rw [Int.zero_add], (g1.same (s.trans s3)).o.sq, atI_nat (by rw [List.getElem?_map, List.getElem?_eq_getElem i1]; rfl), _, rfl, _, rfl, a2, _, (i : Nat), .int ss[i], rfl, by rw [Int.zero_add], (g2.same (s.trans s3)).o.sq, atI_nat (by rw [List.getElem?_map, List.getElem?_eq_getElem i2]; rfl), _, _, rfl, rfl, rfl, _, rfl, ?_⟩
          have eg : rs.getD i 0 + ss.getD i 0 = rs[i] + ss[i] := by
            rw [List.getD_eq_getElem?_getD, List.getD_eq_getElem?_getD, List.getElem?_eq_getElem i1, List.getElem?_eq_getElem i2]
            rfl
          rw [meetL_succ, eg]
          by_cases e2 : rs[i] + ss[i] = 2
          · rw [decide_eq_true (show V.int (rs[i] + ss[i]) = V.int 2 from congrArg V.int e2), if_pos e2]
            refine iteT ⟨_, rfl, _, hC, by rw [List.length_map]; show _ < 16777216; omega, same_newer s3 nC, ?_⟩
            rw [upd_same, List.map_append, Int.zero_add]
            rfl
          · rw [decide_eq_false (show ¬ V.int (rs[i] + ss[i]) = V.int 2 from fun z => e2 (V.int.inj z)), if_neg e2, List.append_nil]
            exact iteF ⟨s3, hC⟩
        · obtain ⟨s3, hC⟩ := h
          rw [Int.toNat_natCast, ← lr] at hC
          refine ⟨C, _, rfl, .inl (SqL.mk hC), _, rfl, ?_⟩
          rw [List.length_map, meetL_dot br bs (by omega)]
          exact ⟨rfl, q G3 _ (s.trans s3) ⟨fun e => ⟨rs, ss, rfl, br, bs, lr, ls, c1, c2, V.int.inj (of_decide_eq_true e)⟩, fun z => decide_eq_true (congrArg V.int (inv z).2.2)⟩⟩
    | _ => exact iteT (no (by rintro ⟨rs, ss, e, _⟩; cases e) H (Same.refl H))
/-! a pair of such rows, its places mixed -/
def kd (q : Int × Int) : PyData := .tuple [.int q.1, .int q.2]
def kindsL (n a b m : Nat) : List (Int × Int) := List.replicate m (1, 1) ++ List.replicate (a - m) (1, 0) ++ List.replicate (b - m) (0, 1) ++ List.replicate (n + m - a - b) (0, 0)
theorem perm_sum {xs ys : List Int} (h : xs.Perm ys) : xs.sum = ys.sum := by
  induction h with
  | nil => rfl
  | cons x _ ih => rw [List.sum_cons, List.sum_cons, ih]
  | swap x y l =>
    simp only [List.sum_cons]
    omega
  | trans _ _ a b => rw [a, b]
structure KOk (n a b m : Nat) (ps : List (Int × Int)) : Prop where
  len : ps.length = n
  bit : ∀ q, q ∈ ps → (q.1 = 0 ∨ q.1 = 1) ∧ (q.2 = 0 ∨ q.2 = 1)
  s1 : (ps.map fun q => q.1).sum = a
  s2 : (ps.map fun q => q.2).sum = b
  s3 : (ps.map fun q => q.1 * q.2).sum = m
theorem KOk.perm {n a b m : Nat} {ps qs : List (Int × Int)} (h : KOk n a b m ps) (p : qs.Perm ps) : KOk n a b m qs :=
  ⟨p.length_eq.trans h.len, fun q hq => h.bit q (p.mem_iff.mp hq), (perm_sum (p.map _)).trans h.s1, (perm_sum (p.map _)).trans h.s2, (perm_sum (p.map _)).trans h.s3⟩
theorem sum_repI (k : Nat) (x : Int) : (List.replicate k x).sum = k * x := by
  induction k with
  | zero => rw [List.replicate_zero, List.sum_nil]; omega
  | succ k ih => rw [List.replicate_succ, List.sum_cons, ih, Int.natCast_add, Int.add_mul]; omega
theorem kinds_ok {n a b m : Nat} (h : MetOk n a b m) : KOk n a b m (kindsL n a b m) := by
  have h1 := h.ha
  have h2 := h.hb
  have h3 := h.hn
  refine ⟨?_, fun q hq => ?_, ?_, ?_, ?_⟩
  · simp only [kindsL, List.length_append, List.length_replicate]
    omega
  · unfold kindsL at hq
    rcases List.mem_append.mp hq with hq | hq
    · rcases List.mem_append.mp hq with hq | hq
      · rcases List.mem_append.mp hq with hq | hq
        · rw [List.eq_of_mem_replicate hq]; exact ⟨.inr rfl, .inr rfl⟩
        · rw [List.eq_of_mem_replicate hq]; exact ⟨.inr rfl, .inl rfl⟩
      · rw [List.eq_of_mem_replicate hq]; exact ⟨.inl rfl, .inr rfl⟩
    · rw [List.eq_of_mem_replicate hq]; exact ⟨.inl rfl, .inl rfl⟩
  · simp only [kindsL, List.map_append, List.map_replicate, List.sum_append, sum_repI]
    omega
  · simp only [kindsL, List.map_append, List.map_replicate, List.sum_append, sum_repI]
    omega
  · simp only [kindsL, List.map_append, List.map_replicate, List.sum_append, sum_repI]
    omega
theorem zw_map (ps : List (Int × Int)) : List.zipWith (fun x y => x * y) (ps.map fun q => q.1) (ps.map fun q => q.2) = ps.map fun q => q.1 * q.2 := by
  induction ps with
  | nil => rfl
  | cons q qs ih => rw [List.map_cons, List.map_cons, List.map_cons, List.zipWith_cons_cons, ih]
theorem tgA_rep {p : Addr → Prop} {H : Hp} {v : V} {d : PyData} (h : Tg p H v d) : ∀ k, TgA p H (List.replicate k v) (List.replicate k d)
  | 0 => .nil
  | k + 1 => .cons h (tgA_rep h k)
theorem kd_at {p : Addr} {H : Hp} {t : Addr} {x y : Int} (n : t ≠ p) (h : H t = some (.tup [.int x, .int y])) : Tg (· = p) H (.ref t) (kd (x, y)) := .tup n (.mk h) (.cons (.int _) (.cons (.int _) .nil))
theorem KOk.rows {n a b m : Nat} {ps : List (Int × Int)} (h : KOk n a b m ps) : Bits (ps.map fun q => q.1) ∧ Bits (ps.map fun q => q.2) ∧ (ps.map fun q => q.1).length = n ∧ (ps.map fun q => q.2).length = n ∧ (ps.map fun q => q.1).sum = a ∧ (ps.map fun q => q.2).sum = b ∧ dot (ps.map fun q => q.1) (ps.map fun q => q.2) = m := by
  refine ⟨fun x hx => ?_, fun x hx => ?_, by rw [List.length_map]; exact h.len, by rw [List.length_map]; exact h.len, h.s1, h.s2, ?_⟩
  · obtain ⟨q, hq, rfl⟩ := List.mem_map.mp hx
    exact (h.bit q hq).1
  · obtain ⟨q, hq, rfl⟩ := List.mem_map.mp hx
    exact (h.bit q hq).2
  · rw [← h.s3]
    unfold dot
    rw [zw_map]
theorem lrep_go {H : Hp} {l : Addr} {k : Nat} {v : V} {z : Int} {Q : VK} (e : z = (k : Nat)) (hl : H l = some (.lst [v])) (hk : k ≤ 100000) (q : ∀ G c, Same H G → G c = some (.lst (List.replicate k v)) → Q (.ref c) G) : rRep (.ref l) (.int z) H Q := by
  subst e
  refine ⟨l, k, [v], rfl, rfl, hl, by omega, by omega, ?_, fun p np => q _ p (same_upd np) ?_⟩
  · rw [Int.toNat_natCast]
    show 1 * k ≤ 16777216
    omega
  · rw [upd_same, Int.toNat_natCast, rep_flat]
theorem lcat_go {H : Hp} {a b : Addr} {xs ys : List V} {Q : VK} (ha : H a = some (.lst xs)) (hb : H b = some (.lst ys)) (hl : xs.length + ys.length ≤ 100000) (q : ∀ G c, Same H G → H c = none → G c = some (.lst (xs ++ ys)) → Q (.ref c) G) : rCat (.ref a) (.ref b) H Q :=
  ⟨a, b, xs, ys, rfl, rfl, ha, hb, Nat.le_trans hl (by decide), fun p np => q _ p (same_upd np) np upd_same⟩
/-- a right pair, as it stands -/
structure PairAt (p : Addr) (H : Hp) (t x y : Addr) (rs ss : List Int) : Prop where
  ht : H t = some (.tup [.ref x, .ref y])
  hx : FzT H x (rs.map V.int)
  hy : FzT H y (ss.map V.int)
  nt : t ≠ p
  nx : x ≠ p
  ny : y ≠ p
def RowsOk (n a b m : Nat) (rs ss : List Int) : Prop := Bits rs ∧ Bits ss ∧ rs.length = n ∧ ss.length = n ∧ rs.sum = a ∧ ss.sum = b ∧ dot rs ss = m
def sp__law_made (_ : PySem.W.Frag) : Sp := fun vs H Q _ => ∃ (p : Addr) (N n a b m : Nat), vs = [.ref p, .int (n : Nat), .int (a : Nat), .int (b : Nat), .int (m : Nat)] ∧ Bx H p N ∧ 1 ≤ n ∧ n ≤ 4096 ∧ MetOk n a b m ∧ N ≤ 500000 ∧
  ∀ H' t x y rs ss, But p H H' → Bx H' p (N + 401) → PairAt p H' t x y rs ss → RowsOk n a b m rs ss → Q (.ref t) H'
theorem ok__law_made (T : Defs K mg) (TT : Tabs T base) : FnOk P w K mg base CX0 2 T.f__law_made T.fd__law_made ["_law_box_here", "_law_n", "_law_a", "_law_b", "_law_met"] (sp__law_made K) := by
  have G__law_take : FnOk P w K mg base CX0 1 T.f__law_take T.fd__law_take ["_law_box_here", "_law_many"] (sp__law_take K) := ok__law_take T TT
  refine T.F__law_made.ok sc__law_made (fun vs H Q E h => ?_) (fun cdv A outer s H vs Q E hr h => ?_)
  · obtain ⟨p, N, n, a, b, m, rfl, B, n1, n2, mo, hN, q⟩ := h
    rfl
  · obtain ⟨p, N, n, a, b, m, rfl, B, n1, n2, mo, hN, q⟩ := h
    refine ⟨_, PSs.nox (pss_cons (ps_set (i := 5) sc__law_made.nd rfl (.inl rfl) (pe_op op_cat (pe_op op_cat (pe_op op_cat (pe_op op_rep (pe_lst (pa_cons (pe_tup (pa_cons pe_int (pa_cons pe_int pa_nil))) pa_nil)) (pv 4)) (pe_op op_rep (pe_lst (pa_cons (pe_tup (pa_cons pe_int (pa_cons pe_int pa_nil))) pa_nil)) (pe_op op_sub (pv 2) (pv 4)))) (pe_op op_rep (pe_lst (pa_cons (pe_tup (pa_cons pe_int (pa_cons pe_int pa_nil))) pa_nil)) (pe_op op_sub (pv 3) (pv 4)))) (pe_op op_rep (pe_lst (pa_cons (pe_tup (pa_cons pe_int (pa_cons pe_int pa_nil))) pa_nil)) (pe_op op_add (pe_op op_sub (pe_op op_sub (pv 1) (pv 2)) (pv 3)) (pv 4)))))
    (pss_cons (ps_par (i := 6) (j := 7) (by rfl) sc__law_made.nd rfl rfl (by decide) rfl rfl (pa_cons (pe_call G__law_take (hr.mono (by decide)) (by rfl) T.g__law_take T.F__law_take.kp T.b__law_take .nil pass0 (pa_cons (pv 0) (pa_cons (pv 1) pa_nil))) (pa_cons (pe_lst pa_nil) pa_nil)) (by rfl))
    (pss_cons ((ps_for PassesOwn.never rfl (pi_list (pe_op op_rep (pv 5) (pe_callTy call_int1 (by rfl) T.m_int bt_int (pa_cons (pe_cmpR op_lt (pv 1) pe_int (nomark _)) pa_nil)))) (pg_name (i := 8) sc__law_made.nd rfl (.inl rfl)) (pss_one (ps_expr (pe_bm PySem.F.plainAttrs_list PySem.F.slot_list_insert PySem.F.type_list_insert mt_insert (pv 7) (pa_cons (pe_call G__law_take (hr.mono (by decide)) (by rfl) T.g__law_take T.F__law_take.kp T.b__law_take .nil pass0 (pa_cons (pv 0) (pa_cons (pe_op op_add (pe_callB call_len_seq (by rfl) T.m_len bt_len (pa_cons (pv 7) pa_nil)) pe_int) pa_nil))) (pa_cons (pv 8) pa_nil)))))))
    (pss_cons (ps_set (i := 7) sc__law_made.nd rfl (.inl rfl) (pe_ifExp (pt_cmpR op_lt (pv 1) pe_int (nomark _)) (pv 7) (pe_op op_cat (pe_slice sl_list (pv 5) (po_some (pv 6)) po_none) (pe_slice sl_list (pv 5) po_none (po_some (pv 6))))))
    (pss_one (ps_ret (pe_tup (pa_cons (pe_callTy call_tupleF (by rfl) T.m_tuple bt_tuple (pa_cons (pe_lc (own := [("_law_kind", 8)]) (g := gName 8) (tt := tYes) rfl sc__law_made.nd (pi_list (pv 7)) (blkOk_by (N := N__law_made) (sc := defScope s__law_made) (by decide +kernel)) (fun _ _ _ _ _ => (pg_name (i := 8) sc__law_made.nd rfl (.inl rfl))) (fun _ _ _ _ _ => pts_nil) (fun _ _ _ _ _ => (pe_ix (ixtK (K := K) rfl) (pv 8) pe_int (fun _ _ => rfl)))) pa_nil)) (pa_cons (pe_callTy call_tupleF (by rfl) T.m_tuple bt_tuple (pa_cons (pe_lc (own := [("_law_kind", 8)]) (g := gName 8) (tt := tYes) rfl sc__law_made.nd (pi_list (pv 7)) (blkOk_by (N := N__law_made) (sc := defScope s__law_made) (by decide +kernel)) (fun _ _ _ _ _ => (pg_name (i := 8) sc__law_made.nd rfl (.inl rfl))) (fun _ _ _ _ _ => pts_nil) (fun _ _ _ _ _ => (pe_ix (ixtK (K := K) rfl) (pv 8) pe_int (fun _ _ => rfl)))) pa_nil)) pa_nil))))))))), ?_⟩
    have m1 := mo.ha
    have m2 := mo.hb
    have m3 := mo.hn
    have mn := mo.ab
    refine ⟨(show 2 ≤ sizeLine by decide), fun t1 k1 => ⟨(show 1 ≤ sizeLine by decide), fun l1 k2 => ⟨_, rfl, lrep_go (k := m) rfl upd_same (by omega) fun G1 c1 s1 h1 => ?_⟩⟩⟩
    have ne : ∀ {G : Hp} {t : Addr}, Same H G → G t = none → t ≠ p := fun s e z => by
      obtain ⟨_, _, _, e2, _⟩ := B.same s
      rw [← z, e] at e2
      cases e2
    have T1 : G1 t1 = some (.tup [.int 1, .int 1]) := s1 _ _ (same_upd k2 _ _ upd_same)
    have S1 : Same H G1 := ((same_upd k1).trans (same_upd k2)).trans s1
    have N1 := ne (Same.refl H) k1
    clear s1 k2
    refine ⟨(show 2 ≤ sizeLine by decide), fun t2 k1 => ⟨(show 1 ≤ sizeLine by decide), fun l2 k2 => ⟨_, rfl, _, rfl, _, _, rfl, rfl, lrep_go (k := a - m) (by omega) upd_same (by omega) fun G2 c2 s2 h2 => ?_⟩⟩⟩
    have T2 : G2 t2 = some (.tup [.int 1, .int 0]) := s2 _ _ (same_upd k2 _ _ upd_same)
    have S2 : Same G1 G2 := ((same_upd k1).trans (same_upd k2)).trans s2
    have N2 := ne S1 k1
    refine lcat_go (S2 _ _ h1) h2 (by rw [List.length_replicate, List.length_replicate]; omega) fun G3 c3 s3 _ h3 => ?_
    have S3 := S2.trans s3
    replace T2 := s3 _ _ T2
    replace T1 := S3 _ _ T1
    have S13 := S1.trans S3
    clear s2 s3 k2 k1 h1 h2 S1 S2 S3
    refine ⟨(show 2 ≤ sizeLine by decide), fun t3 k1 => ⟨(show 1 ≤ sizeLine by decide), fun l3 k2 => ⟨_, rfl, _, rfl, _, _, rfl, rfl, lrep_go (k := b - m) (by omega) upd_same (by omega) fun G4 c4 s4 h4 => ?_⟩⟩⟩
    have T3 : G4 t3 = some (.tup [.int 0, .int 1]) := s4 _ _ (same_upd k2 _ _ upd_same)
    have S4 : Same G3 G4 := ((same_upd k1).trans (same_upd k2)).trans s4
    have N3 := ne S13 k1
    refine lcat_go (S4 _ _ h3) h4 (by rw [List.length_append, List.length_replicate, List.length_replicate, List.length_replicate]; omega) fun G5 c5 s5 _ h5 => ?_
    have S5 := S4.trans s5
    replace T3 := s5 _ _ T3
    replace T2 := S5 _ _ T2
    replace T1 := S5 _ _ T1
    have S15 := S13.trans S5
    clear s4 s5 k2 k1 h3 h4 S13 S4 S5
    refine ⟨(show 2 ≤ sizeLine by decide), fun t4 k1 => ⟨(show 1 ≤ sizeLine by decide), fun l4 k2 => ⟨_, rfl, _, rfl, _, _, rfl, rfl, _, rfl, _, _, rfl, rfl, _, rfl, _, _, rfl, rfl, lrep_go (k := n + m - a - b) (by omega) upd_same (by omega) fun G6 c6 s6 h6 => ?_⟩⟩⟩
    have T4 : G6 t4 = some (.tup [.int 0, .int 0]) := s6 _ _ (same_upd k2 _ _ upd_same)
    have S6 : Same G5 G6 := ((same_upd k1).trans (same_upd k2)).trans s6
    have N4 := ne S15 k1
    refine lcat_go (S6 _ _ h5) h6 (by simp only [List.length_append, List.length_replicate]; omega) fun G7 L s7 nL hL => ?_
    have Lp : L ≠ p := ne (S15.trans S6) nL
    have S7 := S6.trans s7
    replace T4 := s7 _ _ T4
    replace T3 := S7 _ _ T3
    replace T2 := S7 _ _ T2
    replace T1 := S7 _ _ T1
    have S17 := S15.trans S7
    clear s6 s7 k2 k1 h5 h6 S15 S6 S7
    have ks : TgA (· = p) G7 (List.replicate m (.ref t1) ++ List.replicate (a - m) (.ref t2) ++ List.replicate (b - m) (.ref t3) ++ List.replicate (n + m - a - b) (.ref t4)) ((kindsL n a b m).map kd) := by
      have e : (kindsL n a b m).map kd = List.replicate m (kd (1, 1)) ++ List.replicate (a - m) (kd (1, 0)) ++ List.replicate (b - m) (kd (0, 1)) ++ List.replicate (n + m - a - b) (kd (0, 0)) := by
        simp only [kindsL, List.map_append, List.map_replicate]
      rw [e]
      exact (((tgA_rep (kd_at N1 T1) _).app (tgA_rep (kd_at N2 T2) _)).app (tgA_rep (kd_at N3 T3) _)).app (tgA_rep (kd_at N4 T4) _)
    generalize (List.replicate m (V.ref t1) ++ List.replicate (a - m) (V.ref t2) ++ List.replicate (b - m) (V.ref t3) ++ List.replicate (n + m - a - b) (V.ref t4)) = vs at hL ks
    have hko := kinds_ok mo
    generalize kindsL n a b m = ps at ks hko
    clear T1 T2 T3 T4 N1 N2 N3 N4 m1 m2 m3
    have lv := ks.len
    rw [List.length_map, hko.len] at lv
    have B7 := B.same S17
    refine ⟨.ref p, rfl, _, rfl, p, (n : Nat), N, rfl, B7, by omega, by omega, by omega, fun G8 r b8 B8 l8 u8 => ⟨by decide, fun D nD => ?_⟩⟩
    have s9 := same_upd nD (o := .lst [])
    have pD : p ≠ D := fun z => by
      obtain ⟨_, _, _, e2, _⟩ := B8
      rw [z, nD] at e2
      cases e2
    have LD : L ≠ D := fun z => by
      have e2 := b8 _ _ Lp hL
      rw [z, nD] at e2
      cases e2
    have k9 : TgA (fun a => a = p ∨ a = D) (upd G8 D (.lst [])) vs (ps.map kd) := ks.to fun x o h e => ⟨s9 _ _ (b8 _ _ h e), fun z => by
      rcases z with z | z
      · exact h z
      · have e2 := b8 _ _ h e
        rw [z, nD] at e2
        cases e2⟩
    have b9 : But p H (upd G8 D (.lst [])) := ((same_but S17).trans b8).trans (same_but s9)
    have nDH : H D = none := by
      cases e : H D with
      | none => rfl
      | some o =>
        rw [b8 _ _ (fun z => pD z.symm) (S17 _ _ e)] at nD
        cases nD
    have B9 := B8.same s9
    have hD : (upd G8 D (.lst [])) D = some (.lst []) := upd_same
    have hL9 := s9 _ _ (b8 _ _ Lp hL)
    generalize upd G8 D (.lst []) = G9 at k9 b9 B9 hD hL9 ⊢
    clear b8 B8 nD s9 ks hL nL
    refine ⟨_, _, rfl, ?_⟩
    have kind_of : ∀ {E : Addr → Prop} {G : Hp} {us : List V} {qs : List (Int × Int)} (t : TgA E G us (qs.map kd)) {i : Nat} {v : V}, us[i]? = some v → ∃ c q, v = .ref c ∧ qs[i]? = some q ∧ ¬ E c ∧ TupO G c [.int q.1, .int q.2] ∧ Tg E G v (kd q) := by
      intro E G us qs t i v e
      obtain ⟨d, hd, td⟩ := t.get e
      rw [List.getElem?_map] at hd
      obtain ⟨q, hq, rfl⟩ := Option.map_eq_some_iff.mp hd
      obtain ⟨c, xs, rfl, nc, hc, ta⟩ := td.tupv
      cases ta with
      | cons t1 ta =>
      cases ta with
      | cons t2 ta =>
      cases ta
      cases t1
      cases t2
      exact ⟨c, q, rfl, hq, nc, hc, td⟩
    let E0' : Addr → Prop := fun x => x = p ∨ x = D
    refine nx_via (σ := [some (.ref p), some (.int (n : Nat)), some (.int (a : Nat)), some (.int (b : Nat)), some (.int (m : Nat)), some (.ref L), some (.int r), some (.ref D), none]) (fun σ G => ∃ y8, σ = [some (.ref p), some (.int (n : Nat)), some (.int (a : Nat)), some (.int (b : Nat)), some (.int (m : Nat)), some (.ref L), some (.int r), some (.ref D), y8] ∧ But p H G ∧ Bx G p (N + 401) ∧ G L = some (.lst vs) ∧ TgA E0' G vs (ps.map kd) ∧ (n < 401 → ∃ (us : List V) (qs : List (Int × Int)), G D = some (.lst us) ∧ TgA E0' G us (qs.map kd) ∧ qs.Perm ps)) (fun N' hN' => ?_) ?_
    · refine ⟨_, rfl, _, rfl, _, _, rfl, rfl, .inr ⟨_, rfl, ?_⟩⟩
      by_cases n4 : n < 401
      · rw [decide_eq_true (show ((n : Nat) : Int) < 401 by omega)]
        refine ⟨L, 1, vs, rfl, rfl, hL9, by decide, by decide, by rw [lv]; show n * 1 ≤ 16777216; omega, fun W nW => ?_⟩
        have e1 : (List.replicate (1 : Int).toNat vs).flatten = vs := by
          show (List.replicate 1 vs).flatten = vs
          rw [List.replicate_one, List.flatten_singleton]
        rw [e1]
        have sW := same_upd nW (o := .lst vs)
        have hW : (upd G9 W (.lst vs)) W = some (.lst vs) := upd_same
        have WD : W ≠ D := fun z => by
          rw [z, hD] at nW
          cases nW
        have Wp : W ≠ p := fun z => by
          obtain ⟨_, _, _, e2, _⟩ := B9
          rw [← z, nW] at e2
          cases e2
        have bW := b9.trans (same_but sW)
        have BW := B9.same sW
        have kW := k9.same sW
        have hDW := sW _ _ hD
        have hLW := sW _ _ hL9
        generalize upd G9 W (.lst vs) = GW at hW bW BW kW hDW hLW ⊢
        refine ⟨W, rfl, ⟨_, SqL.mk hW⟩, for_list (xs := vs) (fun i σ G => (∃ y8, σ = [some (.ref p), some (.int (n : Nat)), some (.int (a : Nat)), some (.int (b : Nat)), some (.int (m : Nat)), some (.ref L), some (.int r), some (.ref D), y8]) ∧ But p H G ∧ Bx G p (N + 1 + i) ∧ G L = some (.lst vs) ∧ G W = some (.lst vs) ∧ TgA E0' G vs (ps.map kd) ∧ ∃ (us : List V) (qs : List (Int × Int)), G D = some (.lst us) ∧ TgA E0' G us (qs.map kd) ∧ qs.Perm (ps.take i)) ⟨⟨none, rfl⟩, bW, BW, hLW, hW, kW, [], [], hDW, .nil, .nil⟩ ?_ ?_ ?_⟩
        · rintro i σ G _ ⟨_, _, _, _, h, _⟩
          exact SqL.mk h
        · rintro i x σ G hx ⟨⟨y8, rfl⟩, bG, BG, hLG, hWG, kG, us, qs, hDG, tG, pG⟩
          have il := (List.getElem?_eq_some_iff.mp hx).1
          obtain ⟨c, q0, rfl, hq0, nc, hc, tgc⟩ := kind_of kG hx
          have lus := tG.len
          rw [List.length_map, pG.length_eq, List.length_take] at lus
          have lps := hko.len
          refine ⟨.ref D, rfl, .inl ⟨rfl, _, SqL.mk hDG⟩, ?_⟩
          refine ⟨.ref p, rfl, .ref D, rfl, D, us, rfl, .inl (SqL.mk hDG), _, _, rfl, rfl, p, _, N + 1 + i, rfl, BG, by omega, by omega, by omega, fun G2 r2 b2 B2 l2 u2 => ?_⟩
          obtain ⟨j, rfl⟩ := nat_of l2
          refine ⟨_, rfl, D, us, (j : Nat), .ref c, rfl, rfl, b2 _ _ (fun z => pD z.symm) hDG, by show _ < 16777216; omega, by omega, by omega, ?_⟩
          have bU : But p H (upd G2 D (.lst (us.take (Int.toNat (j : Nat)) ++ [.ref c] ++ us.drop (Int.toNat (j : Nat))))) := fun x o hx e => by
            rw [upd_ne (fun z => by rw [z, nDH] at e; cases e)]
            exact b2 _ _ hx (bG _ _ hx e)
          have tK : ∀ {v : List V} {d : List PyData}, TgA E0' G v d → TgA E0' (upd G2 D (.lst (us.take (Int.toNat (j : Nat)) ++ [.ref c] ++ us.drop (Int.toNat (j : Nat))))) v d := fun t => t.keep fun x o h e => by
            rw [upd_ne (fun z => h (.inr z))]
            exact b2 _ _ (fun z => h (.inl z)) e
          refine ⟨⟨_, rfl⟩, bU, (B2.other (fun z => pD z.symm)).mono (by omega), ?_, ?_, tK kG, _, qs.take j ++ [q0] ++ qs.drop j, upd_same, ?_, ?_⟩
          · rw [upd_ne LD]
            exact b2 _ _ Lp hLG
          · rw [upd_ne WD]
            exact b2 _ _ Wp hWG
          · have e := (tK tG).ins (tgc.keep (H' := upd G2 D (.lst (us.take (Int.toNat (j : Nat)) ++ [.ref c] ++ us.drop (Int.toNat (j : Nat))))) fun x o h e => by
              rw [upd_ne (fun z => h (.inr z))]
              exact b2 _ _ (fun z => h (.inl z)) e) j
            rw [Int.toNat_natCast, List.map_append, List.map_append, List.map_take, List.map_drop]
            rw [Int.toNat_natCast] at e
            exact e
          · rw [List.take_add_one, hq0]
            refine List.Perm.trans ?_ (pG.append_right _)
            rw [List.append_assoc]
            refine (List.perm_append_comm_assoc _ _ _).trans ?_
            rw [List.take_append_drop]
            exact List.perm_append_comm
        · rintro σ G ⟨⟨y8, rfl⟩, bG, BG, hLG, hWG, kG, us, qs, hDG, tG, pG⟩
          rw [lv] at BG pG
          rw [List.take_of_length_le (by rw [hko.len]; exact Nat.le_refl _)] at pG
          exact hN' _ _ ⟨_, rfl, bG, BG.mono (by omega), hLG, kG, fun _ => ⟨us, qs, hDG, tG, pG⟩⟩
      · rw [decide_eq_false (show ¬ ((n : Nat) : Int) < 401 by omega)]
        refine ⟨L, 0, vs, rfl, rfl, hL9, by decide, by decide, by show _ * 0 ≤ 16777216; omega, fun W nW => ?_⟩
        refine ⟨W, rfl, ⟨[], SqL.mk upd_same⟩, for_list (xs := []) (fun i σ G => σ = [some (.ref p), some (.int (n : Nat)), some (.int (a : Nat)), some (.int (b : Nat)), some (.int (m : Nat)), some (.ref L), some (.int r), some (.ref D), none] ∧ G = upd G9 W (.lst [])) ⟨rfl, rfl⟩ ?_ ?_ ?_⟩
        · rintro i σ G _ ⟨_, rfl⟩
          exact SqL.mk upd_same
        · rintro i x σ G hx _
          cases hx
        · rintro σ G ⟨rfl, rfl⟩
          have sW := same_upd nW (o := .lst [])
          exact hN' _ _ ⟨_, rfl, b9.trans (same_but sW), (B9.same sW).mono (by omega), sW _ _ hL9, k9.same sW, fun z => absurd z n4⟩
    rintro σ G ⟨y8, rfl, bG, BG, hLG, kG, hh⟩
    refine seq_via (fun σ Z => ∃ (y8 : Option V) (M : Addr) (us : List V) (qs : List (Int × Int)), σ = [some (.ref p), some (.int (n : Nat)), some (.int (a : Nat)), some (.int (b : Nat)), some (.int (m : Nat)), some (.ref L), some (.int r), some (.ref M), y8] ∧ But p H Z ∧ Bx Z p (N + 401) ∧ Z M = some (.lst us) ∧ TgA E0' Z us (qs.map kd) ∧ qs.Perm ps) (fun N' hN' => ?_) ?_
    · refine ⟨_, rfl, _, _, rfl, rfl, _, rfl, ?_⟩
      by_cases n4 : n < 401
      · rw [decide_eq_true (show ((n : Nat) : Int) < 401 by omega)]
        obtain ⟨us, qs, h1, h2, h3⟩ := hh n4
        refine iteT ⟨_, rfl, ?_⟩
        exact hN' _ _ ⟨_, D, us, qs, rfl, bG, BG, h1, h2, h3⟩
      · rw [decide_eq_false (show ¬ ((n : Nat) : Int) < 401 by omega)]
        obtain ⟨j, rfl⟩ := nat_of l8
        have jl : j < vs.length := by omega
        refine iteF ⟨.ref L, rfl, _, rfl, _, rfl, L, vs, rfl, SqL.mk hLG, fun x1 y1 => ?_⟩
        have z1 := same_upd y1 (o := .lst (cutV vs (some (j : Nat)) none))
        refine ⟨.ref L, rfl, _, rfl, _, rfl, L, vs, rfl, SqL.mk (z1 _ _ hLG), fun x2 y2 => ?_⟩
        have z2 := same_upd y2 (o := .lst (cutV vs none (some (j : Nat))))
        refine lcat_go (z2 _ _ upd_same) upd_same (by rw [cut_hi, cut_lo vs j (by omega), List.length_drop, List.length_take]; omega) fun Z M z3 _ hM => ?_
        rw [cut_hi, cut_lo vs j (by omega)] at hM
        have zz := z1.trans (z2.trans z3)
        refine hN' _ _ ⟨_, M, _, ps.drop j ++ ps.take j, rfl, bG.trans (same_but zz), BG.same zz, hM, ?_, ?_⟩
        · have e := kG.same zz
          rw [List.map_append, List.map_drop, List.map_take]
          exact (e.split j).2.app (e.split j).1
        · have e := List.perm_append_comm (l₁ := ps.drop j) (l₂ := ps.take j)
          rw [List.take_append_drop] at e
          exact e
    rintro σ Z ⟨y8, M, us, qs, rfl, bZ, BZ, hM, tZ, pZ⟩
    have lus := tZ.len
    rw [List.length_map] at lus
    have lqs := pZ.length_eq.trans hko.len
    refine ⟨.ref M, rfl, M, rfl, ⟨_, SqL.mk hM⟩, fun C nC => ?_⟩
    refine lc_it (walk_list (xs := us)) (fun i G => Same Z G ∧ G C = some (.lst (((qs.take i).map fun q => q.1).map V.int))) ⟨same_upd nC, upd_same⟩ (fun i G _ h => SqL.mk (h.1 _ _ hM)) (fun i v G G' hi h y => ?_) (fun G h => ?_)
    · obtain ⟨sG, hC⟩ := h
      obtain ⟨rfl, hv⟩ := y
      obtain ⟨c, q0, rfl, hq0, nc, hc, tgc⟩ := kind_of tZ hv
      refine ⟨rfl, yes_ite ⟨.ref c, rfl, c, _, 0, _, rfl, rfl, (hc.same sG).sq, atI_nat (j := 0) rfl, _, hC, ?_, same_newer sG nC, ?_⟩⟩
      · have := (List.getElem?_eq_some_iff.mp hq0).1
        rw [List.length_map, List.length_map, List.length_take]
        show _ < 16777216
        omega
      · rw [upd_same, List.take_add_one, hq0, List.map_append, List.map_append]
        rfl
    obtain ⟨sG, hC⟩ := h
    rw [lus, List.take_of_length_le (Nat.le_refl _)] at hC
    refine ⟨C, _, rfl, SqL.mk hC, fun x ob nx od oc => ?_⟩
    have sx := same_upd nx (o := tupO (some ob) ((qs.map fun q => q.1).map V.int))
    have fx : FzT (upd G x (tupO (some ob) ((qs.map fun q => q.1).map V.int))) x ((qs.map fun q => q.1).map V.int) := ⟨ob, od, oc, upd_same⟩
    have xp : x ≠ p := fun z => by
      obtain ⟨_, _, _, e2, _⟩ := BZ.same sG
      rw [← z, nx] at e2
      cases e2
    have s1 := sG.trans sx
    generalize upd G x (tupO (some ob) ((qs.map fun q => q.1).map V.int)) = G1 at s1 fx ⊢
    clear sG sx hC nC
    refine ⟨.ref M, rfl, M, rfl, ⟨_, SqL.mk (s1 _ _ hM)⟩, fun C nC => ?_⟩
    refine lc_it (walk_list (xs := us)) (fun i G => Same G1 G ∧ G C = some (.lst (((qs.take i).map fun q => q.2).map V.int))) ⟨same_upd nC, upd_same⟩ (fun i G _ h => SqL.mk (h.1 _ _ (s1 _ _ hM))) (fun i v G G' hi h y => ?_) (fun G h => ?_)
    · obtain ⟨sG, hC⟩ := h
      obtain ⟨rfl, hv⟩ := y
      obtain ⟨c, q0, rfl, hq0, nc, hc, tgc⟩ := kind_of tZ hv
      refine ⟨rfl, yes_ite ⟨.ref c, rfl, c, _, 1, _, rfl, rfl, (hc.same (s1.trans sG)).sq, atI_nat (j := 1) rfl, _, hC, ?_, same_newer sG nC, ?_⟩⟩
      · have := (List.getElem?_eq_some_iff.mp hq0).1
        rw [List.length_map, List.length_map, List.length_take]
        show _ < 16777216
        omega
      · rw [upd_same, List.take_add_one, hq0, List.map_append, List.map_append]
        rfl
    obtain ⟨sG, hC⟩ := h
    rw [lus, List.take_of_length_le (Nat.le_refl _)] at hC
    refine ⟨C, _, rfl, SqL.mk hC, fun y ob2 ny od2 oc2 => ?_⟩
    have sy := same_upd ny (o := tupO (some ob2) ((qs.map fun q => q.2).map V.int))
    have fy : FzT (upd G y (tupO (some ob2) ((qs.map fun q => q.2).map V.int))) y ((qs.map fun q => q.2).map V.int) := ⟨ob2, od2, oc2, upd_same⟩
    have B2 := (BZ.same s1).same (sG.trans sy)
    have yp : y ≠ p := fun z => by
      obtain ⟨_, _, _, e2, _⟩ := (BZ.same s1).same sG
      rw [← z, ny] at e2
      cases e2
    have fx2 := fx.same (sG.trans sy)
    have s2 := s1.trans (sG.trans sy)
    generalize upd G y (tupO (some ob2) ((qs.map fun q => q.2).map V.int)) = G2 at s2 fx2 fy B2 ⊢
    refine ⟨(show 2 ≤ sizeLine by decide), fun t nt => ?_⟩
    have st := same_upd nt (o := .tup [.ref x, .ref y])
    have tp : t ≠ p := fun z => by
      obtain ⟨_, _, _, e2, _⟩ := B2
      rw [← z, nt] at e2
      cases e2
    exact q _ t x y _ _ (bZ.trans (same_but (s2.trans st))) (B2.same st) ⟨upd_same, fx2.same st, fy.same st, tp, xp, yp⟩ (hko.perm pZ).rows
/-! one step otherwise -/
theorem PairAt.but {p : Addr} {H G : Hp} {t x y : Addr} {rs ss : List Int} (h : PairAt p H t x y rs ss) (s : But p H G) : PairAt p G t x y rs ss := ⟨s _ _ h.nt h.ht, h.hx.but h.nx s, h.hy.but h.ny s, h.nt, h.nx, h.ny⟩
theorem th_pair {p a : Addr} {H : Hp} {x1 x2 : V} {d1 d2 : PyData} (np : a ≠ p) (h : TupO H a [x1, x2]) (r1 : RowF p H x1 d1) (r2 : RowF p H x2 d2) : Th p H (.ref a) (.tuple [d1, d2]) :=
  ⟨.tup np h (.cons r1.1 (.cons r2.1 .nil)), fun e1 e2 e => by
    cases e
    exact ⟨a, x1, x2, rfl, np, h, r1, r2⟩⟩
theorem rowF_of {p x : Addr} {H : Hp} {rs : List Int} (np : x ≠ p) (h : FzT H x (rs.map V.int)) : RowF p H (.ref x) (.tuple (rs.map PyData.int)) :=
  ⟨.tup np h.o (tg_ints rs), fun es e => by
    cases e
    exact ⟨x, _, rfl, np, h, tg_ints rs⟩⟩
def sp__law_otherwise (_ : PySem.W.Frag) : Sp := fun vs H Q _ => ∃ (p t x y : Addr) (N : Nat) (rs ss : List Int), vs = [.ref p, .ref t] ∧ Bx H p N ∧ N ≤ 500000 ∧ PairAt p H t x y rs ss ∧ Bits rs ∧ Bits ss ∧ 1 ≤ rs.length ∧ rs.length ≤ 4096 ∧ 1 ≤ ss.length ∧ ss.length ≤ 4096 ∧
  ∀ H' v d, But p H H' → Bx H' p (N + 6) → Th p H' v d → Q v H'
theorem ok__law_otherwise (T : Defs K mg) (TT : Tabs T base) : FnOk P w K mg base CX0 2 T.f__law_otherwise T.fd__law_otherwise ["_law_box_here", "_law_pair"] (sp__law_otherwise K) := by
  have G__law_take : FnOk P w K mg base CX0 1 T.f__law_take T.fd__law_take ["_law_box_here", "_law_many"] (sp__law_take K) := ok__law_take T TT
  refine T.F__law_otherwise.ok sc__law_otherwise (fun vs H Q E h => ?_) (fun cdv A outer s H vs Q E hr h => ?_)
  · obtain ⟨p, t, x, y, N, rs, ss, rfl, B, hN, P0, br, bs, r1, r2, s1, s2, q⟩ := h
    rfl
  · obtain ⟨p, t, x, y, N, rs, ss, rfl, B, hN, P0, br, bs, r1, r2, s1, s2, q⟩ := h
    refine ⟨_, PSs.nox (pss_cons (ps_par (i := 2) (j := 3) (by rfl) sc__law_otherwise.nd rfl rfl (by decide) rfl rfl (pa_cons (pe_call G__law_take (hr.mono (by decide)) (by rfl) T.g__law_take T.F__law_take.kp T.b__law_take .nil pass0 (pa_cons (pv 0) (pa_cons pe_int pa_nil))) (pa_cons (pe_call G__law_take (hr.mono (by decide)) (by rfl) T.g__law_take T.F__law_take.kp T.b__law_take .nil pass0 (pa_cons (pv 0) (pa_cons pe_int pa_nil))) pa_nil)) (by rfl))
    (pss_cons (ps_par (i := 4) (j := 5) (by rfl) sc__law_otherwise.nd rfl rfl (by decide) rfl rfl (pa_cons (pe_callTy call_list_of (by rfl) T.m_list bt_list (pa_cons (pe_ix ix_tup (pv 1) (pv 3) (fun _ _ => rfl)) pa_nil)) (pa_cons (pe_call G__law_take (hr.mono (by decide)) (by rfl) T.g__law_take T.F__law_take.kp T.b__law_take .nil pass0 (pa_cons (pv 0) (pa_cons (pe_callB call_len_seq (by rfl) T.m_len bt_len (pa_cons (pe_ix ix_tup (pv 1) (pv 3) (fun _ _ => rfl)) pa_nil)) pa_nil))) pa_nil)) (by rfl))
    (pss_cons (ps_if (pt_cmpR op_lt (pv 2) pe_int (nomark _)) (pss_one (ps_asg (pe_ix ix_list (pe_lst (pa_cons (pe_op op_sub pe_int (pe_ix ix_list (pv 4) (pv 5) (fun _ _ => rfl))) (pa_cons (pe_cmpR op_eq (pe_ix ix_list (pv 4) (pv 5) (fun _ _ => rfl)) pe_int (nomark _)) (pa_cons (pe_ix ix_list (pe_lst (pa_cons pe_int (pa_cons pe_non (pa_cons pe_str (pa_cons (pe_un un_neg pe_int) (pa_cons (pe_lst pa_nil) (pa_cons (pe_lst (pa_cons pe_int pa_nil)) (pa_cons (pe_tup (pa_cons (pe_lst pa_nil) pa_nil)) pa_nil)))))))) (pe_call G__law_take (hr.mono (by decide)) (by rfl) T.g__law_take T.F__law_take.kp T.b__law_take .nil pass0 (pa_cons (pv 0) (pa_cons pe_int pa_nil))) (fun _ _ => rfl)) pa_nil)))) (pv 2) (fun _ _ => rfl)) (pg_sub (pv 4) (pv 5) set_list))) (pss_one (ps_if (pt_cmpR op_lt (pv 2) pe_int (nomark _)) (pss_one (ps_set (i := 4) sc__law_otherwise.nd rfl (.inl rfl) (pe_ix ix_list (pe_lst (pa_cons (pe_op op_cat (pe_slice sl_list (pv 4) po_none (po_some (pv 5))) (pe_slice sl_list (pv 4) (po_some (pe_op op_add (pv 5) pe_int)) po_none)) (pa_cons (pe_op op_cat (pe_op op_cat (pe_slice sl_list (pv 4) po_none (po_some (pv 5))) (pe_lst (pa_cons (pe_call G__law_take (hr.mono (by decide)) (by rfl) T.g__law_take T.F__law_take.kp T.b__law_take .nil pass0 (pa_cons (pv 0) (pa_cons pe_int pa_nil))) pa_nil))) (pe_slice sl_list (pv 4) (po_some (pv 5)) po_none)) pa_nil))) (pe_op op_sub (pv 2) pe_int) (fun _ _ => rfl)))) (pss_one (ps_if (pt_cmpR op_eq (pv 2) pe_int (nomark _)) (pss_cons (ps_set (i := 6) sc__law_otherwise.nd rfl (.inl rfl) (pe_call G__law_take (hr.mono (by decide)) (by rfl) T.g__law_take T.F__law_take.kp T.b__law_take .nil pass0 (pa_cons (pv 0) (pa_cons (pe_callB call_len_seq (by rfl) T.m_len bt_len (pa_cons (pv 4) pa_nil)) pa_nil))))
    (pss_one (ps_asg (pe_tup (pa_cons (pe_ix ix_list (pv 4) (pv 6) (fun _ _ => rfl)) (pa_cons (pe_ix ix_list (pv 4) (pv 5) (fun _ _ => rfl)) pa_nil))) (pg_tup rfl (pgs_cons (pg_sub (pv 4) (pv 5) set_list) (pgs_cons (pg_sub (pv 4) (pv 6) set_list) pgs_nil)))))) (pss_one (ps_if (pt_cmpR op_eq (pv 2) pe_int (nomark _)) (pss_one (ps_ret (pe_ix ix_list (pe_lst (pa_cons (pe_callTy call_list_of (by rfl) T.m_list bt_list (pa_cons (pv 1) pa_nil)) (pa_cons ((pe_revT (pv 1))) (pa_cons (pe_op op_catS (pv 1) (pe_slice sl_tupS (pv 1) po_none (po_some pe_int))) (pa_cons (pe_slice sl_tupS (pv 1) po_none (po_some pe_int)) (pa_cons (pe_tup (pa_cons (pe_ix ix_tup (pv 1) pe_int (fun _ _ => rfl)) (pa_cons (pe_ix ix_tup (pv 1) pe_int (fun _ _ => rfl)) pa_nil))) (pa_cons (pe_tup (pa_cons (pv 1) pa_nil)) pa_nil))))))) (pe_call G__law_take (hr.mono (by decide)) (by rfl) T.g__law_take T.F__law_take.kp T.b__law_take .nil pass0 (pa_cons (pv 0) (pa_cons pe_int pa_nil))) (fun _ _ => rfl)))) pss_nil)))))))
    (pss_cons (ps_set (i := 4) sc__law_otherwise.nd rfl (.inl rfl) (pe_ifExp (pt_cmpR op_eq (pv 2) pe_int (nomark _)) (pv 4) (pe_callTy call_tupleF (by rfl) T.m_tuple bt_tuple (pa_cons (pv 4) pa_nil))))
    (pss_one (ps_ret (pe_ifExp (pt_cmpR op_eq (pv 3) pe_int (nomark _)) (pe_tup (pa_cons (pv 4) (pa_cons (pe_ix ix_tup (pv 1) pe_int (fun _ _ => rfl)) pa_nil))) (pe_tup (pa_cons (pe_ix ix_tup (pv 1) pe_int (fun _ _ => rfl)) (pa_cons (pv 4) pa_nil)))))))))), ?_⟩
    refine ⟨.ref p, rfl, _, 10, N, rfl, B, by decide, by decide, by omega, fun H1 r u1 B1 l1 h1 => ?_⟩
    refine ⟨.ref p, rfl, _, 2, N + 1, rfl, B1, by decide, by decide, by omega, fun H2 w u2 B2 l2 h2 => ⟨_, _, rfl, ?_⟩⟩
    have c2 : But p H H2 := u1.trans u2
    have P2 := P0.but c2
    obtain ⟨z, us, ez, fz, bu, z1, z2, zp⟩ : ∃ z us, atI [.ref x, .ref y] w = some (V.ref z) ∧ FzT H2 z (us.map V.int) ∧ Bits us ∧ 1 ≤ us.length ∧ us.length ≤ 4096 ∧ z ≠ p := by
      have : w = 0 ∨ w = 1 := by omega
      rcases this with rfl | rfl
      · exact ⟨x, rs, rfl, P2.hx, br, r1, r2, P2.nx⟩
      · exact ⟨y, ss, rfl, P2.hy, bs, s1, s2, P2.ny⟩
    refine ⟨.ref t, rfl, _, rfl, t, _, w, .ref z, rfl, rfl, SqT.mk P2.ht, ez, z, _, rfl, .inr fz.o.sq, fun W nW => ?_⟩
    have sW := same_upd nW (o := .lst (us.map V.int))
    have Wp : W ≠ p := fun e => by
      obtain ⟨_, _, _, e2, _⟩ := B2
      rw [← e, nW] at e2
      cases e2
    refine ⟨.ref p, rfl, .ref t, rfl, _, rfl, t, _, w, .ref z, rfl, rfl, SqT.mk (sW _ _ P2.ht), ez, z, _, rfl, .inr (fz.same sW).o.sq, p, _, N + 2, rfl, B2.same sW, by rw [List.length_map]; omega, by rw [List.length_map]; omega, by omega, fun H3 at_ u3 B3 l3 h3 => ⟨_, _, rfl, ?_⟩⟩
    rw [List.length_map] at h3
    obtain ⟨at_, rfl⟩ := nat_of l3
    have c3 : But p H H3 := (c2.trans (same_but sW)).trans u3
    have P3 := P0.but c3
    have hW : H3 W = some (.lst (us.map V.int)) := u3 _ _ Wp upd_same
    have nW0 : H W = none := by
      cases e : H W with
      | none => rfl
      | some o =>
        rw [c2 _ _ Wp e] at nW
        cases nW
    clear sW u3 fz P2 ez
    have way : r = 0 ∨ r = 1 ∨ r = 2 ∨ r = 3 ∨ r = 4 ∨ r = 5 ∨ r = 6 ∨ r = 7 ∨ r = 8 ∨ r = 9 := by omega
    refine nx_via (σ := [some (.ref p), some (.ref t), some (.int r), some (.int w), some (.ref W), some (.int (at_ : Nat)), none]) (fun σ Z => ∃ (y6 : Option V) (W : Addr) (ws : List V) (es : List PyData), σ = [some (.ref p), some (.ref t), some (.int r), some (.int w), some (.ref W), some (.int (at_ : Nat)), y6] ∧ But p H Z ∧ Bx Z p (N + 6) ∧ W ≠ p ∧ Z W = some (.lst ws) ∧ TgA (· = p) Z ws es) (fun N' hN' => ?_) ?_
    · refine ⟨_, rfl, _, _, rfl, rfl, _, rfl, ?_⟩
      by_cases g1 : r < 3
      · rw [decide_eq_true g1]
        have il : at_ < us.length := by omega
        have hu : atI (us.map V.int) (at_ : Nat) = some (.int us[at_]) := atI_nat (by rw [List.getElem?_map, List.getElem?_eq_getElem il]; rfl)
        refine iteT ⟨_, rfl, _, rfl, W, _, (at_ : Nat), _, rfl, rfl, SqL.mk hW, hu, _, _, rfl, rfl, ?_⟩
        refine ⟨_, rfl, _, rfl, W, _, (at_ : Nat), _, rfl, rfl, SqL.mk hW, hu, rfl, ?_⟩
        have nw : ∀ {G : Hp} {a : Addr}, Same H3 G → G a = none → ¬ (a = p ∨ a = W) := fun s n e => by
          rcases e with e | e
          · obtain ⟨_, _, _, e2, _⟩ := B3.same s
            rw [← e, n] at e2
            cases e2
          · have e2 := s _ _ hW
            rw [← e, n] at e2
            cases e2
        refine ⟨_, rfl, (show 0 ≤ sizeLine by decide), fun a1 n1 => ⟨(show 1 ≤ sizeLine by decide), fun a2 n2 => ⟨(show 0 ≤ sizeLine by decide), fun a3 n3 => ⟨(show 1 ≤ sizeLine by decide), fun a4 n4 => ⟨(show 7 ≤ sizeLine by decide), fun l nl => ?_⟩⟩⟩⟩⟩
        have y1 := same_upd n1 (o := .lst [])
        have y2 := same_upd n2 (o := .lst [.int 1])
        have y3 := same_upd n3 (o := .lst [])
        have y4 := same_upd n4 (o := .tup [.ref a3])
        have y5 := same_upd nl (o := .lst [.int 2, .non, .str "1", .int (-1), .ref a1, .ref a2, .ref a4])
        have m1 := nw (Same.refl _) n1
        have m2 := nw y1 n2
        have m3 := nw (y1.trans y2) n3
        have m4 := nw ((y1.trans y2).trans y3) n4
        have ml := nw (((y1.trans y2).trans y3).trans y4) nl
        have A1 := y5 _ _ (y4 _ _ (y3 _ _ (y2 _ _ (upd_same (H := H3) (a := a1) (o := .lst [])))))
        have A2 := y5 _ _ (y4 _ _ (y3 _ _ (upd_same (H := upd H3 a1 (.lst [])) (a := a2) (o := .lst [.int 1]))))
        have A3 := y5 _ _ (y4 _ _ (upd_same (a := a3) (o := .lst [])))
        have A4 := y5 _ _ (upd_same (a := a4) (o := .tup [.ref a3]))
        have A5 := upd_same (a := l) (o := HO.lst [.int 2, .non, .str "1", .int (-1), .ref a1, .ref a2, .ref a4]) (H := upd (upd (upd (upd H3 a1 (.lst [])) a2 (.lst [.int 1])) a3 (.lst [])) a4 (.tup [.ref a3]))
        have ys := (((y1.trans y2).trans y3).trans y4).trans y5
        generalize upd (upd (upd (upd (upd H3 a1 (.lst [])) a2 (.lst [.int 1])) a3 (.lst [])) a4 (.tup [.ref a3])) l (.lst [.int 2, .non, .str "1", .int (-1), .ref a1, .ref a2, .ref a4]) = G at A1 A2 A3 A4 A5 ys ⊢
        clear y1 y2 y3 y4 y5 n1 n2 n3 n4 nl
        refine ⟨.ref p, rfl, _, 7, N + 3, rfl, B3.same ys, by decide, by decide, by omega, fun G2 r7 u7 B7 l7 h7 => ?_⟩
        obtain ⟨v7, e7, d7, t7⟩ := at_menuV (Pr := fun v => ∃ d, Tg (fun a => a = p ∨ a = W) G v d) (xs := [.int 2, .non, .str "1", .int (-1), .ref a1, .ref a2, .ref a4]) l7 h7 (fun v hv => by
          simp only [List.mem_cons, List.not_mem_nil, or_false] at hv
          rcases hv with rfl | rfl | rfl | rfl | rfl | rfl | rfl
          · exact ⟨_, .int _⟩
          · exact ⟨_, .non⟩
          · exact ⟨_, .str _⟩
          · exact ⟨_, .int _⟩
          · exact ⟨_, .lst m1 A1 .nil⟩
          · exact ⟨_, .lst m2 A2 (.cons (.int 1) .nil)⟩
          · exact ⟨_, .tup m4 (.mk A4) (.cons (.lst m3 A3 .nil) .nil)⟩)
        refine ⟨l, _, _, _, rfl, rfl, SqL.mk (u7 _ _ (fun e => ml (.inl e)) A5), e7, (show 3 ≤ sizeLine by decide), fun o no => ?_⟩
        have yo := same_upd no (o := .lst [.int (1 - us[at_]), .bl (decide (V.int us[at_] = V.int 1)), v7])
        have t7' : Tg (fun a => a = p ∨ a = W) (upd G2 o (.lst [.int (1 - us[at_]), .bl (decide (V.int us[at_] = V.int 1)), v7])) v7 d7 := t7.keep fun a x n e => yo _ _ (u7 _ _ (fun z => n (.inl z)) e)
        obtain ⟨v8, e8, d8, t8⟩ := at_menuV (Pr := fun v => ∃ d, Tg (fun a => a = p ∨ a = W) (upd G2 o (.lst [.int (1 - us[at_]), .bl (decide (V.int us[at_] = V.int 1)), v7])) v d) (xs := [.int (1 - us[at_]), .bl (decide (V.int us[at_] = V.int 1)), v7]) (r := r) (by omega) (show r < 3 by omega) (fun v hv => by
          simp only [List.mem_cons, List.not_mem_nil, or_false] at hv
          rcases hv with rfl | rfl | rfl
          · exact ⟨_, .int _⟩
          · exact ⟨_, .bl _⟩
          · exact ⟨_, t7'⟩)
        refine ⟨_, rfl, o, _, _, _, rfl, rfl, SqL.mk upd_same, e8, ?_⟩
        have hW8 := yo _ _ (u7 _ _ Wp (ys _ _ hW))
        have B8 := B7.same yo
        have b8 : But p H3 (upd G2 o (.lst [.int (1 - us[at_]), .bl (decide (V.int us[at_] = V.int 1)), v7])) := ((same_but ys).trans u7).trans (same_but yo)
        generalize upd G2 o (.lst [.int (1 - us[at_]), .bl (decide (V.int us[at_] = V.int 1)), v7]) = G3 at t8 hW8 B8 b8 ⊢
        refine ⟨.ref W, rfl, _, rfl, W, _, (at_ : Nat), at_, rfl, rfl, hW8, ?_, ?_⟩
        · rw [List.length_map]
          exact ix_at il
        refine hN' _ _ ⟨none, W, _, _, rfl, fun a o hx e => ?_, (B8.other Wp).mono (by omega), Wp, upd_same, (tg_ints us).set (t8.to fun a o n e => ⟨by rw [upd_ne (fun z => n (.inr z))]; exact e, fun z => n (.inl z)⟩) at_⟩
        rw [upd_ne (fun z => by rw [z, nW0] at e; cases e)]
        exact b8 _ _ hx (c3 _ _ hx e)
      rw [decide_eq_false g1]
      refine iteF ⟨_, rfl, _, _, rfl, rfl, _, rfl, ?_⟩
      by_cases g2 : r < 5
      · rw [decide_eq_true g2]
        have inn : ∀ {G : Hp} {C : Addr} {is : List Int}, But p H3 G → Bx G p (N + 6) → C ≠ p → G C = some (.lst (is.map V.int)) → N' [some (.ref p), some (.ref t), some (.int r), some (.int w), some (.ref C), some (.int (at_ : Nat)), none] G :=
          fun bG BG np hC => hN' _ _ ⟨_, _, _, _, rfl, c3.trans bG, BG, np, hC, tg_ints _⟩
        have hWG : ∀ {G : Hp}, But p H3 G → SqL K G W (us.map V.int) := fun b => SqL.mk (b _ _ Wp hW)
        have nwp : ∀ {G : Hp} {a : Addr} {n : Nat}, Bx G p n → G a = none → a ≠ p := fun b n e => by
          obtain ⟨_, _, _, e2, _⟩ := b
          rw [← e, n] at e2
          cases e2
        have ctk : cutV (us.map V.int) none (some (at_ : Nat)) = (us.take at_).map V.int := by
          rw [cut_lo _ _ (by rw [List.length_map]; omega), List.map_take]
        have cdk : ∀ m : Nat, cutV (us.map V.int) (some (m : Nat)) none = (us.drop m).map V.int := fun m => by
          rw [cut_hi, List.map_drop]
        refine iteT ⟨.ref W, rfl, _, rfl, _, rfl, W, _, rfl, hWG (But.refl _ _), fun k1 n1 => ?_⟩
        rw [ctk]
        have y1 := same_upd n1 (o := .lst ((us.take at_).map V.int))
        refine ⟨.ref W, rfl, _, rfl, _, _, rfl, rfl, _, rfl, W, _, rfl, hWG (same_but y1), fun k2 n2 => ?_⟩
        rw [show ((at_ : Nat) : Int) + 1 = ((at_ + 1 : Nat) : Int) by omega, cdk]
        have y2 := y1.trans (same_upd n2 (o := .lst ((us.drop (at_ + 1)).map V.int)))
        refine lcat_go (same_upd n2 _ _ upd_same) upd_same (by rw [List.length_map, List.length_map, List.length_take, List.length_drop]; omega) fun G1 C1 z1 e1 hC1 => ?_
        rw [← List.map_append] at hC1
        have C1p := nwp (B3.same y2) e1
        have b1 : But p H3 G1 := same_but (y2.trans z1)
        have B1' := B3.same (y2.trans z1)
        clear y1 y2 n1 n2 e1 z1
        refine ⟨.ref W, rfl, _, rfl, _, rfl, W, _, rfl, hWG b1, fun k3 n3 => ?_⟩
        rw [ctk]
        have y3 := same_upd n3 (o := .lst ((us.take at_).map V.int))
        refine ⟨.ref p, rfl, _, 2, N + 3, rfl, B1'.same y3, by decide, by decide, by omega, fun G2 r2' u5 B5 l5 h5 => ⟨(show 1 ≤ sizeLine by decide), fun k4 n4 => ?_⟩⟩
        have y4 := same_upd n4 (o := .lst [.int r2'])
        have k3p := nwp B1' n3
        have hk3 := y4 _ _ (u5 _ _ k3p upd_same)
        refine lcat_go hk3 upd_same (by rw [List.length_map, List.length_take]; show _ + 1 ≤ 100000; omega) fun G3 k5 z5 e5 hk5 => ?_
        have b3 : But p H3 G3 := ((b1.trans (same_but y3)).trans u5).trans (same_but (y4.trans z5))
        have k5p := nwp (B5.same y4) e5
        have B6 := B5.same (y4.trans z5)
        have hC1' := z5 _ _ (y4 _ _ (u5 _ _ C1p (y3 _ _ hC1)))
        clear y3 y4 n3 n4 z5 e5 hC1 u5 hk3
        refine ⟨.ref W, rfl, _, rfl, _, rfl, W, _, rfl, hWG b3, fun k6 n6 => ?_⟩
        rw [cdk]
        have y6' := same_upd n6 (o := .lst ((us.drop at_).map V.int))
        refine lcat_go (y6' _ _ hk5) upd_same (by simp only [List.length_append, List.length_map, List.length_take, List.length_drop, List.length_singleton]; omega) fun G4 C2 z7 e7 hC2 => ?_
        have C2p := nwp (B6.same y6') e7
        have hC2' : G4 C2 = some (.lst ((us.take at_ ++ [r2'] ++ us.drop at_).map V.int)) := by
          rw [hC2, List.map_append, List.map_append]
          rfl
        have b4 := b3.trans (same_but (y6'.trans z7))
        have B7 := B6.same (y6'.trans z7)
        have hC1'' := z7 _ _ (y6' _ _ hC1')
        refine ⟨(show 2 ≤ sizeLine by decide), fun o no => ?_⟩
        have yo := same_upd no (o := .lst [.ref C1, .ref C2])
        have b5 := b4.trans (same_but yo)
        have B8 := (B7.same yo).mono (show N + 3 + 1 ≤ N + 6 by omega)
        refine ⟨_, rfl, _, _, rfl, rfl, ?_⟩
        have : r = 3 ∨ r = 4 := by omega
        rcases this with rfl | rfl
        · exact ⟨o, _, 0, .ref C1, rfl, rfl, SqL.mk upd_same, rfl, inn b5 B8 C1p (yo _ _ hC1'')⟩
        · exact ⟨o, _, 1, .ref C2, rfl, rfl, SqL.mk upd_same, rfl, inn b5 B8 C2p (yo _ _ hC2')⟩
      rw [decide_eq_false g2]
      refine iteF ⟨_, rfl, rfl, _, rfl, ?_⟩
      by_cases g3 : r = 5
      · subst g3
        refine iteT ⟨.ref p, rfl, .ref W, rfl, W, _, rfl, .inl (SqL.mk hW), p, _, N + 3, rfl, B3, by rw [List.length_map]; omega, by rw [List.length_map]; omega, by omega, fun H4 ot u4 B4 l4 h4 => ?_⟩
        rw [List.length_map] at h4
        obtain ⟨ot, rfl⟩ := nat_of l4
        have il : at_ < us.length := by omega
        have jl : ot < us.length := by omega
        have hu : atI (us.map V.int) (at_ : Nat) = some (.int us[at_]) := atI_nat (by rw [List.getElem?_map, List.getElem?_eq_getElem il]; rfl)
        have ho : atI (us.map V.int) (ot : Nat) = some (.int us[ot]) := atI_nat (by rw [List.getElem?_map, List.getElem?_eq_getElem jl]; rfl)
        have hW4 := u4 _ _ Wp hW
        refine ⟨_, rfl, _, rfl, W, _, (ot : Nat), _, rfl, rfl, SqL.mk hW4, ho, _, rfl, _, rfl, W, _, (at_ : Nat), _, rfl, rfl, SqL.mk hW4, hu, (show 2 ≤ sizeLine by decide), fun e ne => ?_⟩
        have ye := same_upd ne (o := .tup [.int us[ot], .int us[at_]])
        refine ⟨e, _, rfl, SqT.mk upd_same, rfl, _, _, rfl, .ref W, rfl, _, rfl, W, _, (at_ : Nat), at_, rfl, rfl, ye _ _ hW4, by rw [List.length_map]; exact ix_at il, ?_⟩
        refine ⟨_, _, rfl, .ref W, rfl, _, rfl, W, _, (ot : Nat), ot, rfl, rfl, upd_same, by rw [List.length_set, List.length_map]; exact ix_at jl, rfl, ?_⟩
        refine hN' _ _ ⟨_, W, _, _, rfl, fun a o hx e => ?_, (((B4.same ye).other Wp).other Wp).mono (by omega), Wp, upd_same, ((tg_ints us).set (.int us[ot]) at_).set (.int us[at_]) ot⟩
        have aW : a ≠ W := fun z => by rw [z, nW0] at e; cases e
        rw [upd_ne aW, upd_ne aW]
        exact ye _ _ (u4 _ _ hx (c3 _ _ hx e))
      rw [decide_eq_false (show ¬ V.int r = V.int 5 from fun e => g3 (V.int.inj e))]
      refine iteF ⟨_, rfl, rfl, _, rfl, ?_⟩
      by_cases g4 : r = 6
      · subst g4
        refine iteT ⟨.ref t, rfl, t, _, rfl, .inr (SqT.mk P3.ht), fun k1 n1 => ?_⟩
        have y1 := same_upd n1 (o := .lst [.ref x, .ref y])
        refine ⟨.ref t, rfl, t, _, rfl, SqT.mk (y1 _ _ P3.ht), fun k2 n2 => ?_⟩
        have y2 := same_upd n2 (o := .tup [V.ref x, .ref y].reverse)
        refine ⟨.ref t, rfl, .ref t, rfl, _, rfl, t, _, rfl, y2 _ _ (y1 _ _ P3.ht), fun F1 k3 y3 hk3 => ?_⟩
        refine ⟨t, k3, _, _, rfl, rfl, y3 _ _ (y2 _ _ (y1 _ _ P3.ht)), hk3, (show 2 + 1 ≤ 16777216 by decide), fun F2 k4 y4 hk4 => ?_⟩
        have ys := ((y1.trans y2).trans y3).trans y4
        refine ⟨.ref t, rfl, _, rfl, t, _, rfl, ys _ _ P3.ht, fun F3 k5 y5 hk5 => ?_⟩
        have ys2 := ys.trans y5
        refine ⟨.ref t, rfl, t, _, 0, .ref x, rfl, rfl, SqT.mk (ys2 _ _ P3.ht), rfl, .ref t, rfl, t, _, 0, .ref x, rfl, rfl, SqT.mk (ys2 _ _ P3.ht), rfl, (show 2 ≤ sizeLine by decide), fun k6 n6 => ?_⟩
        have y6 := same_upd n6 (o := .tup [.ref x, .ref x])
        refine ⟨.ref t, rfl, (show 1 ≤ sizeLine by decide), fun k7 n7 => ⟨(show 6 ≤ sizeLine by decide), fun o no => ?_⟩⟩
        have y7 := same_upd n7 (o := .tup [.ref t])
        have yo := same_upd no (o := .lst [.ref k1, .ref k2, .ref k4, .ref k5, .ref k6, .ref k7])
        have a7 := y7.trans yo
        have a6 := y6.trans a7
        have a5 := y5.trans a6
        have a4 := y4.trans a5
        have a2 := (y2.trans y3).trans a4
        have aa := y1.trans a2
        have A1 := a2 _ _ (upd_same (H := H3) (a := k1) (o := .lst [.ref x, .ref y]))
        have A2 := (y3.trans a4) _ _ (upd_same (H := upd H3 k1 (.lst [.ref x, .ref y])) (a := k2) (o := .tup [V.ref x, .ref y].reverse))
        have A4 := a5 _ _ hk4
        have A5 := a6 _ _ hk5
        have A6 := a7 _ _ (upd_same (H := F3) (a := k6) (o := .tup [.ref x, .ref x]))
        have A7 := yo _ _ (upd_same (H := upd F3 k6 (.tup [.ref x, .ref x])) (a := k7) (o := .tup [.ref t]))
        have Ao := upd_same (H := upd (upd F3 k6 (.tup [.ref x, .ref x])) k7 (.tup [.ref t])) (a := o) (o := .lst [.ref k1, .ref k2, .ref k4, .ref k5, .ref k6, .ref k7])
        have op : o ≠ p := fun z => by
          obtain ⟨_, _, _, e2, _⟩ := ((B3.same y1).same (y2.trans y3)).same (y4.trans (y5.trans (y6.trans y7)))
          rw [← z, no] at e2
          cases e2
        have k1p : k1 ≠ p := fun z => by
          obtain ⟨_, _, _, e2, _⟩ := B3
          rw [← z, n1] at e2
          cases e2
        generalize upd (upd (upd F3 k6 (.tup [.ref x, .ref x])) k7 (.tup [.ref t])) o (.lst [.ref k1, .ref k2, .ref k4, .ref k5, .ref k6, .ref k7]) = G at aa A1 A2 A4 A5 A6 A7 Ao ⊢
        clear y1 y2 y3 y4 y5 y6 y7 yo a7 a6 a5 a4 a2 n1 n2 n6 n7 no hk3 hk4 hk5 ys ys2
        have BG := B3.same aa
        refine ⟨.ref p, rfl, _, 6, N + 3, rfl, BG, by decide, by decide, by omega, fun G2 r6 u6 B6 l6 h6 => ?_⟩
        have c6 : But p H G2 := (c3.trans (same_but aa)).trans u6
        have P6 := P0.but c6
        have rx := rowF_of P6.nx P6.hx
        have ry := rowF_of P6.ny P6.hy
        have tx := rx.1
        have ty := ry.1
        have kp : ∀ {a : Addr} {xs : List V}, G a = some (.tup xs) → a ≠ p ∧ G2 a = some (.tup xs) := fun e => ⟨BG.ne_tup e, u6 _ _ (BG.ne_tup e) e⟩
        obtain ⟨v7, e7, d7, t7⟩ := at_menuV (Pr := fun v => ∃ d, Th p G2 v d) (xs := [.ref k1, .ref k2, .ref k4, .ref k5, .ref k6, .ref k7]) l6 h6 (fun v hv => by
          simp only [List.mem_cons, List.not_mem_nil, or_false] at hv
          rcases hv with rfl | rfl | rfl | rfl | rfl | rfl
          · exact ⟨_, .lst k1p (u6 _ _ k1p A1) (.cons tx (.cons ty .nil)), fun _ _ e => by cases e⟩
          · exact ⟨_, th_pair (kp A2).1 (.mk (kp A2).2) ry rx⟩
          · exact ⟨_, .tup (kp A4).1 (.mk (kp A4).2) (.cons tx (.cons ty (.cons tx .nil))), fun _ _ e => by cases e⟩
          · exact ⟨_, .tup (kp A5).1 (.mk (kp A5).2) (.cons tx .nil), fun _ _ e => by cases e⟩
          · exact ⟨_, th_pair (kp A6).1 (.mk (kp A6).2) rx rx⟩
          · exact ⟨_, .tup (kp A7).1 (.mk (kp A7).2) (.cons (.tup P6.nt (.mk P6.ht) (.cons tx (.cons ty .nil))) .nil), fun _ _ e => by cases e⟩)
        exact ⟨o, _, _, _, rfl, rfl, SqL.mk (u6 _ _ op Ao), e7, q _ _ _ c6 (B6.mono (by omega)) t7⟩
      rw [decide_eq_false (show ¬ V.int r = V.int 6 from fun e => g4 (V.int.inj e))]
      exact iteF (hN' _ _ ⟨_, W, _, us.map PyData.int, rfl, c3, B3.mono (by omega), Wp, hW, tg_ints us⟩)
    rintro σ Z ⟨y6, U, ws, es, rfl, bZ, BZ, Up, hU, tU⟩
    have PZ := P0.but bZ
    refine seq_via (fun σ F => ∃ (v : V) (d : PyData), σ = [some (.ref p), some (.ref t), some (.int r), some (.int w), some v, some (.int (at_ : Nat)), y6] ∧ But p H F ∧ Bx F p (N + 6) ∧ RowF p F v d) (fun N' hN' => ?_) ?_
    · refine ⟨_, rfl, rfl, _, rfl, ?_⟩
      by_cases g7 : r = 7
      · subst g7
        refine iteT ⟨_, rfl, ?_⟩
        exact hN' _ _ ⟨_, _, rfl, bZ, BZ, .lst Up hU tU, fun es e => by cases e⟩
      · rw [decide_eq_false (show ¬ V.int r = V.int 7 from fun e => g7 (V.int.inj e))]
        refine iteF ⟨.ref U, rfl, U, _, rfl, SqL.mk hU, fun f ob nf od oc => ?_⟩
        have sf := same_upd nf (o := tupO (some ob) ws)
        have fp : f ≠ p := fun e => by
          obtain ⟨_, _, _, e2, _⟩ := BZ
          rw [← e, nf] at e2
          cases e2
        have ff : FzT (upd Z f (tupO (some ob) ws)) f ws := ⟨ob, od, oc, upd_same⟩
        exact hN' _ _ ⟨_, .tuple es, rfl, bZ.trans (same_but sf), BZ.same sf, .tup fp ff.o (tU.same sf), fun es' e => by cases e; exact ⟨f, ws, rfl, fp, ff, tU.same sf⟩⟩
    rintro σ F ⟨v, d, rfl, bF, BF, rF⟩
    have PF := P0.but bF
    refine ⟨_, rfl, rfl, _, rfl, ?_⟩
    have fpn : ∀ {f : Addr}, F f = none → f ≠ p := fun nf e => by
      obtain ⟨_, _, _, e2, _⟩ := BF
      rw [← e, nf] at e2
      cases e2
    by_cases w0 : w = 0
    · subst w0
      refine iteT ⟨_, rfl, .ref t, rfl, t, _, 1, .ref y, rfl, rfl, SqT.mk PF.ht, rfl, (show 2 ≤ sizeLine by decide), fun f nf => ?_⟩
      have sf := same_upd nf (o := .tup [v, .ref y])
      exact q _ _ _ (bF.trans (same_but sf)) (BF.same sf) (th_pair (fpn nf) (.mk upd_same) (rF.but (same_but sf)) ((rowF_of PF.ny PF.hy).but (same_but sf)))
    · rw [decide_eq_false (show ¬ V.int w = V.int 0 from fun e => w0 (V.int.inj e))]
      refine iteF ⟨.ref t, rfl, t, _, 0, .ref x, rfl, rfl, SqT.mk PF.ht, rfl, _, rfl, (show 2 ≤ sizeLine by decide), fun f nf => ?_⟩
      have sf := same_upd nf (o := .tup [.ref x, v])
      exact q _ _ _ (bF.trans (same_but sf)) (BF.same sf) (th_pair (fpn nf) (.mk upd_same) ((rowF_of PF.nx PF.hx).but (same_but sf)) (rF.but (same_but sf)))
theorem RowsOk.due {n a b m : Nat} {rs ss : List Int} (h : RowsOk n a b m rs ss) : DueD n a b (m : Nat) (.tuple [.tuple (rs.map PyData.int), .tuple (ss.map PyData.int)]) := ⟨rs, ss, rfl, h.1, h.2.1, h.2.2.1, h.2.2.2.1, h.2.2.2.2.1, h.2.2.2.2.2.1, h.2.2.2.2.2.2⟩
theorem PairAt.th {p : Addr} {H : Hp} {t x y : Addr} {rs ss : List Int} (h : PairAt p H t x y rs ss) : Th p H (.ref t) (.tuple [.tuple (rs.map PyData.int), .tuple (ss.map PyData.int)]) := th_pair h.nt (.mk h.ht) (rowF_of h.nx h.hx) (rowF_of h.ny h.hy)
theorem FzT.bus {b : Addr} {H G : Hp} {a : Addr} {xs : List V} (h : FzT H a xs) (n : a ≠ b) (s : Bus b H G) : FzT G a xs := by
  obtain ⟨ob, h1, h2, e⟩ := h
  exact ⟨ob, h1, h2, s.obj _ _ n (fun _ z => by cases z) e⟩
theorem PairAt.bus {p : Addr} {H G : Hp} {t x y : Addr} {rs ss : List Int} (h : PairAt p H t x y rs ss) (s : Bus p H G) : PairAt p G t x y rs ss := ⟨s.obj _ _ h.nt (fun _ z => by cases z) h.ht, h.hx.bus h.nx s, h.hy.bus h.ny s, h.nt, h.nx, h.ny⟩
theorem FzT.ne {H : Hp} {p a : Addr} {n : Nat} {xs : List V} (h : FzT H a xs) (B : Bx H p n) : a ≠ p := by
  obtain ⟨ob, _, _, e⟩ := h
  obtain ⟨_, _, _, e2, _⟩ := B
  exact ne_of e e2 (fun z => by cases z)
theorem TupO.bus {b : Addr} {H G : Hp} {a : Addr} {xs : List V} (h : TupO H a xs) (n : a ≠ b) (s : Bus b H G) : TupO G a xs := by
  obtain ⟨ob, e⟩ := h
  exact ⟨ob, s.obj _ _ n (fun _ z => by cases ob <;> cases z) e⟩
theorem Tg.bus {b : Addr} {H G : Hp} {v : V} {d : PyData} (h : Tg (· = b) H v d) (s : Bus b H G) : Tg (· = b) G v d := h.kp (fun a xs n e => ⟨s.lst n e, n⟩) (fun a xs n e => ⟨e.bus n s, n⟩)
theorem TgA.bus {b : Addr} {H G : Hp} {v : List V} {d : List PyData} (h : TgA (· = b) H v d) (s : Bus b H G) : TgA (· = b) G v d := h.kp (fun a xs n e => ⟨s.lst n e, n⟩) (fun a xs n e => ⟨e.bus n s, n⟩)
theorem RowF.bus {b : Addr} {H G : Hp} {x : V} {d : PyData} (h : RowF b H x d) (s : Bus b H G) : RowF b G x d := ⟨h.1.bus s, fun es e => by
  obtain ⟨r, ys, e1, n, f, t⟩ := h.2 es e
  exact ⟨r, ys, e1, n, f.bus n s, t.bus s⟩⟩
theorem Th.bus {b : Addr} {H G : Hp} {x : V} {d : PyData} (h : Th b H x d) (s : Bus b H G) : Th b G x d := ⟨h.1.bus s, fun d1 d2 e => by
  obtain ⟨a, x1, x2, e1, n, t, r1, r2⟩ := h.2 d1 d2 e
  exact ⟨a, x1, x2, e1, n, t.bus n s, r1.bus s, r2.bus s⟩⟩
theorem ifs_true {t : TT} {A B : TS} {D : Ends} {σ : L2.St} {H : Hp} (h1 : ∀ P : Bool → Hp → Prop, P true H → t σ H P) (h2 : A D σ H) : tIfS t A B D σ H := h1 (fun c H1 => if c = true then A D σ H1 else B D σ H1) (iteT h2)
theorem near_ok {n a b m : Nat} (h : MetOk n a b m) : RowsOk n a b m (nearR n a) (lrB n a b m) := by
  have hab := h.ab
  refine ⟨bits_cat (rep_bits1 _) (rep_bits0 _), lrB_bits _ _ _ _, ?_, lrB_len h, ?_, lrB_sum h, lrB_dot h⟩
  · simp only [nearR, List.length_append, List.length_replicate]
    omega
  · simp only [nearR, List.sum_append, sum_repI]
    omega
theorem kBB : PySem.W.kitOne K (.type "bool") (.type "bool") = some true := kit_ty (by decide +kernel)
def sp_law {K : PySem.W.Frag} {mg : Str → Option Value} (T : Defs K mg) : Sp := fun vs H Q _ => ∃ (a : Addr) (ns : List Int), vs = [.ref a] ∧ SqL K H a (ns.map V.int) ∧ ns.length ≤ 63 ∧ (GxR.TabG H T.P_is_row ∧ GxR.TabG H T.P_both ∧ True) ∧ ∀ H', Q (.bl true) H'
theorem ok_law (T : Defs K mg) (TT : Tabs T base) : FnOk P w K mg base CX0 7 T.f_law T.fd_law ["_law_script"] (sp_law T) := by
  have G__law_folded : FnOk P w K mg base CX0 1 T.f__law_folded T.fd__law_folded ["_law_script", "_law_many"] (sp__law_folded K) := ok__law_folded T TT
  have G__law_box : FnOk P w K mg base CX0 1 T.f__law_box T.fd__law_box ["_law_script", "_law_k"] (sp__law_box K) := ok__law_box T TT
  have G__law_take : FnOk P w K mg base CX0 1 T.f__law_take T.fd__law_take ["_law_box_here", "_law_many"] (sp__law_take K) := ok__law_take T TT
  have G__law_told : FnOk P w K mg base CX0 3 T.f__law_told T.fd__law_told ["_law_n", "_law_a", "_law_b", "_law_met"] (sp__law_told T) := ok__law_told T TT
  have G__law_made : FnOk P w K mg base CX0 2 T.f__law_made T.fd__law_made ["_law_box_here", "_law_n", "_law_a", "_law_b", "_law_met"] (sp__law_made K) := ok__law_made T TT
  have G__law_otherwise : FnOk P w K mg base CX0 2 T.f__law_otherwise T.fd__law_otherwise ["_law_box_here", "_law_pair"] (sp__law_otherwise K) := ok__law_otherwise T TT
  have G_shows_rows : FnOk P w K mg base CX0 6 T.f_shows_rows T.fd_shows_rows ["n", "a", "b", "met", "thing"] (sp_shows_rows T) := ok_shows_rows T TT
  have G__law_due : FnOk P w K mg base CX0 1 T.f__law_due T.fd__law_due ["_law_n", "_law_a", "_law_b", "_law_met", "_law_thing"] (sp__law_due K) := ok__law_due T TT
  refine T.F_law.ok sc_law (fun vs H Q E h => ?_) (fun cdv A outer s H vs Q E hr h => ?_)
  · obtain ⟨a, ns, rfl, hS, hlen, ⟨tR, tB, _⟩, q⟩ := h
    rfl
  · obtain ⟨a, ns, rfl, hS, hlen, ⟨tR, tB, _⟩, q⟩ := h
    refine ⟨_, PSs.nox (pss_cons (ps_set (i := 1) sc_law.nd rfl (.inl rfl) (pe_call G__law_folded (hr.mono (by decide)) (by rfl) T.g__law_folded T.F__law_folded.kp T.b__law_folded .nil pass0 (pa_cons (pv 0) (pa_cons pe_int pa_nil))))
    (pss_cons ((ps_for PassesOwn.never rfl (pi_range1 (by rfl) T.m_range (pa_cons (pe_callB (call_max2 rfl) (by rfl) T.m_max bt_max (pa_cons pe_int (pa_cons (pe_callB call_len_seq (by rfl) T.m_len bt_len (pa_cons (pv 1) pa_nil)) pa_nil))) pa_nil)) (pg_name (i := 2) sc_law.nd rfl (.inl rfl)) (pss_cons (ps_set (i := 3) sc_law.nd rfl (.inr rfl) (pe_call G__law_box (hr.mono (by decide)) (by rfl) T.g__law_box T.F__law_box.kp T.b__law_box .nil pass0 (pa_cons (pv 1) (pa_cons (pv 2) pa_nil))))
    (pss_cons (ps_set (i := 4) sc_law.nd rfl (.inl rfl) (pe_cmpR op_eq (pe_call G__law_take (hr.mono (by decide)) (by rfl) T.g__law_take T.F__law_take.kp T.b__law_take .nil pass0 (pa_cons (pv 3) (pa_cons pe_int pa_nil))) pe_int (nomark _)))
    (pss_cons (ps_set (i := 5) sc_law.nd rfl (.inr rfl) (pe_op op_add pe_int (pe_call G__law_take (hr.mono (by decide)) (by rfl) T.g__law_take T.F__law_take.kp T.b__law_take .nil pass0 (pa_cons (pv 3) (pa_cons (pe_ifExp (pt_cmpR op_eq (pe_call G__law_take (hr.mono (by decide)) (by rfl) T.g__law_take T.F__law_take.kp T.b__law_take .nil pass0 (pa_cons (pv 3) (pa_cons pe_int pa_nil))) pe_int (nomark _)) pe_int pe_int) pa_nil)))))
    (pss_cons (ps_set (i := 5) sc_law.nd rfl (.inr rfl) (pe_ifExp (PW.pt (pw_and (pt_val (pv 4)) (pw_and1 (pt_cmpR op_eq (pv 2) pe_int (nomark _))))) pe_int (pv 5)))
    (pss_cons (ps_asg (pe_lc (own := [("_law_turn", 16)]) (g := gName 16) (tt := tYes) rfl sc_law.nd (pi_range1 (by rfl) T.m_range (pa_cons pe_int pa_nil)) (blkOk_by (N := N_law) (sc := defScope s_law) (by decide +kernel)) (fun _ _ _ _ _ => (pg_name (i := 16) sc_law.nd rfl (.inl rfl))) (fun _ _ _ _ _ => pts_nil) (fun _ _ _ _ _ => (pe_ix (ixlK (K := K) rfl) (pe_lst (pa_cons pe_int (pa_cons (pv 5) (pa_cons (pe_call G__law_take (hr.mono (by decide)) (by rfl) T.g__law_take T.F__law_take.kp T.b__law_take .nil pass0 (pa_cons (pv 3) (pa_cons (pe_op op_add (pv 5) pe_int) pa_nil))) pa_nil)))) (pe_call G__law_take (hr.mono (by decide)) (by rfl) T.g__law_take T.F__law_take.kp T.b__law_take .nil pass0 (pa_cons (pv 3) (pa_cons pe_int pa_nil))) (fun _ _ => rfl)))) (pg_unl rfl (pgs_cons (pg_name (i := 6) sc_law.nd rfl (.inl rfl)) (pgs_cons (pg_name (i := 7) sc_law.nd rfl (.inl rfl)) pgs_nil))))
    (pss_cons (ps_par (i := 8) (j := 9) (by rfl) sc_law.nd rfl rfl (by decide) rfl rfl (pa_cons (pe_callB (call_max2 rfl) (by rfl) T.m_max bt_max (pa_cons pe_int (pa_cons (pe_op op_sub (pe_op op_add (pv 6) (pv 7)) (pv 5)) pa_nil))) (pa_cons (pe_callB (call_min2 rfl) (by rfl) T.m_min bt_min (pa_cons (pv 6) (pa_cons (pv 7) pa_nil))) pa_nil)) (by rfl))
    (pss_one ((ps_for PassesOwn.never rfl (pi_tup (pe_tup (pa_cons (pv 8) (pa_cons (pv 9) (pa_cons (pe_op op_add (pv 8) (pe_call G__law_take (hr.mono (by decide)) (by rfl) T.g__law_take T.F__law_take.kp T.b__law_take .nil pass0 (pa_cons (pv 3) (pa_cons (pe_op op_add (pe_op op_sub (pv 9) (pv 8)) pe_int) pa_nil)))) (pa_cons (pe_op op_sub (pv 8) pe_int) (pa_cons (pe_op op_add (pv 9) pe_int) (pa_cons (pe_un un_neg pe_int) (pa_cons (pe_op op_pow pe_int pe_int) pa_nil))))))))) (pg_name (i := 10) sc_law.nd rfl (.inl rfl)) (pss_cons (ps_set (i := 11) sc_law.nd rfl (.inl rfl) (pe_call G__law_told (hr.mono (by decide)) (by rfl) T.g__law_told T.F__law_told.kp T.b__law_told .nil pass0 (pa_cons (pv 5) (pa_cons (pv 6) (pa_cons (pv 7) (pa_cons (pv 10) pa_nil))))))
    (pss_cons (ps_if (pt_not (pt_chain op_le op_le (pv 8) (pv 10) (pv 9))) (pss_cons (ps_set (i := 12) sc_law.nd rfl (.inl rfl) (pe_call G__law_made (hr.mono (by decide)) (by rfl) T.g__law_made T.F__law_made.kp T.b__law_made .nil pass0 (pa_cons (pv 3) (pa_cons (pv 5) (pa_cons (pv 6) (pa_cons (pv 7) (pa_cons (pe_ifExp (pt_cmpR op_lt (pv 10) (pv 8) (nomark _)) (pv 8) (pv 9)) pa_nil)))))))
    (pss_cons ((ps_for PassesOwn.never rfl (pi_tup (pe_tup (pa_cons (pv 12) (pa_cons (pe_call G__law_otherwise (hr.mono (by decide)) (by rfl) T.g__law_otherwise T.F__law_otherwise.kp T.b__law_otherwise .nil pass0 (pa_cons (pv 3) (pa_cons (pv 12) pa_nil))) (pa_cons (pe_call G__law_otherwise (hr.mono (by decide)) (by rfl) T.g__law_otherwise T.F__law_otherwise.kp T.b__law_otherwise .nil pass0 (pa_cons (pv 3) (pa_cons (pv 12) pa_nil))) pa_nil))))) (pg_name (i := 13) sc_law.nd rfl (.inl rfl)) (pss_cons (ps_set (i := 14) sc_law.nd rfl (.inl rfl) (pe_call G_shows_rows (hr.mono (by decide)) (by rfl) T.g_shows_rows T.F_shows_rows.kp T.b_shows_rows .nil pass0 (pa_cons (pv 5) (pa_cons (pv 6) (pa_cons (pv 7) (pa_cons (pv 10) (pa_cons (pv 13) pa_nil)))))))
    (pss_one (ps_if (PW.pt (pw_or (pt_not (pt_val (pe_callB call_isi (by rfl) T.m_isinstance bt_isinstance (pa_cons (pv 14) (pa_cons (pe_bltn (v := .ty "bool") (by rfl) T.m_bool bt_bool rfl) pa_nil))))) (pw_or1 (pt_cmpR op_ne (pv 14) (pe_call G__law_due (hr.mono (by decide)) (by rfl) T.g__law_due T.F__law_due.kp T.b__law_due .nil pass0 (pa_cons (pv 5) (pa_cons (pv 6) (pa_cons (pv 7) (pa_cons (pv 10) (pa_cons (pv 13) pa_nil)))))) (nomark _))))) (pss_one (ps_ret pe_bl)) pss_nil)))))
    (pss_cons (ps_if (PW.pt (pw_or (pt_cmpR op_ne (pv 11) pe_str (nomark _)) (pw_or1 (pt_cmpR op_notBl (pe_call G_shows_rows (hr.mono (by decide)) (by rfl) T.g_shows_rows T.F_shows_rows.kp T.b_shows_rows .nil pass0 (pa_cons (pv 5) (pa_cons (pv 6) (pa_cons (pv 7) (pa_cons (pv 10) (pa_cons (pv 12) pa_nil)))))) pe_bl (nomark _))))) (pss_one (ps_ret pe_bl)) pss_nil)
    (pss_one ps_continue)))) pss_nil)
    (pss_one ((ps_for PassesOwn.never rfl (pi_tup (pe_tup (pa_cons (pv 11) (pa_cons (pe_call G__law_made (hr.mono (by decide)) (by rfl) T.g__law_made T.F__law_made.kp T.b__law_made .nil pass0 (pa_cons (pv 3) (pa_cons (pv 5) (pa_cons (pv 6) (pa_cons (pv 7) (pa_cons (pv 10) pa_nil)))))) pa_nil)))) (pg_name (i := 15) sc_law.nd rfl (.inl rfl)) (pss_cons (ps_if (PW.pt (pw_or (pt_not (pt_val (pe_call G__law_due (hr.mono (by decide)) (by rfl) T.g__law_due T.F__law_due.kp T.b__law_due .nil pass0 (pa_cons (pv 5) (pa_cons (pv 6) (pa_cons (pv 7) (pa_cons (pv 10) (pa_cons (pv 15) pa_nil)))))))) (pw_or1 (pt_cmpR op_notBl (pe_call G_shows_rows (hr.mono (by decide)) (by rfl) T.g_shows_rows T.F_shows_rows.kp T.b_shows_rows .nil pass0 (pa_cons (pv 5) (pa_cons (pv 6) (pa_cons (pv 7) (pa_cons (pv 10) (pa_cons (pv 15) pa_nil)))))) pe_bl (nomark _))))) (pss_one (ps_ret pe_bl)) pss_nil)
    (pss_one ((ps_for PassesOwn.never rfl (pi_range1 (by rfl) T.m_range (pa_cons pe_int pa_nil)) (pg_name (i := 16) sc_law.nd rfl (.inl rfl)) (pss_cons (ps_set (i := 13) sc_law.nd rfl (.inl rfl) (pe_call G__law_otherwise (hr.mono (by decide)) (by rfl) T.g__law_otherwise T.F__law_otherwise.kp T.b__law_otherwise .nil pass0 (pa_cons (pv 3) (pa_cons (pv 15) pa_nil))))
    (pss_cons (ps_set (i := 14) sc_law.nd rfl (.inl rfl) (pe_call G_shows_rows (hr.mono (by decide)) (by rfl) T.g_shows_rows T.F_shows_rows.kp T.b_shows_rows .nil pass0 (pa_cons (pv 5) (pa_cons (pv 6) (pa_cons (pv 7) (pa_cons (pv 10) (pa_cons (pv 13) pa_nil)))))))
    (pss_one (ps_if (PW.pt (pw_or (pt_not (pt_val (pe_callB call_isi (by rfl) T.m_isinstance bt_isinstance (pa_cons (pv 14) (pa_cons (pe_bltn (v := .ty "bool") (by rfl) T.m_bool bt_bool rfl) pa_nil))))) (pw_or1 (pt_cmpR op_ne (pv 14) (pe_call G__law_due (hr.mono (by decide)) (by rfl) T.g__law_due T.F__law_due.kp T.b__law_due .nil pass0 (pa_cons (pv 5) (pa_cons (pv 6) (pa_cons (pv 7) (pa_cons (pv 10) (pa_cons (pv 13) pa_nil)))))) (nomark _))))) (pss_one (ps_ret pe_bl)) pss_nil))))))))))))))))))))))))
    (pss_one (ps_ret pe_bl)))), ?_⟩
    have hsl : sizeLine = 16777216 := by decide
    refine ⟨.ref a, rfl, a, ns, 4, rfl, hS, hlen, by decide, by decide, fun H1 c cs s1 nc hc lc => ?_⟩
    have t1 := (Sam.of s1).tabG tR
    have t2 := (Sam.of s1).tabG tB
    have hn : (if (((cs.map V.int).length : Nat) : Int) > 2 then (((cs.map V.int).length : Nat) : Int) else 2) ≤ 4 ∧ 0 ≤ (if (((cs.map V.int).length : Nat) : Int) > 2 then (((cs.map V.int).length : Nat) : Int) else 2) := by
      rw [List.length_map]
      split <;> omega
    refine ⟨.ref c, rfl, c, _, rfl, .inl (SqL.mk hc), _, _, rfl, _, rfl, by omega, by omega, for_range (fun i σ H2 => ∃ y2 y3 y4 y5 y6 y7 y8 y9 y10 y11 y12 y13 y14 y15 y16, σ = [some (.ref a), some (.ref c), y2, y3, y4, y5, y6, y7, y8, y9, y10, y11, y12, y13, y14, y15, y16] ∧ Sam H1 H2) ⟨none, none, none, none, none, none, none, none, none, none, none, none, none, none, none, rfl, Sam.refl H1⟩ ?_ ?_⟩
    rotate_left
    · rintro σ H2 ⟨y2, y3, y4, y5, y6, y7, y8, y9, y10, y11, y12, y13, y14, y15, y16, rfl, s2⟩
      exact q _
    rintro i σ H2 hi ⟨y2, y3, y4, y5, y6, y7, y8, y9, y10, y11, y12, y13, y14, y15, y16, rfl, s2⟩
    have hi2 : i < 1000 := by omega
    refine ⟨.ref c, rfl, .int (0 + (i : Int)), rfl, c, cs, i, by rw [Int.zero_add]; rfl, SqL.mk (s2.lst hc), hi2, fun H3 b s3 nb hB => ?_⟩
    have nb1 : H1 b = none := s2.free nb
    have s13 := s2.trans (Sam.of s3)
    have t31 := s13.tabG t1
    have t32 := s13.tabG t2
    refine ⟨.ref b, rfl, b, 16, 0, rfl, hB, by decide, by decide, by omega, fun H4 r4 b4 B4 l4 u4 => ⟨rfl, ?_⟩⟩
    generalize decide (V.int r4 = V.int 0) = gr
    refine nx_via (σ := [some (.ref a), some (.ref c), some (.int (0 + (i : Int))), some (.ref b), some (.bl gr), y5, y6, y7, y8, y9, y10, y11, y12, y13, y14, y15, y16]) (fun σ F => ∃ n : Nat, σ = [some (.ref a), some (.ref c), some (.int (0 + (i : Int))), some (.ref b), some (.bl gr), some (.int (n : Nat)), y6, y7, y8, y9, y10, y11, y12, y13, y14, y15, y16] ∧ But b H3 F ∧ Bx F b 3 ∧ 1 ≤ n ∧ n ≤ 400) (fun N key => ?_) ?_
    · refine ⟨.ref b, rfl, .ref b, rfl, _, 8, 1, rfl, B4, by decide, by decide, by omega, fun G r8 u8 B8 l8 h8 => ⟨rfl, _, rfl, ?_⟩⟩
      have fin : ∀ (G2 : Hp) (r5 : Int), But b G G2 → Bx G2 b 3 → 0 ≤ r5 → r5 < 400 → N [some (.ref a), some (.ref c), some (.int (0 + (i : Int))), some (.ref b), some (.bl gr), some (.int (1 + r5)), y6, y7, y8, y9, y10, y11, y12, y13, y14, y15, y16] G2 := fun G2 r5 u5 B5 l5 h5 => by
        obtain ⟨r5, rfl⟩ := nat_of l5
        exact key _ _ ⟨1 + r5, by rw [Int.natCast_add]; rfl, (b4.trans u8).trans u5, B5, by omega, by omega⟩
      refine ite2 (fun _ => ?_) (fun _ => ?_)
      · exact ⟨b, 400, 2, rfl, B8, by decide, by decide, by omega, fun G2 r5 u5 B5 l5 h5 => ⟨_, _, rfl, rfl, fin _ _ u5 B5 l5 h5⟩⟩
      · exact ⟨b, 40, 2, rfl, B8, by decide, by decide, by omega, fun G2 r5 u5 B5 l5 h5 => ⟨_, _, rfl, rfl, fin _ _ u5 B5 l5 (by omega)⟩⟩
    rintro σ F ⟨n0, rfl, cF, BF, n1, n4⟩
    refine seq_via (fun σ F => ∃ n : Nat, σ = [some (.ref a), some (.ref c), some (.int (0 + (i : Int))), some (.ref b), some (.bl gr), some (.int (n : Nat)), y6, y7, y8, y9, y10, y11, y12, y13, y14, y15, y16] ∧ But b H3 F ∧ Bx F b 3 ∧ 1 ≤ n ∧ n ≤ 4096) (fun N key => ?_) ?_
    · refine ⟨_, rfl, gr, rfl, ?_⟩
      cases gr with
      | true =>
        refine iteT ⟨_, rfl, rfl, _, rfl, ite2 (fun _ => ?_) (fun _ => ?_)⟩
        · exact key _ _ ⟨4096, rfl, cF, BF, by decide, by decide⟩
        · exact ⟨_, rfl, key _ _ ⟨n0, rfl, cF, BF, n1, by omega⟩⟩
      | false => exact iteF (iteF ⟨_, rfl, key _ _ ⟨n0, rfl, cF, BF, n1, by omega⟩⟩)
    rintro σ F ⟨n, rfl, cF, BF, n1, n4⟩
    refine ⟨2, rfl, by decide, by decide, fun D nD => ?_⟩
    have nDb : D ≠ b := ne_new BF nD
    have nD3 : H3 D = none := by
      cases z : H3 D with
      | none => rfl
      | some o =>
        have := cF _ _ nDb z
        rw [nD] at this
        cases this
    refine lc_range (fun j G => But b H3 G ∧ Bx G b (3 + 2 * j) ∧ ∃ ms : List Nat, ms.length = j ∧ (∀ m, m ∈ ms → m ≤ n) ∧ G D = some (.lst (ms.map fun (m : Nat) => V.int m))) ⟨cF.trans (same_but (same_upd nD)), BF.new nD, [], rfl, fun _ h => (by cases h), upd_same⟩ (fun j G hj h => ?_) (fun G h => ?_)
    · obtain ⟨cG, BG, ms, lm, hm, hD⟩ := h
      have hj2 : j < 2 := by
        have : (2 : Int).toNat = 2 := rfl
        omega
      refine ⟨rfl, yes_ite ?_⟩
      refine ⟨_, rfl, .ref b, rfl, _, rfl, _, _, rfl, rfl, b, _, _, rfl, BG, by omega, by omega, by omega, fun G1 r1 u1 B1 l1 h1 => ⟨(show 3 ≤ sizeLine by decide), fun l nl => ?_⟩⟩
      obtain ⟨r1, rfl⟩ := nat_of l1
      have yl := same_upd nl (o := .lst [.int 0, .int (n : Nat), .int (r1 : Nat)])
      have hl := upd_same (H := G1) (a := l) (o := .lst [.int 0, .int (n : Nat), .int (r1 : Nat)])
      have lb := ne_new B1 nl
      refine ⟨.ref b, rfl, b, 3, _, rfl, B1.same yl, by decide, by decide, by omega, fun G2 r2 u2 B2 l2 h2 => ?_⟩
      obtain ⟨m, em, hmn⟩ := at_menu (Pr := fun v => 0 ≤ v ∧ v ≤ n) (xs := [0, (n : Nat), (r1 : Nat)]) (r := r2) l2 h2 (fun x hx => by
        simp only [List.mem_cons, List.not_mem_nil, or_false] at hx
        rcases hx with rfl | rfl | rfl <;> omega)
      obtain ⟨m, rfl⟩ := nat_of hmn.1
      refine ⟨l, _, _, _, rfl, rfl, SqL.mk (u2 _ _ lb hl), em, _, u2 _ _ nDb (yl _ _ (u1 _ _ nDb hD)), by rw [List.length_map]; show _ < 16777216; omega, fun x o hx e => ?_, (B2.other nDb).mono (by omega), ms ++ [m], by rw [List.length_append, lm]; rfl, fun x hx => ?_, by rw [upd_same, List.map_append]; rfl⟩
      · rw [upd_ne (fun z => by rw [z, nD3] at e; cases e)]
        exact u2 _ _ hx (yl _ _ (u1 _ _ hx (cG _ _ hx e)))
      · rcases List.mem_append.mp hx with hx | hx
        · exact hm x hx
        · rw [List.mem_singleton.mp hx]
          omega
    obtain ⟨cG, BG, ms, lm, hm, hD⟩ := h
    obtain ⟨α, β, rfl⟩ : ∃ α β, ms = [α, β] := by
      match ms, lm with
      | [x, y], _ => exact ⟨x, y, rfl⟩
    have hα := hm α (by simp)
    have hβ := hm β (by simp)
    refine ⟨D, _, rfl, .inl (.inl hD), rfl, _, _, rfl, _, _, rfl, rfl, ?_⟩
    have e1 : (if (α : Int) + (β : Int) - (n : Int) > 0 then (α : Int) + (β : Int) - (n : Int) else 0) = ((α + β - n : Nat) : Int) := by
      split <;> omega
    have e2 : (if (β : Int) < (α : Int) then (β : Int) else (α : Int)) = ((min α β : Nat) : Int) := by
      split <;> omega
    refine ⟨_, rfl, _, rfl, _, _, rfl, rfl, _, rfl, _, _, rfl, rfl, _, _, rfl, ?_⟩
    dsimp only
    rw [e1]
    refine ⟨_, rfl, _, rfl, _, _, rfl, ?_⟩
    dsimp only
    rw [e2]
    refine ⟨_, _, rfl, ?_⟩
    generalize hlo : α + β - n = lo
    generalize hhi : min α β = hi
    clear e1 e2
    refine ⟨_, rfl, _, rfl, _, rfl, .ref b, rfl, _, rfl, _, rfl, _, _, rfl, rfl, _, _, rfl, rfl, b, _, _, rfl, BG, by omega, by omega, by omega, fun G1 r1 u1 B1 l1 h1 => ?_⟩
    obtain ⟨r1, rfl⟩ := nat_of l1
    refine ⟨_, _, rfl, rfl, _, rfl, _, _, rfl, rfl, _, rfl, _, _, rfl, rfl, _, rfl, _, _, rfl, rfl, ⟨by decide, by decide, by decide⟩, (show 7 ≤ sizeLine by decide), fun tt ntt => ?_⟩
    have stt := same_upd ntt (o := .tup [.int (lo : Nat), .int (hi : Nat), .int ((lo : Nat) + (r1 : Nat)), .int ((lo : Nat) - 1), .int ((hi : Nat) + 1), .int (-7), .int (10 ^ (9 : Int).toNat)])
    have htt := upd_same (H := G1) (a := tt) (o := .tup [.int (lo : Nat), .int (hi : Nat), .int ((lo : Nat) + (r1 : Nat)), .int ((lo : Nat) - 1), .int ((hi : Nat) + 1), .int (-7), .int (10 ^ (9 : Int).toNat)])
    have bZ : But b H3 (upd G1 tt (.tup [.int (lo : Nat), .int (hi : Nat), .int ((lo : Nat) + (r1 : Nat)), .int ((lo : Nat) - 1), .int ((hi : Nat) + 1), .int (-7), .int (10 ^ (9 : Int).toNat)])) := (cG.trans u1).trans (same_but stt)
    have BZ := B1.same stt
    generalize upd G1 tt (.tup [.int (lo : Nat), .int (hi : Nat), .int ((lo : Nat) + (r1 : Nat)), .int ((lo : Nat) - 1), .int ((hi : Nat) + 1), .int (-7), .int (10 ^ (9 : Int).toNat)]) = Z0 at htt bZ BZ ⊢
    have tZ1 := (Bus.of bZ).tabG hB t31
    have tZ2 := (Bus.of bZ).tabG hB t32
    clear cF BF cG BG u1 B1 stt ntt hD h1
    refine ⟨tt, rfl, ⟨_, SqT.mk htt⟩, for_tup (xs := [.int (lo : Nat), .int (hi : Nat), .int ((lo : Nat) + (r1 : Nat)), .int ((lo : Nat) - 1), .int ((hi : Nat) + 1), .int (-7), .int (10 ^ (9 : Int).toNat)]) (fun j σ Z => (∃ y10 y11 y12 y13 y14 y15 y16, σ = [some (.ref a), some (.ref c), some (.int (0 + (i : Int))), some (.ref b), some (.bl gr), some (.int (n : Nat)), some (.int (α : Nat)), some (.int (β : Nat)), some (.int (lo : Nat)), some (.int (hi : Nat)), y10, y11, y12, y13, y14, y15, y16]) ∧ Bus b Z0 Z ∧ Bx Z b (100 + 1000 * j)) ⟨⟨y10, y11, y12, y13, y14, y15, y16, rfl⟩, Bus.refl b Z0, BZ.mono (by omega)⟩ ?_ ?_ ?_⟩
    rotate_right
    · rintro σ Z ⟨⟨y10, y11, y12, y13, y14, y15, y16, rfl⟩, bF, BF⟩
      exact ⟨_, _, _, _, _, _, _, _, _, _, _, _, _, _, _, rfl, bus_same nb1 s13 ((Bus.of bZ).trans bF)⟩
    · rintro j σ Z _ ⟨_, bF, BF⟩
      exact SqT.mk (bF.tup BZ htt)
    rintro j xm σ Z hx ⟨⟨y10, y11, y12, y13, y14, y15, y16, rfl⟩, bF, BF⟩
    obtain ⟨met, rfl⟩ : ∃ met : Int, xm = .int met := by
      have := List.mem_of_getElem? hx
      simp only [List.mem_cons, List.not_mem_nil, or_false] at this
      rcases this with rfl | rfl | rfl | rfl | rfl | rfl | rfl <;> exact ⟨_, rfl⟩
    have hj : j < 7 := (List.getElem?_eq_some_iff.mp hx).1
    clear hx htt
    have fr : ∀ {W : Hp}, Bus b Z0 W → GxR.TabG W T.P_is_row ∧ GxR.TabG W T.P_both := fun s => ⟨s.tabG BZ tZ1, s.tabG BZ tZ2⟩
    refine ⟨_, rfl, _, rfl, _, rfl, _, rfl, n, α, β, met, rfl, n1, n4, hα, hβ, ?_⟩
    by_cases hm : ∃ m : Nat, met = (m : Nat) ∧ MetOk n α β m
    · obtain ⟨m, rfl, mo⟩ := hm
      refine .inl ⟨m, rfl, mo, fun Z1 p0 x0 y0 z1 hp0 hx0 hy0 => ?_⟩
      have bz1 : Bus b Z0 Z1 := bF.trans (.sam (.of z1))
      have B1 := BF.same z1
      have a1 := mo.ha
      have a2 := mo.hb
      have a3 := mo.hn
      have P0 : PairAt b Z1 p0 x0 y0 (nearR n α) (lrB n α β m) := ⟨hp0, hx0, hy0, B1.ne_tup hp0, hx0.ne B1, hy0.ne B1⟩
      refine ⟨_, rfl, _, rfl, _, _, rfl, rfl, _, rfl, ?_⟩
      rw [decide_eq_true (show ((lo : Nat) : Int) ≤ (m : Nat) by omega)]
      refine iteT ⟨_, rfl, _, _, rfl, rfl, _, rfl, ?_⟩
      rw [decide_eq_true (show ((m : Nat) : Int) ≤ (hi : Nat) by omega)]
      refine iteF ?_
      refine ⟨_, rfl, .ref b, rfl, _, rfl, _, rfl, _, rfl, _, rfl, b, _, n, α, β, m, rfl, B1, n1, n4, mo, by omega, fun Z2 p1 x1 y1 rs1 ss1 c2 B2 P1 R1 => ⟨(show 2 ≤ sizeLine by decide), fun tp ntp => ?_⟩⟩
      have st := same_upd ntp (o := .tup [.ref p0, .ref p1])
      have htp := upd_same (H := Z2) (a := tp) (o := .tup [.ref p0, .ref p1])
      have bz2 := (bz1.trans (.of c2)).trans (.sam (.of st))
      have B3 := B2.same st
      have PP : ∀ v, v ∈ [V.ref p0, .ref p1] → ∃ t x y rs ss, v = .ref t ∧ PairAt b (upd Z2 tp (.tup [.ref p0, .ref p1])) t x y rs ss ∧ RowsOk n α β m rs ss := fun v hv => by
        simp only [List.mem_cons, List.not_mem_nil, or_false] at hv
        rcases hv with rfl | rfl
        · exact ⟨p0, x0, y0, _, _, rfl, (P0.but c2).but (same_but st), near_ok mo⟩
        · exact ⟨p1, x1, y1, _, _, rfl, P1.but (same_but st), R1⟩
      generalize upd Z2 tp (.tup [.ref p0, .ref p1]) = Z3 at htp bz2 B3 PP ⊢
      clear P0 P1 R1 c2 B2 st ntp hp0 hx0 hy0 z1 B1 bz1
      refine ⟨tp, rfl, ⟨_, SqT.mk htp⟩, for_tup (xs := [V.ref p0, .ref p1]) (fun k σ W => (∃ y12 y13 y14 y15 y16, σ = [some (.ref a), some (.ref c), some (.int (0 + (i : Int))), some (.ref b), some (.bl gr), some (.int (n : Nat)), some (.int (α : Nat)), some (.int (β : Nat)), some (.int (lo : Nat)), some (.int (hi : Nat)), some (.int (m : Nat)), some (.ref p0), y12, y13, y14, y15, y16]) ∧ Bus b Z3 W ∧ Bx W b (100 + 1000 * j + 401 + 100 * k)) ⟨⟨y12, y13, y14, y15, y16, rfl⟩, Bus.refl b Z3, B3⟩ ?_ ?_ ?_⟩
      rotate_right
      · rintro σ W ⟨⟨y12, y13, y14, y15, y16, rfl⟩, bW, BW⟩
        exact ⟨⟨_, _, _, _, _, _, _, rfl⟩, bz2.trans bW, BW.mono (by show _ + 100 * 2 ≤ _; omega)⟩
      · rintro k σ W _ ⟨_, bW, BW⟩
        exact SqT.mk (bW.tup B3 htp)
      rintro k v σ W hv ⟨⟨y12, y13, y14, y15, y16, rfl⟩, bW, BW⟩
      obtain ⟨t, x, y, rs, ss, rfl, Pt, Rt⟩ := PP v (List.mem_of_getElem? hv)
      have hk : k < 2 := (List.getElem?_eq_some_iff.mp hv).1
      have PW := Pt.bus bW
      obtain ⟨f1, f2⟩ := fr (bz2.trans bW)
      have tt1 : ∀ r : Bool, (r = true ↔ DueD n α β (m : Nat) (.tuple [.tuple (rs.map PyData.int), .tuple (ss.map PyData.int)])) → r = true := fun r h => h.mpr Rt.due
      refine ⟨_, rfl, _, rfl, _, rfl, _, rfl, .ref t, rfl, b, n, α, β, (m : Nat), .ref t, _, rfl, n1, n4, PW.th, fun W1 r w1 hr => ?_⟩
      obtain rfl := tt1 r hr
      refine ⟨_, rfl, iteF ?_⟩
      have PW1 := PW.bus (.sam (.of w1))
      refine ⟨_, rfl, _, rfl, _, rfl, _, rfl, .ref t, rfl, (· = b), n, α, β, (m : Nat), .ref t, _, rfl, n1, n4, PW1.th.1, (Sam.of w1).tabG f1, (Sam.of w1).tabG f2, fun W2 r w2 hr => ?_⟩
      obtain rfl := tt1 r hr
      refine ⟨true, true, rfl, rfl, _, rfl, iteF ?_⟩
      have PW2 := PW1.bus (.sam w2)
      have bW2 : Bus b Z3 W2 := bW.trans (.sam ((Sam.of w1).trans w2))
      have BW2 := (BW.same w1).sam w2
      clear PW PW1 f1 f2 bW BW w1 w2 hr
      refine ⟨4, rfl, by decide, by decide, for_range (n := 4) (fun l σ W => (∃ y12 y13 y14 y16, σ = [some (.ref a), some (.ref c), some (.int (0 + (i : Int))), some (.ref b), some (.bl gr), some (.int (n : Nat)), some (.int (α : Nat)), some (.int (β : Nat)), some (.int (lo : Nat)), some (.int (hi : Nat)), some (.int (m : Nat)), some (.ref p0), y12, y13, y14, some (.ref t), y16]) ∧ Bus b W2 W ∧ Bx W b (100 + 1000 * j + 401 + 100 * k + 6 * l)) ⟨⟨y12, y13, y14, y16, rfl⟩, Bus.refl b W2, BW2⟩ ?_ ?_⟩
      rotate_right
      · rintro σ W ⟨⟨y12, y13, y14, y16, rfl⟩, bW, BW⟩
        exact ⟨⟨_, _, _, _, _, rfl⟩, bW2.trans bW, BW.mono (by omega)⟩
      rintro l σ W hl ⟨⟨y12, y13, y14, y16, rfl⟩, bW, BW⟩
      refine ⟨.ref b, rfl, .ref t, rfl, b, t, x, y, _, rs, ss, rfl, BW, by omega, PW2.bus bW, Rt.1, Rt.2.1, by have := Rt.2.2.1; omega, by have := Rt.2.2.1; omega, by have := Rt.2.2.2.1; omega, by have := Rt.2.2.2.1; omega, fun W3 v d c3 B3' Tv => ?_⟩
      have bz3 := (bz2.trans bW2).trans (bW.trans (.of c3))
      obtain ⟨f1, f2⟩ := fr bz3
      refine ⟨_, rfl, _, rfl, _, rfl, _, rfl, v, rfl, (· = b), n, α, β, (m : Nat), v, d, rfl, n1, n4, Tv.1, f1, f2, fun W4 r4 w4 hr4 => ?_⟩
      refine ⟨_, rfl, _, _, _, _, _, rfl, .ty "bool", .base (.bl _), kBB, _, rfl, iteF ?_⟩
      refine ⟨_, rfl, _, rfl, _, rfl, _, rfl, _, rfl, v, rfl, b, n, α, β, (m : Nat), v, d, rfl, n1, n4, Tv.bus (.sam w4), fun W5 r5 w5 hr5 => ⟨rfl, _, rfl, ?_⟩⟩
      have e : r4 = r5 := by
        cases r4 <;> cases r5
        · rfl
        · exact (hr4.mpr (hr5.mp rfl))
        · exact (hr5.mpr (hr4.mp rfl)).symm
        · rfl
      subst e
      rw [decide_eq_true rfl]
      refine iteF ⟨⟨_, _, _, _, rfl⟩, ((bW.trans (.of c3)).trans (.sam w4)).trans (.sam (.of w5)), ?_⟩
      exact ((B3'.sam w4).same w5).mono (by omega)
    · refine .inr ⟨hm, fun Z1 z1 => ?_⟩
      have bz1 : Bus b Z0 Z1 := bF.trans (.sam (.of z1))
      have B1 := BF.same z1
      have lok : MetOk n α β lo := ⟨by omega, by omega, by omega⟩
      have hok : MetOk n α β hi := ⟨by omega, by omega, by omega⟩
      refine nx_via (σ := [some (.ref a), some (.ref c), some (.int (0 + (i : Int))), some (.ref b), some (.bl gr), some (.int (n : Nat)), some (.int (α : Nat)), some (.int (β : Nat)), some (.int (lo : Nat)), some (.int (hi : Nat)), some (.int met), some (.str "none"), y12, y13, y14, y15, y16]) (fun _ _ => False) (fun N' _ => ?_) (fun _ _ h => h.elim)
      have out : ¬ (((lo : Nat) : Int) ≤ met ∧ met ≤ (hi : Nat)) := fun ⟨h1, h2⟩ => hm ⟨met.toNat, by omega, ⟨by omega, by omega, by omega⟩⟩
      refine ifs_true (fun Pk hP => ?_) ?_
      · refine ⟨_, rfl, _, rfl, _, _, rfl, rfl, _, rfl, ?_⟩
        by_cases c1 : ((lo : Nat) : Int) ≤ met
        · rw [decide_eq_true c1]
          refine iteT ⟨_, rfl, _, _, rfl, rfl, _, rfl, ?_⟩
          rw [decide_eq_false (fun z => out ⟨c1, z⟩)]
          exact hP
        · rw [decide_eq_false c1]
          exact iteF ⟨_, rfl, hP⟩
      let st := fun (t : V) (v13 v14 : Option V) => [some (.ref a), some (.ref c), some (.int (0 + (i : Int))), some (.ref b), some (.bl gr), some (.int (n : Nat)), some (.int (α : Nat)), some (.int (β : Nat)), some (.int (lo : Nat)), some (.int (hi : Nat)), some (.int met), some (.str "none"), some t, v13, v14, y15, y16]
      refine seq_via (fun σ Z => ∃ (t x y : Addr) (rs ss : List Int) (m : Nat), σ = st (.ref t) y13 y14 ∧ Bus b Z1 Z ∧ Bx Z b (100 + 1000 * j + 401) ∧ PairAt b Z t x y rs ss ∧ RowsOk n α β m rs ss ∧ MetOk n α β m) (fun N2 key => ?_) ?_
      · refine ⟨.ref b, rfl, _, rfl, _, rfl, _, rfl, _, rfl, _, rfl, _, _, rfl, rfl, _, rfl, ite2 (fun _ => ?_) (fun _ => ?_)⟩
        · exact ⟨_, rfl, b, _, n, α, β, lo, rfl, B1, n1, n4, lok, by omega, fun Z2 t x y rs ss c2 B2 P2 R2 => key _ _ ⟨t, x, y, rs, ss, lo, rfl, .of c2, B2, P2, R2, lok⟩⟩
        · exact ⟨_, rfl, b, _, n, α, β, hi, rfl, B1, n1, n4, hok, by omega, fun Z2 t x y rs ss c2 B2 P2 R2 => key _ _ ⟨t, x, y, rs, ss, hi, rfl, .of c2, B2, P2, R2, hok⟩⟩
      rintro σ Z2 ⟨t, x, y, rs, ss, m, rfl, c2, B2, P2, R2, mo⟩
      have ne : ¬ ((m : Nat) : Int) = met := fun z => hm ⟨m, z.symm, mo⟩
      have nd : ¬ DueD n α β met (.tuple [.tuple (rs.map PyData.int), .tuple (ss.map PyData.int)]) := by
        rintro ⟨rs', ss', e, _, _, _, _, _, _, h5⟩
        simp only [PyData.tuple.injEq, List.cons.injEq, and_true] at e
        obtain rfl := map_int_inj e.1
        obtain rfl := map_int_inj e.2
        exact ne (R2.2.2.2.2.2.2.symm.trans h5)
      have bz2 := bz1.trans c2
      refine seq_via (σ := st (.ref t) y13 y14) (fun σ Z => (∃ v13 v14, σ = st (.ref t) v13 v14) ∧ Bus b Z2 Z ∧ Bx Z b (100 + 1000 * j + 500)) (fun N2 key => ?_) ?_
      · have rs1 : 1 ≤ rs.length ∧ rs.length ≤ 4096 ∧ 1 ≤ ss.length ∧ ss.length ≤ 4096 := by
          have := R2.2.2.1
          have := R2.2.2.2.1
          omega
        refine ⟨.ref t, rfl, .ref b, rfl, .ref t, rfl, b, t, x, y, _, rs, ss, rfl, B2, by omega, P2, R2.1, R2.2.1, rs1.1, rs1.2.1, rs1.2.2.1, rs1.2.2.2, fun Z3 v1 d1 c3 B3 T1 => ?_⟩
        refine ⟨.ref b, rfl, .ref t, rfl, b, t, x, y, _, rs, ss, rfl, B3, by omega, P2.but c3, R2.1, R2.2.1, rs1.1, rs1.2.1, rs1.2.2.1, rs1.2.2.2, fun Z4 v2 d2 c4 B4 T2 => ⟨(show 3 ≤ sizeLine by decide), fun tp ntp => ?_⟩⟩
        have s5 := same_upd ntp (o := .tup [.ref t, v1, v2])
        have htp := upd_same (H := Z4) (a := tp) (o := .tup [.ref t, v1, v2])
        have c5 : But b Z2 (upd Z4 tp (.tup [.ref t, v1, v2])) := (c3.trans c4).trans (same_but s5)
        have B5 := B4.same s5
        have TT : ∀ v, v ∈ [V.ref t, v1, v2] → ∃ d, Th b (upd Z4 tp (.tup [.ref t, v1, v2])) v d := fun v hv => by
          simp only [List.mem_cons, List.not_mem_nil, or_false] at hv
          rcases hv with rfl | rfl | rfl
          · exact ⟨_, (P2.but c5).th⟩
          · exact ⟨d1, (T1.but c4).same s5⟩
          · exact ⟨d2, T2.same s5⟩
        generalize upd Z4 tp (.tup [.ref t, v1, v2]) = Z5 at htp c5 B5 TT ⊢
        clear c3 c4 T1 T2 B3 B4 s5 ntp
        refine ⟨tp, rfl, ⟨_, SqT.mk htp⟩, for_tup (xs := [V.ref t, v1, v2]) (fun k σ W => (∃ v13 v14, σ = st (.ref t) v13 v14) ∧ Bus b Z5 W ∧ Bx W b (100 + 1000 * j + 500)) ⟨⟨y13, y14, rfl⟩, Bus.refl b Z5, B5.mono (by omega)⟩ ?_ ?_ ?_⟩
        rotate_right
        · rintro σ W ⟨⟨v13, v14, rfl⟩, bW, BW⟩
          exact key _ _ ⟨⟨_, _, rfl⟩, (Bus.of c5).trans bW, BW⟩
        · rintro k σ W _ ⟨_, bW, BW⟩
          exact SqT.mk (bW.tup B5 htp)
        rintro k v σ W hv ⟨⟨v13, v14, rfl⟩, bW, BW⟩
        obtain ⟨d, Tv⟩ := TT v (List.mem_of_getElem? hv)
        replace Tv := Tv.bus bW
        obtain ⟨f1, f2⟩ := fr (bz2.trans ((Bus.of c5).trans bW))
        refine ⟨_, rfl, _, rfl, _, rfl, _, rfl, v, rfl, (· = b), n, α, β, met, v, d, rfl, n1, n4, Tv.1, f1, f2, fun W4 r4 w4 hr4 => ?_⟩
        refine ⟨_, rfl, _, _, _, _, _, rfl, .ty "bool", .base (.bl _), kBB, _, rfl, iteF ?_⟩
        refine ⟨_, rfl, _, rfl, _, rfl, _, rfl, _, rfl, v, rfl, b, n, α, β, met, v, d, rfl, n1, n4, Tv.bus (.sam w4), fun W5 r5 w5 hr5 => ⟨rfl, _, rfl, ?_⟩⟩
        have e : r4 = r5 := by
          cases r4 <;> cases r5
          · rfl
          · exact (hr4.mpr (hr5.mp rfl))
          · exact (hr5.mpr (hr4.mp rfl)).symm
          · rfl
        subst e
        rw [decide_eq_true rfl]
        exact iteF ⟨⟨_, _, rfl⟩, (bW.trans (.sam w4)).trans (.sam (.of w5)), (BW.sam w4).same w5⟩
      rintro σ Z ⟨⟨v13, v14, rfl⟩, cZ, BZ'⟩
      obtain ⟨f1, f2⟩ := fr (bz2.trans cZ)
      refine ⟨_, rfl, rfl, _, rfl, iteF ?_⟩
      refine ⟨_, rfl, _, rfl, _, rfl, _, rfl, .ref t, rfl, (· = b), n, α, β, met, .ref t, _, rfl, n1, n4, (P2.bus cZ).th.1, f1, f2, fun W r w2 hr => ?_⟩
      have : r = false := by
        cases r with
        | false => rfl
        | true => exact absurd (hr.mp rfl) nd
      subst this
      refine ⟨false, false, rfl, rfl, _, rfl, iteF ?_⟩
      exact ⟨⟨_, _, _, _, _, _, _, rfl⟩, (bz2.trans cZ).trans (.sam w2), (BZ'.sam w2).mono (by omega)⟩
end
def d_is_number : He.DefD := ⟨("is_number", none), "is_number", "is_number", defArgs s_is_number, defBody s_is_number, defScope s_is_number, [], []⟩
def d_is_within : He.DefD := ⟨("is_within", none), "is_within", "is_within", defArgs s_is_within, defBody s_is_within, defScope s_is_within, [], []⟩
def d_is_bit : He.DefD := ⟨("is_bit", none), "is_bit", "is_bit", defArgs s_is_bit, defBody s_is_bit, defScope s_is_bit, [], []⟩
def d_is_row : He.DefD := ⟨("is_row", none), "is_row", "is_row", defArgs s_is_row, defBody s_is_row, defScope s_is_row, [], []⟩
def d_refuse_unlike : He.DefD := ⟨("refuse_unlike", none), "refuse_unlike", "refuse_unlike", defArgs s_refuse_unlike, defBody s_refuse_unlike, defScope s_refuse_unlike, [], []⟩
def d_ones : He.DefD := ⟨("ones", none), "ones", "ones", defArgs s_ones, defBody s_ones, defScope s_ones, [], []⟩
def d_both : He.DefD := ⟨("both", none), "both", "both", defArgs s_both, defBody s_both, defScope s_both, [], []⟩
def d_overlap : He.DefD := ⟨("overlap", none), "overlap", "overlap", defArgs s_overlap, defBody s_overlap, defScope s_overlap, [], []⟩
def d_overlap_ends : He.DefD := ⟨("overlap_ends", none), "overlap_ends", "overlap_ends", defArgs s_overlap_ends, defBody s_overlap_ends, defScope s_overlap_ends, [], []⟩
def d_leaning_rows : He.DefD := ⟨("leaning_rows", none), "leaning_rows", "leaning_rows", defArgs s_leaning_rows, defBody s_leaning_rows, defScope s_leaning_rows, [], []⟩
def d_shows_rows : He.DefD := ⟨("shows_rows", none), "shows_rows", "shows_rows", defArgs s_shows_rows, defBody s_shows_rows, defScope s_shows_rows, [], []⟩
def d__law_box : He.DefD := ⟨("_law_box", none), "_law_box", "_law_box", defArgs s__law_box, defBody s__law_box, defScope s__law_box, [], []⟩
def d__law_take : He.DefD := ⟨("_law_take", none), "_law_take", "_law_take", defArgs s__law_take, defBody s__law_take, defScope s__law_take, [], []⟩
def d__law_folded : He.DefD := ⟨("_law_folded", none), "_law_folded", "_law_folded", defArgs s__law_folded, defBody s__law_folded, defScope s__law_folded, [], []⟩
def d__law_told : He.DefD := ⟨("_law_told", none), "_law_told", "_law_told", defArgs s__law_told, defBody s__law_told, defScope s__law_told, [], []⟩
def d__law_due : He.DefD := ⟨("_law_due", none), "_law_due", "_law_due", defArgs s__law_due, defBody s__law_due, defScope s__law_due, [], []⟩
def d__law_made : He.DefD := ⟨("_law_made", none), "_law_made", "_law_made", defArgs s__law_made, defBody s__law_made, defScope s__law_made, [], []⟩
def d__law_otherwise : He.DefD := ⟨("_law_otherwise", none), "_law_otherwise", "_law_otherwise", defArgs s__law_otherwise, defBody s__law_otherwise, defScope s__law_otherwise, [], []⟩
def d_law : He.DefD := ⟨("law", none), "law", "law", defArgs s_law, defBody s_law, defScope s_law, [], []⟩
def hfn : List He.DefD := [d_is_number, d_is_within, d_is_bit, d_is_row, d_refuse_unlike, d_ones, d_both, d_overlap, d_overlap_ends, d_leaning_rows, d_shows_rows, d__law_box, d__law_take, d__law_folded, d__law_told, d__law_due, d__law_made, d__law_otherwise, d_law]
def hfa : List He.Fa := [.glo "is_number", .glo "is_within", .glo "is_bit", .glo "is_row", .glo "refuse_unlike", .glo "ones", .glo "both", .glo "overlap", .glo "overlap_ends", .glo "leaning_rows", .glo "shows_rows", .glo "_law_box", .glo "_law_take", .glo "_law_folded", .glo "_law_told", .glo "_law_due", .glo "_law_made", .glo "_law_otherwise", .glo "law", .free "ValueError", .free "abs", .free "all", .free "any", .free "bool", .free "divmod", .free "enumerate", .free "int", .free "isinstance", .free "len", .free "list", .free "max", .free "min", .free "range", .free "sum", .free "tuple", .free "zip", .glo "OnesError", .glo "Unlike", .glo "NoSuch", .glo "NoOne", .glo "NoRound", .glo "BadText", .glo "BadSheet", .exc "NoSuch", .exm "NoSuch" "OnesError" true, .int "LONGEST" 4096]
def hts : List He.Tab := []
def htf : List He.Defn := [("is_row", none), ("both", none)]
abbrev Hex (K : PySem.W.Frag) : Prop := (PySem.W.findIn K (.ref (He.ga K "NoSuch")) "__getattribute__" = some (some (.builtin "BaseException.__getattribute__"))) ∧ (PySem.W.findIn K (.ref (He.ga K "NoSuch")) "__getattr__" = some none) ∧ (PySem.W.subIn K (.ref (He.ga K "NoSuch")) (.type "BaseException") = some true) ∧ (PySem.W.hasDictIn K (He.ga K "NoSuch") = true) ∧ (PySem.W.findIn K (.ref (He.ga K "NoSuch")) "__class__" = some (some (.builtin "object.__class__"))) ∧ (PySem.W.specialIn K (.builtin "object.__class__") "__get__" = some (some (.builtin "getset_descriptor.__get__"))) ∧ (PySem.W.takesIn K (.builtin "object.__class__") = some true) ∧ (PySem.W.mroIn K (He.ga K "NoSuch") (.type "object") = some true) ∧ (PySem.W.kitOne K (.ref (He.ga K "NoSuch")) (.ref (He.ga K "OnesError")) = some true) ∧ (PySem.W.kitOne K (.ref (He.ga K "NoSuch")) (.ref (He.ga K "Unlike")) = some false) ∧ (PySem.W.kitOne K (.ref (He.ga K "NoSuch")) (.ref (He.ga K "NoSuch")) = some true) ∧ (PySem.W.kitOne K (.ref (He.ga K "NoSuch")) (.ref (He.ga K "NoOne")) = some false) ∧ (PySem.W.kitOne K (.ref (He.ga K "NoSuch")) (.ref (He.ga K "NoRound")) = some false) ∧ (PySem.W.kitOne K (.ref (He.ga K "NoSuch")) (.ref (He.ga K "BadText")) = some false) ∧ (PySem.W.kitOne K (.ref (He.ga K "NoSuch")) (.ref (He.ga K "BadSheet")) = some false) ∧ (PySem.W.kitOne K (.ref (He.ga K "NoSuch")) (.type "ValueError") = some true)
instance (K : PySem.W.Frag) : Decidable (Hex K) := inferInstance
def hex : PySem.W.Frag → Bool := fun K => decide (Hex K)
abbrev R : PySem.W.OpenRow := PySem.W.OpenLaw.row PySem.Challenge.rw_shareones_k08_rows_that_meet_so_often
abbrev hk : PySem.W.Hook := He.hookX 4 hfa hfn hts htf hex
def ob (s : PySem.W.SharedT) : He.AlX := He.obsX 4 hfa hfn hts htf hex (HandSHeadRun.getT s)
theorem ob_eq (s : PySem.W.SharedT) : ob s = hk.obs s.abs := He.obsX_eq (HandSHeadRun.getT_eq s)
def loose : List Str := "is_number" :: "is_within" :: "is_bit" :: "is_row" :: "refuse_unlike" :: "ones" :: "both" :: "overlap" :: "overlap_ends" :: "leaning_rows" :: "shows_rows" :: "_law_box" :: "_law_take" :: "_law_folded" :: "_law_told" :: "_law_due" :: "_law_made" :: "_law_otherwise" :: "OnesError" :: "Unlike" :: "NoSuch" :: "NoOne" :: "NoRound" :: "BadText" :: "BadSheet" :: "LONGEST" :: []
theorem run (w : World) : HandSHeadRun.RunEq R (PySem.W.view R.prog [31]) hk ob 6000 loose w := by
  intro os
  kernel_rfl
theorem codeAt {K : PySem.W.Frag} {p : He.Defn} : CodeAt K (He.fAd K p) (He.cT K p).1 := fun oc od fd osl lk b e => (He.codeOf_eq lk e).symm
theorem facts {l : PySem.W.OpenLaw} {w : World} {K : PySem.W.Frag} {h : Heap} {mg : Str → Option Value} {f : Addr} (X : K.In h) (G : h.Ns mainGlobals mg) (hfa_ : mg ("law" : Str) = some (.ref f)) (cc : He.SaysX hfa hfn hts htf hex w h K) :
    LamX.LawAtS l w K CX0 7 63 "_law_script" mg f h := by
  have c : He.SaysD hfa hfn K := congrArg (fun z : He.AlT => z.1) cc.t
  obtain ⟨fd_is_number, F_is_number⟩ := c.def_ 0 (d := d_is_number) rfl
  obtain ⟨fd_is_within, F_is_within⟩ := c.def_ 1 (d := d_is_within) rfl
  obtain ⟨fd_is_bit, F_is_bit⟩ := c.def_ 2 (d := d_is_bit) rfl
  obtain ⟨fd_is_row, F_is_row⟩ := c.def_ 3 (d := d_is_row) rfl
  obtain ⟨fd_refuse_unlike, F_refuse_unlike⟩ := c.def_ 4 (d := d_refuse_unlike) rfl
  obtain ⟨fd_ones, F_ones⟩ := c.def_ 5 (d := d_ones) rfl
  obtain ⟨fd_both, F_both⟩ := c.def_ 6 (d := d_both) rfl
  obtain ⟨fd_overlap, F_overlap⟩ := c.def_ 7 (d := d_overlap) rfl
  obtain ⟨fd_overlap_ends, F_overlap_ends⟩ := c.def_ 8 (d := d_overlap_ends) rfl
  obtain ⟨fd_leaning_rows, F_leaning_rows⟩ := c.def_ 9 (d := d_leaning_rows) rfl
  obtain ⟨fd_shows_rows, F_shows_rows⟩ := c.def_ 10 (d := d_shows_rows) rfl
  obtain ⟨fd__law_box, F__law_box⟩ := c.def_ 11 (d := d__law_box) rfl
  obtain ⟨fd__law_take, F__law_take⟩ := c.def_ 12 (d := d__law_take) rfl
  obtain ⟨fd__law_folded, F__law_folded⟩ := c.def_ 13 (d := d__law_folded) rfl
  obtain ⟨fd__law_told, F__law_told⟩ := c.def_ 14 (d := d__law_told) rfl
  obtain ⟨fd__law_due, F__law_due⟩ := c.def_ 15 (d := d__law_due) rfl
  obtain ⟨fd__law_made, F__law_made⟩ := c.def_ 16 (d := d__law_made) rfl
  obtain ⟨fd__law_otherwise, F__law_otherwise⟩ := c.def_ 17 (d := d__law_otherwise) rfl
  obtain ⟨fd_law, F_law⟩ := c.def_ 18 (d := d_law) rfl
  have e := hfa_.symm.trans (He.glo_ok X G (c.fact 18 (f := .glo "law") rfl))
  cases e
  have b := FunD.bindsA (ps := ["_law_script"]) F_law fun _ _ _ _ _ _ us hl => match us, hl with | [_], _ => rfl
  have hm : Hex K := of_decide_eq_true cc.more
  obtain ⟨h0, h1, h2, h3, h4, h5, h6, h7, h8, h9, h10, h11, h12, h13, h14, h15⟩ := hm
  let T : Defs K mg := ⟨_, fd_is_number, F_is_number, (He.glo_ok X G (c.fact 0 (f := .glo "is_number") rfl)), (FunD.bindsN F_is_number fun _ _ _ _ _ _ us hl => match us, hl with | [_], _ => rfl), _, fd_is_within, F_is_within, (He.glo_ok X G (c.fact 1 (f := .glo "is_within") rfl)), (FunD.bindsN F_is_within fun _ _ _ _ _ _ us hl => match us, hl with | [_, _, _], _ => rfl), _, fd_is_bit, F_is_bit, (He.glo_ok X G (c.fact 2 (f := .glo "is_bit") rfl)), (FunD.bindsN F_is_bit fun _ _ _ _ _ _ us hl => match us, hl with | [_], _ => rfl), _, fd_is_row, F_is_row, (He.glo_ok X G (c.fact 3 (f := .glo "is_row") rfl)), (FunD.bindsN F_is_row fun _ _ _ _ _ _ us hl => match us, hl with | [_], _ => rfl), _, fd_refuse_unlike, F_refuse_unlike, (He.glo_ok X G (c.fact 4 (f := .glo "refuse_unlike") rfl)), (FunD.bindsN F_refuse_unlike fun _ _ _ _ _ _ us hl => match us, hl with | [_], _ => rfl), _, fd_ones, F_ones, (He.glo_ok X G (c.fact 5 (f := .glo "ones") rfl)), (FunD.bindsN F_ones fun _ _ _ _ _ _ us hl => match us, hl with | [_], _ => rfl), _, fd_both, F_both, (He.glo_ok X G (c.fact 6 (f := .glo "both") rfl)), (FunD.bindsN F_both fun _ _ _ _ _ _ us hl => match us, hl with | [_, _], _ => rfl), _, fd_overlap, F_overlap, (He.glo_ok X G (c.fact 7 (f := .glo "overlap") rfl)), (FunD.bindsN F_overlap fun _ _ _ _ _ _ us hl => match us, hl with | [_, _], _ => rfl), _, fd_overlap_ends, F_overlap_ends, (He.glo_ok X G (c.fact 8 (f := .glo "overlap_ends") rfl)), (FunD.bindsN F_overlap_ends fun _ _ _ _ _ _ us hl => match us, hl with | [_, _, _], _ => rfl), _, fd_leaning_rows, F_leaning_rows, (He.glo_ok X G (c.fact 9 (f := .glo "leaning_rows") rfl)), (FunD.bindsN F_leaning_rows fun _ _ _ _ _ _ us hl => match us, hl with | [_, _, _, _], _ => rfl), _, fd_shows_rows, F_shows_rows, (He.glo_ok X G (c.fact 10 (f := .glo "shows_rows") rfl)), (FunD.bindsN F_shows_rows fun _ _ _ _ _ _ us hl => match us, hl with | [_, _, _, _, _], _ => rfl), _, fd__law_box, F__law_box, (He.glo_ok X G (c.fact 11 (f := .glo "_law_box") rfl)), (FunD.bindsN F__law_box fun _ _ _ _ _ _ us hl => match us, hl with | [_, _], _ => rfl), _, fd__law_take, F__law_take, (He.glo_ok X G (c.fact 12 (f := .glo "_law_take") rfl)), (FunD.bindsN F__law_take fun _ _ _ _ _ _ us hl => match us, hl with | [_, _], _ => rfl), _, fd__law_folded, F__law_folded, (He.glo_ok X G (c.fact 13 (f := .glo "_law_folded") rfl)), (FunD.bindsN F__law_folded fun _ _ _ _ _ _ us hl => match us, hl with | [_, _], _ => rfl), _, fd__law_told, F__law_told, (He.glo_ok X G (c.fact 14 (f := .glo "_law_told") rfl)), (FunD.bindsN F__law_told fun _ _ _ _ _ _ us hl => match us, hl with | [_, _, _, _], _ => rfl), _, fd__law_due, F__law_due, (He.glo_ok X G (c.fact 15 (f := .glo "_law_due") rfl)), (FunD.bindsN F__law_due fun _ _ _ _ _ _ us hl => match us, hl with | [_, _, _, _, _], _ => rfl), _, fd__law_made, F__law_made, (He.glo_ok X G (c.fact 16 (f := .glo "_law_made") rfl)), (FunD.bindsN F__law_made fun _ _ _ _ _ _ us hl => match us, hl with | [_, _, _, _, _], _ => rfl), _, fd__law_otherwise, F__law_otherwise, (He.glo_ok X G (c.fact 17 (f := .glo "_law_otherwise") rfl)), (FunD.bindsN F__law_otherwise fun _ _ _ _ _ _ us hl => match us, hl with | [_, _], _ => rfl), _, fd_law, F_law, (He.glo_ok X G (c.fact 18 (f := .glo "law") rfl)), (FunD.bindsN F_law fun _ _ _ _ _ _ us hl => match us, hl with | [_], _ => rfl), (He.cT K ("is_row", none)).1, (He.cT K ("is_row", none)).2, codeAt, (He.cT K ("both", none)).1, (He.cT K ("both", none)).2, codeAt, _, (He.glo_ok X G (c.fact 36 (f := .glo "OnesError") rfl)), _, (He.glo_ok X G (c.fact 37 (f := .glo "Unlike") rfl)), _, (He.glo_ok X G (c.fact 38 (f := .glo "NoSuch") rfl)), _, (He.glo_ok X G (c.fact 39 (f := .glo "NoOne") rfl)), _, (He.glo_ok X G (c.fact 40 (f := .glo "NoRound") rfl)), _, (He.glo_ok X G (c.fact 41 (f := .glo "BadText") rfl)), _, (He.glo_ok X G (c.fact 42 (f := .glo "BadSheet") rfl)), (He.exc_ok (c.fact 43 (f := .exc "NoSuch") rfl)).1, (He.exc_ok (c.fact 43 (f := .exc "NoSuch") rfl)).2.1, (He.exc_ok (c.fact 43 (f := .exc "NoSuch") rfl)).2.2.1, (He.exc_ok (c.fact 43 (f := .exc "NoSuch") rfl)).2.2.2, ⟨h0, h1, h2, h3, h4, h5, h6, h7⟩, (He.exm_ok (c.fact 44 (f := .exm "NoSuch" "OnesError" true) rfl)), h8, h9, h10, h11, h12, h13, h14, h15, (He.free_ok X G (c.fact 19 (f := .free "ValueError") rfl)), (He.free_ok X G (c.fact 20 (f := .free "abs") rfl)), (He.free_ok X G (c.fact 21 (f := .free "all") rfl)), (He.free_ok X G (c.fact 22 (f := .free "any") rfl)), (He.free_ok X G (c.fact 23 (f := .free "bool") rfl)), (He.free_ok X G (c.fact 24 (f := .free "divmod") rfl)), (He.free_ok X G (c.fact 25 (f := .free "enumerate") rfl)), (He.free_ok X G (c.fact 26 (f := .free "int") rfl)), (He.free_ok X G (c.fact 27 (f := .free "isinstance") rfl)), (He.free_ok X G (c.fact 28 (f := .free "len") rfl)), (He.free_ok X G (c.fact 29 (f := .free "list") rfl)), (He.free_ok X G (c.fact 30 (f := .free "max") rfl)), (He.free_ok X G (c.fact 31 (f := .free "min") rfl)), (He.free_ok X G (c.fact 32 (f := .free "range") rfl)), (He.free_ok X G (c.fact 33 (f := .free "sum") rfl)), (He.free_ok X G (c.fact 34 (f := .free "tuple") rfl)), (He.free_ok X G (c.fact 35 (f := .free "zip") rfl)), (He.int_ok X G (c.fact 45 (f := .int "LONGEST" 4096) rfl))⟩
  refine ⟨fd_law, htf.map (He.cT K), sp_law T, fun p hp => ?_, fun p hp => ?_, fun p hp => ?_, fun s v => b s [v] rfl, fun H a ns hl _ hH hS => ⟨a, ns, rfl, hS, hl, ?_, fun _ => rfl⟩, fun base _ _ TB => ok_law T ?_⟩
  · obtain ⟨q, hq, rfl⟩ := List.mem_map.mp hp
    exact cc.empty q hq
  · obtain ⟨q, hq, rfl⟩ := List.mem_map.mp hp
    exact cc.out q hq
  · obtain ⟨q, hq, rfl⟩ := List.mem_map.mp hp
    exact PySem.W.codeHd_of_K X (cc.hd q hq)
  · exact ⟨⟨#[], hH _ (List.mem_map.mpr ⟨_, List.mem_cons_self, rfl⟩), trip0⟩, ⟨#[], hH _ (List.mem_map.mpr ⟨_, (List.mem_cons_of_mem _ List.mem_cons_self), rfl⟩), trip0⟩, trivial⟩
  · exact ⟨⟨(TB _ (List.mem_map.mpr ⟨_, List.mem_cons_self, rfl⟩)).code, (TB _ (List.mem_map.mpr ⟨_, List.mem_cons_self, rfl⟩)).bm, (TB _ (List.mem_map.mpr ⟨_, List.mem_cons_self, rfl⟩)).gP⟩, ⟨(TB _ (List.mem_map.mpr ⟨_, (List.mem_cons_of_mem _ List.mem_cons_self), rfl⟩)).code, (TB _ (List.mem_map.mpr ⟨_, (List.mem_cons_of_mem _ List.mem_cons_self), rfl⟩)).bm, (TB _ (List.mem_map.mpr ⟨_, (List.mem_cons_of_mem _ List.mem_cons_self), rfl⟩)).gP⟩⟩
end Fq
open PySem PySem.W PySem.Calls PyProof.Rows
set_option maxHeartbeats 0 in
theorem PySem.Challenge.cw_shareones_k08_rows_that_meet_so_often_holds : PySem.Challenge.rw_shareones_k08_rows_that_meet_so_often.Holds := by
  w_on; o_law
  refine HandSHeadRun.head_any (r := OpenLaw.row PySem.Challenge.rw_shareones_k08_rows_that_meet_so_often) (q := view (OpenLaw.row PySem.Challenge.rw_shareones_k08_rows_that_meet_so_often).prog [31]) (H := Fq.hk) (ob := Fq.ob) (M := 6000) (loose := Fq.loose) (d := HandSHeadRun.topDef (OpenLaw.row PySem.Challenge.rw_shareones_k08_rows_that_meet_so_often).prog 31) (kwd := []) Fq.ob_eq
    (by kernel_rfl) (fun s => by kernel_rfl) Fq.run (by kernel_rfl) (by kernel_rfl) (by kernel_rfl) (by rfl) (by first | assumption | decide +kernel) (by decide +kernel) ⟨rfl, rfl, rfl, rfl, rfl, by decide +kernel⟩ ?hw ?hc
  case hw => w_witness2
  case hc =>
    refine LamX.walk_ofTsE (l := PySem.Challenge.rw_shareones_k08_rows_that_meet_so_often) (n := 63) (k := 7) (x := "_law_script") (CX := fun _ => L2.CX0) rfl (by decide) (by kernel_rfl) ⟨rfl, by decide, by decide⟩ ?F (fun _ _ _ _ _ z => z)
    intro w mg fa h Y G hmg0
    obtain ⟨K, KX, c⟩ := Y
    have hmg : mg ("law" : PySem.Str) = some (.ref fa) := by
      have e : (HandSHeadRun.topDef (OpenLaw.row PySem.Challenge.rw_shareones_k08_rows_that_meet_so_often).prog 31).name = ("law" : PySem.Str) := by kernel_rfl
      rw [← e]
      exact hmg0
    exact ⟨K, KX, Fq.facts KX G hmg c⟩
